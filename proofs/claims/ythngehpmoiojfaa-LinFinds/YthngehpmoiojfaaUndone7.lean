/- Layer 7 (package hist): undone, soonest. -/
import Derived.Test.YthngehpmoiojfaaMinPlain7
import Derived.Test.YthngehpmoiojfaaCallsIn7
import Derived.Test.YthngehpmoiojfaaLists
import Derived.BigQuiet
import Derived.Deep.QuietTactic
import Derived.OwnWalk
namespace Go.Proofs.Ythngehpmoiojfaa
open Go.RowKit

theorem doneB_out {D : List Bool} {k : Nat} (h : D.length ≤ k) : doneB D k = false := by
  unfold doneB
  rw [List.getD_eq_getElem?_getD, List.getElem?_eq_none h]
  rfl
theorem doneB_at {D : List Bool} {k : Nat} (h : k < D.length) : doneB D k = D[k] := by
  unfold doneB
  rw [List.getD_eq_getElem?_getD, List.getElem?_eq_getElem h]
  rfl
set_option maxHeartbeats 2000000 in
theorem hist_undone {w : World} {a : Option Addr} {D : List Bool} {cap : Nat} (hD : ListIn Value.bool w a D) (n : Nat) (hn : n ≤ 100000) :
    Calls Try.prog 53 #[.int .i64 n, .slice a D.length cap] w fun e w' => ∃ r, e = .returned r ∧ NumsIn w' r (undoneTo D n) ∧ Below w.heap.size w w' := by
  obtain ⟨i0, hi, hz0, hz1, hz2⟩ := info_parts infoInt
  have H := Lib.hid hD
  clear hD
  go_enter Try.func53, Try.ntmps53
  go_wp2
  go_loopw [5, 8] (fun o i wr => ∃ (k : Nat) (M : List Int), k ≤ n ∧ M.length ≤ k ∧ i = .int .i64 k ∧ Hid (undoneTo D k = M) ∧ wr.ownsRow w.heap.size 3 1 o M.length (M.map numV) ∧ Below w.heap.size w wr) (fun _ i _ => n - (intOf i).toNat)
  case atStart => exact ⟨0, [], Nat.zero_le _, Nat.le_refl _, rfl, rfl, World.ownsRow_nil _ _ _ _, Below.refl _ _⟩
  case round =>
    obtain ⟨k, M, hk, hM, rfl, F, hrow, hB⟩ := hrel
    have hbs := hB.size
    by_cases hlt : k < n
    · by_cases hkd : k < D.length
      · obtain ⟨b, off, rfl, hb, hc⟩ := (H.out.below hB).at k hkd
        have E := Lib.hid (doneB_at hkd)
        cases hx : D[k]
        · rw [hx] at hc
          have F2 := Lib.hid (undoneTo_yes (E.out.trans hx))
          clear hx
          go_wp2_with (at_builtin; refine wpList_append_own _ rfl _ _ 23 rfl w.heap.size 3 i0 (.int .i64 0) 1 8 Try.underlying23 hi hz0 hz1 hz2 rfl (by decide) _ _ _ rfl (hrow.alloc _) ⟨wr.heap.size, 0, none⟩ 1 1 [.int .i64 (k : Int)] rfl rfl (cell_one_new _ _ _) (by simp [Value.oneCell']) (by simp only [maxLen]; omega) (by omega) (by simp; omega) ?_; intro v' w1 hown' hgrow hnil')
          go_roundw
          case rel => exact ⟨k + 1, M ++ [(k : Int)], by omega, by simp; omega, by go_num, Lib.hid (F2.out.trans (by rw [F.out])), own_snoc hown' (by simp), (hB.alloc hbs _).grown hgrow (by simp; omega) (fun j e => own_base3 hrow j e)⟩
          case measure => simp [intOf]; omega
        · rw [hx] at hc
          have F2 := Lib.hid (undoneTo_no (E.out.trans hx))
          clear hx
          go_wp2
          go_roundw
          case rel => exact ⟨k + 1, M, by omega, by omega, by go_num, Lib.hid (F2.out.trans F.out), hrow, hB⟩
          case measure => simp [intOf]; omega
      · have F2 := Lib.hid (undoneTo_yes (doneB_out (D := D) (k := k) (by omega)))
        have hge : decide ((D.length : Int) ≤ (k : Int)) = true := by simp; omega
        go_wp2_with (at_builtin; refine wpList_append_own _ rfl _ _ 23 rfl w.heap.size 3 i0 (.int .i64 0) 1 8 Try.underlying23 hi hz0 hz1 hz2 rfl (by decide) _ _ _ rfl (hrow.alloc _) ⟨wr.heap.size, 0, none⟩ 1 1 [.int .i64 (k : Int)] rfl rfl (cell_one_new _ _ _) (by simp [Value.oneCell']) (by simp only [maxLen]; omega) (by omega) (by simp; omega) ?_; intro v' w1 hown' hgrow hnil')
        go_roundw
        case rel => exact ⟨k + 1, M ++ [(k : Int)], by omega, by simp; omega, by go_num, Lib.hid (F2.out.trans (by rw [F.out])), own_snoc hown' (by simp), (hB.alloc hbs _).grown hgrow (by simp; omega) (fun j e => own_base3 hrow j e)⟩
        case measure => simp [intOf]; omega
    · obtain rfl : k = n := by omega
      go_wp2
      go_ret
      exact ⟨_, rfl, by rw [F.out]; exact SliceK.of_own hrow, hB⟩

theorem fold_take (L : List CallZ) (out : Int) {P : List Int} {k : Nat} (h : k < P.length) : (P.take (k + 1)).foldl (soonStep L out) (-1) = soonStep L out ((P.take k).foldl (soonStep L out) (-1)) P[k] := by
  rw [List.take_succ_eq_append_getElem h, List.foldl_append]
  rfl
/-- In range, or none. -/
def InR (n : Nat) (b : Int) : Prop := b = -1 ∨ ∃ m : Nat, b = (m : Int) ∧ m < n
set_option maxHeartbeats 2000000 in
theorem hist_soonest {w : World} {v p : Value} {L : List CallZ} {P : List Int} (hL : CallsIn w v L) (hP : NumsIn w p P) (hR : ∀ x ∈ P, ∃ m : Nat, x = (m : Int) ∧ m < L.length) (hPl : P.length ≤ 100000) (out : Int) :
    Calls Try.prog 54 #[v, p, .int .i64 out] w fun e w' => e = .returned (.int .i64 (soonZ L P out)) ∧ ∃ n, w' = w.drewN n := by
  obtain ⟨a, c, rfl, hr⟩ := hL
  obtain ⟨ap, cp, rfl, hp⟩ := hP.form
  have H := Lib.hid hr
  have HP := Lib.hid hp
  have HR := Lib.hid hR
  clear hr hp hP hR
  go_enter Try.func54, Try.ntmps54
  go_wp2
  go_loopw [7, 12] (fun bv i wr => ∃ (k n : Nat) (best : Int), k ≤ P.length ∧ i = .int .i64 k ∧ bv = .int .i64 best ∧ wr = w.drewN n ∧ Hid ((P.take k).foldl (soonStep L out) (-1) = best) ∧ Hid (InR L.length best)) (fun _ i _ => P.length - (intOf i).toNat)
  case atStart => exact ⟨0, 0, -1, Nat.zero_le _, rfl, rfl, rfl, Lib.hid rfl, Lib.hid (.inl rfl)⟩
  case round =>
    obtain ⟨k, n, best, hk, rfl, rfl, rfl, F, B⟩ := hrel
    by_cases hlt : k < P.length
    · obtain ⟨bp, op, rfl, _, hcp⟩ := HP.out k hlt
      have hx := getD_at hlt
      rw [hx] at hcp
      obtain ⟨i, hxi, hil⟩ := HR.out P[k] (List.getElem_mem hlt)
      have hf := fold_take L out hlt
      rw [F.out, hxi] at hf
      rw [hxi] at hcp
      clear hx hxi
      obtain ⟨b, off, rfl, _, hrg⟩ := H.out.range hil
      have k14 : w.cell? ⟨b, off + i * 15 + 14, none⟩ = some (numV L[i].to) := hrg 14 _ rfl
      unfold soonStep at hf
      rw [atZ_nat hil] at hf
      generalize L[i].to = ti at k14 hf
      clear hrg
      by_cases h1 : (i : Int) = out
      · have h1' : ((i : Int) != out) = false := by simpa using h1
        rw [if_neg (fun h => h.1 h1)] at hf
        have F2 := Lib.hid hf
        clear hf h1
        go_wp2
        go_quiet (fail)
        go_wp2
        go_roundw
        case rel => exact ⟨k + 1, _, best, by omega, by go_num, rfl, rfl, F2, B⟩
        case measure => simp [intOf]; omega
      · have h1' : ((i : Int) != out) = true := by simpa using h1
        rcases B.out with rfl | ⟨m, rfl, hm⟩
        · rw [if_pos ⟨h1, .inl rfl⟩] at hf
          have F2 := Lib.hid hf
          have B2 : Hid (InR L.length (i : Int)) := Lib.hid (.inr ⟨i, rfl, hil⟩)
          clear hf h1
          go_wp2
          go_quiet (fail)
          go_wp2
          go_roundw
          case rel => exact ⟨k + 1, _, _, by omega, by go_num, rfl, rfl, F2, B2⟩
          case measure => simp [intOf]; omega
        · obtain ⟨b', off', e', _, hrg'⟩ := H.out.range hm
          cases e'
          have g14 : w.cell? ⟨b, off + m * 15 + 14, none⟩ = some (numV L[m].to) := hrg' 14 _ rfl
          rw [atZ_nat hm] at hf
          generalize L[m].to = tm at g14 hf
          clear hrg'
          have hm1 : ((m : Int) == -1) = false := by simp
          by_cases h2 : ti < tm
          · have h2' : decide (ti < tm) = true := by simpa using h2
            rw [if_pos ⟨h1, .inr h2⟩] at hf
            have F2 := Lib.hid hf
            have B2 : Hid (InR L.length (i : Int)) := Lib.hid (.inr ⟨i, rfl, hil⟩)
            clear hf h1 h2
            go_wp2
            go_quiet (fail)
            go_wp2
            go_roundw
            case rel => exact ⟨k + 1, _, _, by omega, by go_num, rfl, rfl, F2, B2⟩
            case measure => simp [intOf]; omega
          · have h2' : decide (ti < tm) = false := by simpa using h2
            rw [if_neg (fun h => h.2.elim (fun e => by omega) h2)] at hf
            have F2 := Lib.hid hf
            clear hf h1 h2
            go_wp2
            go_quiet (fail)
            go_wp2
            go_roundw
            case rel => exact ⟨k + 1, _, _, by omega, by go_num, rfl, rfl, F2, B⟩
            case measure => simp [intOf]; omega
    · obtain rfl : k = P.length := by omega
      go_wp2
      go_ret
      exact ⟨by rw [← F.out, List.take_length]; rfl, n, rfl⟩

end Go.Proofs.Ythngehpmoiojfaa
