/- Layer 5: which locks of a group anybody holds. -/
import Derived.Test.YthhhbcjnihnlmaaGroup5
namespace Go.Proofs.Ythhhbcjnihnlmaa
open Go.RowKit

/-- The numbers below k of those that owner holds, rising. -/
def heldTo (owner : Int) (O : List Int) (k : Nat) : List Int := ((List.range k).filter fun i => O.getD i 0 == owner).map fun i : Nat => (i : Int)
def heldZ (owner : Int) (O : List Int) : List Int := if 1 ≤ owner then heldTo owner O O.length else []
theorem heldTo_zero (owner : Int) (O : List Int) : heldTo owner O 0 = [] := rfl
theorem heldTo_yes {owner : Int} {O : List Int} {k : Nat} (h : O.getD k 0 = owner) : heldTo owner O (k + 1) = heldTo owner O k ++ [(k : Int)] := by
  unfold heldTo
  rw [List.range_succ, List.filter_append, List.map_append]
  congr 1
  rw [List.filter_cons_of_pos (by simpa using h)]
  rfl
theorem heldTo_no {owner : Int} {O : List Int} {k : Nat} (h : O.getD k 0 ≠ owner) : heldTo owner O (k + 1) = heldTo owner O k := by
  unfold heldTo
  rw [List.range_succ, List.filter_append, List.map_append, List.filter_cons_of_neg (by simpa using h)]
  simp
theorem heldTo_len (owner : Int) (O : List Int) (k : Nat) : (heldTo owner O k).length ≤ k := by
  unfold heldTo
  rw [List.length_map]
  have := List.length_filter_le (fun i => O.getD i 0 == owner) (List.range k)
  simpa using this

theorem group_Held_no {W : World} (v : Value) (owner : Int) (ho : owner < 1) : Calls Try.prog 19 #[v, .int .i64 owner] W fun e w' => e = .returned (.slice none 0 0) ∧ W = w' := by
  go_enter Try.func19, Try.ntmps19
  go_wp2_with fail
  refine (valid_no owner W ho).mono ?_
  rintro e w' ⟨rfl, rfl⟩
  go_wp2
  go_ret
  exact ⟨rfl, rfl⟩
set_option maxHeartbeats 1000000 in
set_option maxRecDepth 100000 in
theorem group_Held_yes {w : World} {G B : Nat} {L : List LS} (h : GroupIs w G B L) (hbig : L.length ≤ 1024) (owner : Int) (ho : 1 ≤ owner) :
    Calls Try.prog 19 #[.pointer (some ⟨G, 0, none⟩), .int .i64 owner] w fun e w' => ∃ r, e = .returned r ∧ NumsIn w' r (heldTo owner (L.map LS.own) L.length) ∧ Below w.heap.size w w' := by
  obtain ⟨i0, hi, hz0, hz1, hz2⟩ := info_parts infoInt
  have H := Lib.hid h
  clear h
  go_enter Try.func19, Try.ntmps19
  go_wp2_with fail
  refine (valid_yes owner w ho).mono ?_
  rintro e w' ⟨rfl, rfl⟩
  go_wp2_with fail
  refine (group_Len H.out).mono ?_
  rintro e w' ⟨rfl, rfl⟩
  go_wp2_with fail
  go_loopw [5, 6, 12] (fun o _ i wr => ∃ (k : Nat) (M : List Int), k ≤ L.length ∧ M.length ≤ k ∧ i = .int .i64 k ∧ Hid (heldTo owner (L.map LS.own) k = M) ∧ wr.ownsRow w.heap.size 3 1 o M.length (M.map numV) ∧ Below w.heap.size w wr) (fun _ _ i _ => L.length - (intOf i).toNat)
  case atStart => exact ⟨0, [], Nat.zero_le _, Nat.le_refl _, rfl, rfl, World.ownsRow_nil _ _ _ _, Below.refl _ _⟩
  case round =>
    obtain ⟨k, M, hk, hM, rfl, F, hrow, hB⟩ := hrel
    have hbs := hB.size
    by_cases hlt : k < L.length
    · have hr := H.out.below hB
      obtain ⟨l, hl, _, _⟩ := hr.lock (List.getElem?_eq_getElem hlt)
      have E := Lib.hid (show (L.map LS.own).getD k 0 = L[k].own by simp [List.getD, List.getElem?_eq_getElem hlt])
      generalize L[k] = s at hl E
      have R := Lib.hid hr
      have K := Lib.hid hl
      clear hr hl
      go_wp2_with fail
      refine (group_At R.out k hlt hbig).mono ?_
      rintro e w' ⟨rfl, rfl⟩
      go_wp2_with fail
      refine (lock_Owner K.out).mono ?_
      rintro e w' ⟨rfl, rfl⟩
      by_cases hy : s.own = owner
      · have hy1 : (s.own == owner) = true := eqI _ _ hy
        have F2 := Lib.hid (heldTo_yes (E.out.trans hy))
        clear hy
        go_wp2_with (at_builtin; refine wpList_append_own _ rfl _ _ 29 rfl w.heap.size 3 i0 (.int .i64 0) 1 8 Try.underlying29 hi hz0 hz1 hz2 rfl (by decide) _ _ _ rfl (hrow.alloc _) ⟨wr.heap.size, 0, none⟩ 1 1 [.int .i64 (k : Int)] rfl rfl (cell_one_new _ _ _) (by simp [Value.oneCell']) (by simp only [maxLen]; omega) (by omega) (by simp; omega) ?_; intro v' w1 hown' hgrow _; obtain ⟨g', cap', rfl⟩ := ownsRow_succ hown')
        go_roundw
        case rel => exact ⟨k + 1, M ++ [(k : Int)], by omega, by simp; omega, by go_num, Lib.hid (F2.out.trans (by rw [F.out])), own_snoc hown' (by simp), (hB.alloc hbs _).grown hgrow (by simp; omega) (fun j e => own_base3 hrow j e)⟩
        case measure => simp [intOf]; omega
      · have hy1 : (s.own == owner) = false := neI _ _ hy
        have F2 := Lib.hid (heldTo_no (fun e => hy (E.out.symm.trans e)))
        clear hy
        go_wp2
        go_roundw
        case rel => exact ⟨k + 1, M, by omega, by omega, by go_num, Lib.hid (F2.out.trans F.out), hrow, hB⟩
        case measure => simp [intOf]; omega
    · obtain rfl : k = L.length := by omega
      go_wp2
      go_ret
      exact ⟨_, rfl, by rw [F.out]; exact SliceK.of_own hrow, hB⟩
theorem group_Held {w : World} {G B : Nat} {L : List LS} (h : GroupIs w G B L) (hbig : L.length ≤ 1024) (owner : Int) :
    Calls Try.prog 19 #[.pointer (some ⟨G, 0, none⟩), .int .i64 owner] w fun e w' => ∃ r, e = .returned r ∧ NumsIn w' r (heldZ owner (L.map LS.own)) ∧ Below w.heap.size w w' := by
  by_cases ho : 1 ≤ owner
  · have e : heldZ owner (L.map LS.own) = heldTo owner (L.map LS.own) L.length := by unfold heldZ; rw [if_pos ho, List.length_map]
    rw [e]
    exact group_Held_yes h hbig owner ho
  · have e : heldZ owner (L.map LS.own) = [] := by unfold heldZ; rw [if_neg ho]
    rw [e]
    exact (group_Held_no _ owner (by omega)).mono fun e w' ⟨h1, h2⟩ => ⟨_, h1, ⟨rfl, .inl ⟨rfl, rfl⟩⟩, by subst h2; exact Below.refl _ _⟩
/-- Of a nil group. -/
theorem group_Held_nil (owner : Int) (w : World) : Calls Try.prog 19 #[.pointer none, .int .i64 owner] w fun e w' => e = .returned (.slice none 0 0) ∧ w = w' := by
  by_cases ho : 1 ≤ owner
  · go_enter Try.func19, Try.ntmps19
    go_wp2_with fail
    refine (valid_yes owner w ho).mono ?_
    rintro e w' ⟨rfl, rfl⟩
    go_wp2_with fail
    refine (group_Len_nil w).mono ?_
    rintro e w' ⟨rfl, rfl⟩
    go_wp2_with fail
    go_loopw [5, 6, 12] (fun o _ i wr => i = .int .i64 0 ∧ o = .slice none 0 0 ∧ w = wr) (fun _ _ _ _ => 0)
    case atStart => exact ⟨rfl, rfl, rfl⟩
    case round =>
      obtain ⟨rfl, rfl, rfl⟩ := hrel
      go_wp2
      go_ret
      exact ⟨rfl, rfl⟩
  · exact group_Held_no _ owner (by omega)

end Go.Proofs.Ythhhbcjnihnlmaa
