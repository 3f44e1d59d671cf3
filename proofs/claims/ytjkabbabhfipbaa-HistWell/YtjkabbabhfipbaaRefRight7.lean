/- Layer 7: bellmanref07.Right. -/
import Derived.Test.YtjkabbabhfipbaaRightPlain7
import Derived.BigQuiet
import Derived.Deep.QuietTactic
import Derived.Deep.Cut
import Derived.Deep.CutRange
namespace Go.Proofs.Ytjkabbabhfipbaa
open Go.RowKit

theorem drewN_two (w : World) (n m : Nat) : (w.drewN n).drewN m = w.drewN (n + m) := by simp [World.drewN, Nat.add_assoc]
theorem drews {w v : World} {m : Nat} (h : ∃ n, v = w.drewN n) : ∃ n, v.drewN m = w.drewN n := by
  obtain ⟨n, rfl⟩ := h
  exact ⟨_, drewN_two w n m⟩
def badB (pre : List CallZ) (c : CallZ) : Bool := !(decide (1 ≤ c.fr) && decide (c.fr < c.to) && riseB pre c)
theorem stepR_bad {pre : List CallZ} {c : CallZ} (h : badB pre c = true) : stepR pre c = false := by
  unfold badB at h
  unfold stepR
  rw [Bool.not_eq_true'] at h
  rw [h]
  rfl
theorem stepR_ok {pre : List CallZ} {c : CallZ} (h : badB pre c = false) : stepR pre c = (match inB c pre 0 with
  | none => false
  | some p => c.pl == (p : Int)) := by
  unfold badB at h
  unfold stepR
  rw [Bool.not_eq_false'] at h
  rw [h]
  rfl
theorem getLast_take {L : List CallZ} {m : Nat} (h : m + 1 ≤ L.length) : (L.take (m + 1)).getLast? = some L[m] := by
  rw [List.take_succ_eq_append_getElem (by omega)]
  exact List.getLast?_concat
theorem inB_cons (c d : CallZ) (r : List CallZ) (p : Nat) : inB c (d :: r) p = if d.to = c.to ∨ d.to = c.fr ∨ d.fr = c.to then none else if d.th = c.th then (if c.fr ≤ d.to ∨ d.pl ≠ (p : Int) then none else inB c r (p + 1)) else inB c r p := rfl

set_option maxHeartbeats 8000000 in
set_option maxRecDepth 100000 in
theorem ref_Right {w : World} {v : Value} {L : List CallZ} (h : CallsIn w v L) (hL : L.length ≤ 100000) :
    Calls Try.prog 16 #[v] w fun e w' => e = .returned (.bool (rightR [] L)) ∧ ∃ n, w' = w.drewN n := by
  obtain ⟨a, c, rfl, hr⟩ := h
  have H := Lib.hid hr
  clear hr
  go_enter Try.func16, Try.ntmps16
  go_wp2
  go_loopw [3] (fun s wr => ∃ (i n : Nat), i ≤ L.length ∧ s = .int .i64 i ∧ wr = w.drewN n ∧ Hid (rightR [] L = rightR (L.take i) (L.drop i))) (fun s _ => L.length - (intOf s).toNat)
  case atStart => exact ⟨0, 0, Nat.zero_le _, rfl, rfl, Lib.hid rfl⟩
  case round =>
    obtain ⟨i, n, hi, rfl, rfl, Q⟩ := hrel
    by_cases hlt : i < L.length
    · obtain ⟨b, off, rfl, hb, hrg⟩ := H.out.range hlt
      have hd : L.drop i = L[i] :: L.drop (i + 1) := List.drop_eq_getElem_cons hlt
      have eq := Q.out
      rw [hd, rightR_cons] at eq
      have htk : L.take i ++ [L[i]] = L.take (i + 1) := (List.take_succ_eq_append_getElem hlt).symm
      rw [htk] at eq
      generalize L[i] = x at hrg eq
      have k0 : w.cell? ⟨b, off + i * 15, none⟩ = some (numV x.th) := hrg 0 _ rfl
      have k1 : w.cell? ⟨b, off + i * 15 + 1, none⟩ = some (numV x.pl) := hrg 1 _ rfl
      have k13 : w.cell? ⟨b, off + i * 15 + 13, none⟩ = some (numV x.fr) := hrg 13 _ rfl
      have k14 : w.cell? ⟨b, off + i * 15 + 14, none⟩ = some (numV x.to) := hrg 14 _ rfl
      have EQ := Lib.hid eq
      clear hrg hd htk eq
      go_upto_region 4 with fail
      go_cut [48] from 12 to 48 (fun t wx => t = .bool (badB (L.take i) x) ∧ ∃ m, wx = w.drewN m)
      case first =>
        by_cases h1 : x.fr < 1
        · have h1' : decide (x.fr < 1) = true := by simpa using h1
          have B := Lib.hid (show badB (L.take i) x = true by unfold badB; rw [show decide (1 ≤ x.fr) = false by simp; omega]; rfl)
          clear h1
          go_wp2
          go_quiet (fail)
          go_wp2
          go_meet
          case rel => exact ⟨by rw [B.out], _, drewN_two w n _⟩
        · have h1' : decide (x.fr < 1) = false := by simpa using h1
          by_cases h2 : x.to ≤ x.fr
          · have h2' : decide (x.to ≤ x.fr) = true := by simpa using h2
            have B := Lib.hid (show badB (L.take i) x = true by unfold badB; rw [show decide (x.fr < x.to) = false by simp; omega]; simp)
            clear h1 h2
            go_wp2
            go_quiet (fail)
            go_wp2
            go_meet
            case rel => exact ⟨by rw [B.out], _, drewN_two w n _⟩
          · have h2' : decide (x.to ≤ x.fr) = false := by simpa using h2
            have hbd : badB (L.take i) x = !riseB (L.take i) x := by unfold badB; rw [show decide (1 ≤ x.fr) = true by simp; omega, show decide (x.fr < x.to) = true by simp; omega]; simp
            clear h1 h2
            cases i with
            | zero =>
              have B := Lib.hid (show badB (L.take 0) x = false by rw [hbd]; rfl)
              clear hbd
              go_wp2
              go_quiet (fail)
              go_wp2
              go_meet
              case rel => exact ⟨by rw [B.out], _, drewN_two w n _⟩
            | succ m =>
              obtain ⟨b', off', e', _, hrg'⟩ := H.out.range (k := m) (by omega)
              cases e'
              have g13 : w.cell? ⟨b, off + m * 15 + 13, none⟩ = some (numV L[m].fr) := hrg' 13 _ rfl
              have hri : riseB (L.take (m + 1)) x = decide (L[m].fr < x.fr) := by unfold riseB; rw [getLast_take hi]
              rw [hri] at hbd
              clear hrg' hri
              generalize L[m].fr = y at g13 hbd
              by_cases h3 : x.fr ≤ y
              · have h3' : decide (x.fr ≤ y) = true := by simpa using h3
                have B := Lib.hid (show badB (L.take (m + 1)) x = true by rw [hbd]; simp; omega)
                clear hbd h3
                go_wp2
                go_quiet (fail)
                go_wp2
                go_meet
                case rel => exact ⟨by rw [B.out], _, drewN_two w n _⟩
              · have h3' : decide (x.fr ≤ y) = false := by simpa using h3
                have B := Lib.hid (show badB (L.take (m + 1)) x = false by rw [hbd]; simp; omega)
                clear hbd h3
                go_wp2
                go_quiet (fail)
                go_wp2
                go_meet
                case rel => exact ⟨by rw [B.out], _, drewN_two w n _⟩
      case rest =>
        obtain ⟨rfl, m, rfl⟩ := hcut
        cases hbd : badB (L.take i) x
        · have ST := Lib.hid (stepR_ok hbd)
          have FN := Lib.hid (show inB x (L.take i) 0 = none → rightR [] L = false from fun e => by rw [EQ.out, ST.out, e]; rfl)
          clear hbd
          go_wp2
          go_loopw [4, 5] (fun pv kv wq => ∃ (k q l : Nat), k ≤ i ∧ q ≤ k ∧ kv = .int .i64 k ∧ pv = .int .i64 q ∧ wq = w.drewN l ∧ Hid (inB x (L.take i) 0 = inB x ((L.take i).drop k) q)) (fun _ kv _ => i - (intOf kv).toNat)
          case atStart => exact ⟨0, 0, _, Nat.zero_le _, Nat.le_refl _, rfl, rfl, rfl, Lib.hid rfl⟩
          case round =>
            obtain ⟨k, q, l, hk, hq, rfl, rfl, rfl, I⟩ := hrel
            by_cases hki : k < i
            · have hkl : k < L.length := by omega
              obtain ⟨b', off', e', _, hrg'⟩ := H.out.range hkl
              cases e'
              have hdk : (L.take i).drop k = L[k] :: (L.take i).drop (k + 1) := by
                rw [List.drop_eq_getElem_cons (by rw [List.length_take]; omega)]
                simp
              have e := I.out
              rw [hdk, inB_cons] at e
              have d0 : w.cell? ⟨b, off + k * 15, none⟩ = some (numV L[k].th) := hrg' 0 _ rfl
              have d1 : w.cell? ⟨b, off + k * 15 + 1, none⟩ = some (numV L[k].pl) := hrg' 1 _ rfl
              have d13 : w.cell? ⟨b, off + k * 15 + 13, none⟩ = some (numV L[k].fr) := hrg' 13 _ rfl
              have d14 : w.cell? ⟨b, off + k * 15 + 14, none⟩ = some (numV L[k].to) := hrg' 14 _ rfl
              clear hrg' hdk
              generalize L[k].th = dth at d0 e
              generalize L[k].pl = dpl at d1 e
              generalize L[k].fr = dfr at d13 e
              generalize L[k].to = dto at d14 e
              by_cases a1 : dto = x.to
              · have F := Lib.hid (FN.out (by rw [e, if_pos (.inl a1)]))
                have a1' : (dto == x.to) = true := by simpa using a1
                clear e a1
                go_wp2
                go_quiet (fail)
                go_wp2
                go_ret
                refine ⟨by rw [F.out]; rfl, ?_⟩
                first | exact ⟨_, rfl⟩ | exact drews ⟨_, rfl⟩ | exact drews (drews ⟨_, rfl⟩) | exact drews (drews (drews ⟨_, rfl⟩))
              · have a1' : (dto == x.to) = false := by simpa using a1
                by_cases a2 : dto = x.fr
                · have F := Lib.hid (FN.out (by rw [e, if_pos (.inr (.inl a2))]))
                  have a2' : (dto == x.fr) = true := by simpa using a2
                  clear e a1 a2
                  go_wp2
                  go_quiet (fail)
                  go_wp2
                  go_ret
                  refine ⟨by rw [F.out]; rfl, ?_⟩
                  first | exact ⟨_, rfl⟩ | exact drews ⟨_, rfl⟩ | exact drews (drews ⟨_, rfl⟩) | exact drews (drews (drews ⟨_, rfl⟩))
                · have a2' : (dto == x.fr) = false := by simpa using a2
                  by_cases a3 : dfr = x.to
                  · have F := Lib.hid (FN.out (by rw [e, if_pos (.inr (.inr a3))]))
                    have a3' : (dfr == x.to) = true := by simpa using a3
                    clear e a1 a2 a3
                    go_wp2
                    go_quiet (fail)
                    go_wp2
                    go_ret
                    refine ⟨by rw [F.out]; rfl, ?_⟩
                    first | exact ⟨_, rfl⟩ | exact drews ⟨_, rfl⟩ | exact drews (drews ⟨_, rfl⟩) | exact drews (drews (drews ⟨_, rfl⟩))
                  · have a3' : (dfr == x.to) = false := by simpa using a3
                    rw [if_neg (by rintro (h | h | h); exact a1 h; exact a2 h; exact a3 h)] at e
                    clear a1 a2 a3
                    by_cases a4 : dth = x.th
                    · have a4' : (dth == x.th) = true := by simpa using a4
                      rw [if_pos a4] at e
                      clear a4
                      by_cases a5 : x.fr ≤ dto
                      · have F := Lib.hid (FN.out (by rw [e, if_pos (.inl a5)]))
                        have a5' : decide (x.fr ≤ dto) = true := by simpa using a5
                        clear e a5
                        go_wp2
                        go_quiet (fail)
                        go_wp2
                        go_quiet (fail)
                        go_wp2
                        go_quiet (fail)
                        go_wp2
                        go_ret
                        refine ⟨by rw [F.out]; rfl, ?_⟩
                        first | exact ⟨_, rfl⟩ | exact drews ⟨_, rfl⟩ | exact drews (drews ⟨_, rfl⟩) | exact drews (drews (drews ⟨_, rfl⟩))
                      · have a5' : decide (x.fr ≤ dto) = false := by simpa using a5
                        by_cases a6 : dpl = (q : Int)
                        · have a6' : (dpl != (q : Int)) = false := by simpa using a6
                          have J := Lib.hid (show inB x (L.take i) 0 = inB x ((L.take i).drop (k + 1)) (q + 1) by rw [e, if_neg (by rintro (h | h); exact a5 h; exact h a6)])
                          clear e a5 a6
                          go_wp2
                          go_quiet (fail)
                          go_wp2
                          go_quiet (fail)
                          go_wp2
                          go_quiet (fail)
                          go_wp2
                          go_roundw
                          case rel => exact ⟨k + 1, q + 1, _, by omega, by omega, by go_num, by go_num, rfl, J⟩
                          case measure => simp [intOf]; omega
                        · have a6' : (dpl != (q : Int)) = true := by simpa using a6
                          have F := Lib.hid (FN.out (by rw [e, if_pos (.inr a6)]))
                          clear e a5 a6
                          go_wp2
                          go_quiet (fail)
                          go_wp2
                          go_quiet (fail)
                          go_wp2
                          go_quiet (fail)
                          go_wp2
                          go_ret
                          refine ⟨by rw [F.out]; rfl, ?_⟩
                          first | exact ⟨_, rfl⟩ | exact drews ⟨_, rfl⟩ | exact drews (drews ⟨_, rfl⟩) | exact drews (drews (drews ⟨_, rfl⟩))
                    · have a4' : (dth == x.th) = false := by simpa using a4
                      rw [if_neg a4] at e
                      have J := Lib.hid e
                      clear a4 e
                      go_wp2
                      go_quiet (fail)
                      go_wp2
                      go_quiet (fail)
                      go_wp2
                      go_roundw
                      case rel => exact ⟨k + 1, q, _, by omega, by omega, by go_num, rfl, rfl, J⟩
                      case measure => simp [intOf]; omega
            · obtain rfl : k = i := by omega
              have e := I.out
              rw [List.drop_of_length_le (by rw [List.length_take]; omega)] at e
              have e : inB x (L.take k) 0 = some q := e
              have ST2 := ST.out
              rw [e] at ST2
              have ST2 : stepR (L.take k) x = (x.pl == (q : Int)) := ST2
              clear e
              by_cases a7 : x.pl = (q : Int)
              · have a7' : (x.pl != (q : Int)) = false := by simpa using a7
                have J := Lib.hid (show rightR [] L = rightR (L.take (k + 1)) (L.drop (k + 1)) by rw [EQ.out, ST2, if_pos (by simpa using a7)])
                clear ST2 a7 hki
                go_wp2
                go_roundw
                case rel => exact ⟨k + 1, _, by omega, by go_num, rfl, J⟩
                case measure => simp [intOf]; omega
              · have a7' : (x.pl != (q : Int)) = true := by simpa using a7
                have F := Lib.hid (show rightR [] L = false by rw [EQ.out, ST2, if_neg (by simpa using a7)])
                clear ST2 a7 hki
                go_wp2
                go_ret
                exact ⟨by rw [F.out]; rfl, _, rfl⟩
        · have F := Lib.hid (show rightR [] L = false by rw [EQ.out, stepR_bad hbd]; rfl)
          clear hbd
          go_wp2
          go_ret
          exact ⟨by rw [F.out]; rfl, _, rfl⟩
    · obtain rfl : i = L.length := by omega
      go_wp2
      go_ret
      exact ⟨by rw [Q.out, List.drop_length, List.take_length]; rfl, n, rfl⟩

end Go.Proofs.Ytjkabbabhfipbaa
