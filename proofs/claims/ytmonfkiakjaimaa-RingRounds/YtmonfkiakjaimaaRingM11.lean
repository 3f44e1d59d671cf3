/- Layer 11: rings, as plain reckoning. -/
import Derived.Test.YtmonfkiakjaimaaOwn3
import Derived.Test.YtmonfkiakjaimaaMade
import Derived.Test.YtmonfkiakjaimaaStep
import Derived.Test.YtmonfkiakjaimaaAppSrc
import Derived.BigQuiet
import Derived.Deep.LoopGhost
import Derived.Deep.QuietTactic
import Derived.Deep.RegionHeld3
import Derived.Deep.Cut
import Derived.IntWalk
namespace Go.Proofs.Ytmonfkiakjaimaa
open Go.RowKit

/-- A ring: its slots, how many were got and dropped, what is put and not got. -/
structure Rg where
  n : Nat
  g : Nat
  d : Nat
  L : List Int
def Rg.p (x : Rg) : Nat := x.g + x.L.length
structure RgOk (x : Rg) : Prop where
  one : 1 ≤ x.n
  most : x.n ≤ 1024
  fit : x.L.length ≤ x.n
def cntZ (n g i : Nat) : Nat := (g + (n - 1 - i)) / n
/-- The ticket that a slot waits for, or has. -/
def tickZ (n g i : Nat) : Nat := i + cntZ n g i * n
theorem tick_mod {n g i : Nat} (hi : i < n) : tickZ n g i % n = i := by unfold tickZ; rw [Nat.add_mul_mod_self_right, Nat.mod_eq_of_lt hi]
theorem tick_ge {n g i : Nat} (hi : i < n) : g ≤ tickZ n g i ∧ tickZ n g i < g + n := by
  unfold tickZ cntZ
  have h1 := Nat.div_add_mod (g + (n - 1 - i)) n
  have h2 := Nat.mod_lt (g + (n - 1 - i)) (show 0 < n by omega)
  rw [Nat.mul_comm n] at h1
  omega
theorem mod_uniq {n a b g : Nat} (ha : g ≤ a) (ha' : a < g + n) (hb : g ≤ b) (hb' : b < g + n) (h : a % n = b % n) : a = b := by
  have h1 := Nat.div_add_mod a n
  have h2 := Nat.div_add_mod b n
  rcases Nat.lt_trichotomy (a / n) (b / n) with k | k | k
  · have h3 := Nat.mul_le_mul_left n (Nat.succ_le_of_lt k)
    rw [Nat.mul_succ] at h3
    omega
  · rw [k] at h1; omega
  · have h3 := Nat.mul_le_mul_left n (Nat.succ_le_of_lt k)
    rw [Nat.mul_succ] at h3
    omega
theorem tick_of {n g t : Nat} (h0 : 0 < n) (ht : g ≤ t) (ht' : t < g + n) : tickZ n g (t % n) = t :=
  mod_uniq (tick_ge (Nat.mod_lt _ h0)).1 (tick_ge (Nat.mod_lt _ h0)).2 ht ht' (tick_mod (Nat.mod_lt _ h0))
def slotZ (x : Rg) (i : Nat) : Int × Int := if tickZ x.n x.g i < x.p then (x.L.getD (tickZ x.n x.g i - x.g) 0, 2 * (tickZ x.n x.g i : Int) + 1) else (0, 2 * (tickZ x.n x.g i : Int))
def slotsZ (x : Rg) : List (Int × Int) := (List.range x.n).map (slotZ x)
theorem slots_len (x : Rg) : (slotsZ x).length = x.n := by simp [slotsZ]
theorem slots_at {x : Rg} {i : Nat} (hi : i < x.n) : (slotsZ x)[i]? = some (slotZ x i) := by simp [slotsZ, hi]
def seqZ (x : Rg) (k : Int) : Int := if 0 ≤ k ∧ k < x.n then (slotZ x k.toNat).2 else -1
def putZ (x : Rg) (v : Int) : Rg := ⟨x.n, x.g, x.d, x.L ++ [v]⟩
def dropZ (x : Rg) : Rg := ⟨x.n, x.g, x.d + 1, x.L⟩
def gotZ (x : Rg) : Rg := ⟨x.n, x.g + 1, x.d, x.L.tail⟩
section
variable {x : Rg}
theorem RgOk.put (h : RgOk x) (hl : x.L.length < x.n) (v : Int) : RgOk (putZ x v) := ⟨h.one, h.most, by simp [putZ]; omega⟩
theorem RgOk.drop (h : RgOk x) : RgOk (dropZ x) := ⟨h.one, h.most, h.fit⟩
theorem RgOk.got (h : RgOk x) : RgOk (gotZ x) := ⟨h.one, h.most, by have := h.fit; simp [gotZ]; omega⟩
/-- The slot to put into. -/
theorem slot_p (h : RgOk x) (hl : x.L.length < x.n) : slotZ x (x.p % x.n) = (0, 2 * (x.p : Int)) := by
  have h1 := h.one
  unfold slotZ
  rw [tick_of (by omega) (by unfold Rg.p; omega) (by unfold Rg.p; omega), if_neg (by omega)]
theorem p_full (hl : x.L.length = x.n) : x.p % x.n = x.g % x.n := by unfold Rg.p; rw [hl, Nat.add_mod_right]
theorem slot_g {v : Int} {L : List Int} (h : RgOk x) (hL : x.L = v :: L) : slotZ x (x.g % x.n) = (v, 2 * (x.g : Int) + 1) := by
  have h1 := h.one
  unfold slotZ
  rw [tick_of (by omega) (by omega) (by omega), if_pos (by unfold Rg.p; rw [hL]; simp), hL]
  simp
theorem slot_g0 (h : RgOk x) (hL : x.L = []) : slotZ x (x.g % x.n) = (0, 2 * (x.g : Int)) := by
  have h1 := h.one
  unfold slotZ
  rw [tick_of (by omega) (by omega) (by omega), if_neg (by unfold Rg.p; rw [hL]; simp)]
theorem slots_put (h : RgOk x) (hl : x.L.length < x.n) (v : Int) : slotsZ (putZ x v) = (slotsZ x).set (x.p % x.n) (v, 2 * (x.p : Int) + 1) := by
  have h1 := h.one
  apply List.ext_getElem?
  intro i
  by_cases hi : i < x.n
  · rw [slots_at (x := putZ x v) hi]
    by_cases e : x.p % x.n = i
    · subst e
      rw [List.getElem?_set_self (by rw [slots_len]; exact hi)]
      unfold slotZ
      show some (if tickZ x.n x.g (x.p % x.n) < (putZ x v).p then ((x.L ++ [v]).getD (tickZ x.n x.g (x.p % x.n) - x.g) 0, 2 * (tickZ x.n x.g (x.p % x.n) : Int) + 1) else _) = _
      rw [tick_of (by omega) (by unfold Rg.p; omega) (by unfold Rg.p; omega), if_pos (by simp [Rg.p, putZ])]
      simp [Rg.p, List.getD]
    · rw [List.getElem?_set_ne e, slots_at hi]
      have h2 : tickZ x.n x.g i ≠ x.p := fun e' => e (by rw [← e', tick_mod hi])
      have h3 := tick_ge (g := x.g) hi
      unfold slotZ
      show some (if tickZ x.n x.g i < (putZ x v).p then ((x.L ++ [v]).getD (tickZ x.n x.g i - x.g) 0, 2 * (tickZ x.n x.g i : Int) + 1) else _) = _
      have h4 : (putZ x v).p = x.p + 1 := by simp [Rg.p, putZ]; omega
      by_cases hp : tickZ x.n x.g i < x.p
      · rw [if_pos (by omega), if_pos hp]
        have h5 : tickZ x.n x.g i - x.g < x.L.length := by unfold Rg.p at hp; omega
        simp [List.getD, List.getElem?_append_left h5]
      · rw [if_neg (by omega), if_neg hp]
        rfl
  · rw [List.getElem?_eq_none (by rw [slots_len]; simp [putZ]; omega), List.getElem?_eq_none (by rw [List.length_set, slots_len]; omega)]
theorem slots_got {v : Int} {L : List Int} (h : RgOk x) (hL : x.L = v :: L) : slotsZ (gotZ x) = (slotsZ x).set (x.g % x.n) (0, 2 * ((x.g : Int) + (x.n : Int))) := by
  have h1 := h.one
  have hf := h.fit
  have hl : x.L.length = L.length + 1 := by rw [hL]; rfl
  have hp : (gotZ x).p = x.p := by simp [Rg.p, gotZ, hL]; omega
  have hp2 : x.p = x.g + L.length + 1 := by unfold Rg.p; omega
  apply List.ext_getElem?
  intro i
  by_cases hi : i < x.n
  · rw [slots_at (x := gotZ x) hi]
    unfold slotZ
    show some (if tickZ x.n (x.g + 1) i < (gotZ x).p then (x.L.tail.getD (tickZ x.n (x.g + 1) i - (x.g + 1)) 0, 2 * (tickZ x.n (x.g + 1) i : Int) + 1) else (0, 2 * (tickZ x.n (x.g + 1) i : Int))) = _
    rw [hp]
    by_cases e : x.g % x.n = i
    · subst e
      rw [List.getElem?_set_self (by rw [slots_len]; exact hi)]
      have ht : tickZ x.n (x.g + 1) (x.g % x.n) = x.g + x.n := by
        have := tick_of (n := x.n) (g := x.g + 1) (t := x.g + x.n) (by omega) (by omega) (by omega)
        rwa [Nat.add_mod_right] at this
      rw [ht, if_neg (by omega)]
      simp
    · rw [List.getElem?_set_ne e, slots_at hi]
      have h2 : tickZ x.n x.g i ≠ x.g := fun e' => e (by have := tick_mod (g := x.g) hi; rwa [e'] at this)
      have h3 := tick_ge (g := x.g) hi
      have ht : tickZ x.n (x.g + 1) i = tickZ x.n x.g i := by
        have := tick_of (n := x.n) (g := x.g + 1) (t := tickZ x.n x.g i) (by omega) (by omega) (by omega)
        rwa [tick_mod hi] at this
      rw [ht]
      unfold slotZ
      split
      · rw [hL]
        obtain ⟨m, hm⟩ : ∃ m, tickZ x.n x.g i = x.g + 1 + m := ⟨tickZ x.n x.g i - x.g - 1, by omega⟩
        rw [hm, show x.g + 1 + m - (x.g + 1) = m by omega, show x.g + 1 + m - x.g = m + 1 by omega]
        simp [List.getD]
      · rfl
  · rw [List.getElem?_eq_none (by rw [slots_len]; simp [gotZ]; omega), List.getElem?_eq_none (by rw [List.length_set, slots_len]; omega)]
/-- A new ring. -/
theorem slots_new (n : Nat) : slotsZ ⟨n, 0, 0, []⟩ = (List.range n).map fun (i : Nat) => ((0 : Int), 2 * (i : Int)) := by
  unfold slotsZ
  apply List.map_congr_left
  intro i hi
  have hi : i < n := by simpa using hi
  have ht : tickZ n 0 i = i := by
    have := tick_of (n := n) (g := 0) (t := i) (by omega) (by omega) (by omega)
    rwa [Nat.mod_eq_of_lt hi] at this
  unfold slotZ
  show (if tickZ n 0 i < (Rg.mk n 0 0 []).p then _ else _) = _
  rw [if_neg (by simp [Rg.p]), ht]
/-- The document's way to count. -/
theorem cnt_more {n p i : Nat} (hi : i < n) (hp : i < p) : (p - i - 1) / n + 1 = cntZ n p i := by
  unfold cntZ
  rw [show p + (n - 1 - i) = (p - i - 1) + n by omega, Nat.add_div_right _ (by omega)]
theorem cnt_none {n p i : Nat} (hi : i < n) (hp : ¬ i < p) : cntZ n p i = 0 := by
  unfold cntZ
  exact Nat.div_eq_of_lt (by omega)
theorem tick_lt {n g p i : Nat} (hi : i < n) : tickZ n g i < p ↔ cntZ n g i < cntZ n p i := by
  unfold tickZ
  generalize cntZ n g i = c
  unfold cntZ
  rw [Nat.lt_iff_add_one_le (m := c), Nat.le_div_iff_mul_le (by omega), Nat.succ_mul]
  omega
theorem slot_seq {i : Nat} (hi : i < x.n) : (slotZ x i).2 = 2 * ((i : Int) + (cntZ x.n x.g i : Int) * (x.n : Int)) + (if cntZ x.n x.g i < cntZ x.n x.p i then 1 else 0) := by
  have h := tick_lt (g := x.g) (p := x.p) hi
  have ht : (tickZ x.n x.g i : Int) = (i : Int) + (cntZ x.n x.g i : Int) * (x.n : Int) := by unfold tickZ; rw [Int.natCast_add, Int.natCast_mul]
  unfold slotZ
  split
  · rename_i k
    rw [if_pos (h.1 k), ht]
  · rename_i k
    rw [if_neg (fun e => k (h.2 e)), ht]
    simp
end
def slV (p : Int × Int) : List Value := [numV p.1, numV p.2]
theorem slV_len (p : Int × Int) : (slV p).length = 2 := rfl
theorem flat2_len (M : List (Int × Int)) : (M.flatMap slV).length = M.length * 2 := flat_len slV_len M
/-- One slot has turned. -/
theorem sl_turn {M : List (Int × Int)} {i : Nat} (hi : i < M.length) (q : Int × Int) : ((M.flatMap slV).set (i * 2) (numV q.1)).set (i * 2 + 1) (numV q.2) = (M.set i q).flatMap slV := by
  have hl := flat2_len M
  have hr := recRow_flat slV_len M
  refine (hr.turn slV_len (i := i) (y := q) (((But.refl _ _).set (by constructor <;> omega) _).set (by constructor <;> omega) _) (fun j v hv => ?_)).flat (by decide) slV_len
  have hj : j < 2 := (List.getElem?_eq_some_iff.1 hv).1
  match j, hj with
  | 0, _ =>
    simp [slV] at hv
    rw [← hv, List.getElem?_set_ne (by omega), Nat.add_zero, List.getElem?_set_self (by omega)]
  | 1, _ =>
    simp [slV] at hv
    rw [← hv, List.getElem?_set_self (by simp only [List.length_set]; omega)]
theorem sl_turn2 {M : List (Int × Int)} {i : Nat} {a b c : Int} (h : M[i]? = some (a, b)) : (M.flatMap slV).set (i * 2 + 1) (numV c) = (M.set i (a, c)).flatMap slV := by
  have hi := (List.getElem?_eq_some_iff.1 h).1
  have := sl_turn hi (a, c)
  rw [← this]
  congr 1
  have h0 : (M.flatMap slV)[i * 2]? = some (numV a) := flat_at (j := 0) slV_len h rfl
  apply List.ext_getElem?
  intro k
  by_cases e : i * 2 = k
  · subst e
    rw [List.getElem?_set_self (by rw [flat2_len]; omega), h0]
  · rw [List.getElem?_set_ne e]

end Go.Proofs.Ytmonfkiakjaimaa
