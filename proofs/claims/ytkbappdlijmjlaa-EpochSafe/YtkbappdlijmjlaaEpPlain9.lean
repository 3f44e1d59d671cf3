/- Layer 9: what waits, as one list (the document's way) and as three (the program's), as plain reckoning. -/
import Derived.Test.YtkbappdlijmjlaaEpochC9
namespace Go.Proofs.Ytkbappdlijmjlaa
open Go.RowKit

/-- What waits with an epoch whose rest by 3 is j. -/
def qOf (W : List (Int × Nat)) (j : Nat) : List Int := (W.filter fun p => p.2 % 3 == j).map (·.1)
/-- The three lists are the one. -/
structure Agree (x : Ep) (W : List (Int × Nat)) : Prop where
  q : ∀ j, j < 3 → x.q j = qOf W j
  win : ∀ p ∈ W, p.2 ≤ x.now ∧ x.now ≤ p.2 + 2
theorem Agree.start (pins : List (Option Nat)) : Agree ⟨0, pins, fun _ => []⟩ [] := ⟨fun _ _ => rfl, fun p h => by simp at h⟩
theorem Agree.pins {x : Ep} {W : List (Int × Nat)} (h : Agree x W) (pins : List (Option Nat)) : Agree ⟨x.now, pins, x.q⟩ W := ⟨h.q, h.win⟩
theorem qOf_snoc (W : List (Int × Nat)) (y : Int) (e j : Nat) : qOf (W ++ [(y, e)]) j = if e % 3 = j then qOf W j ++ [y] else qOf W j := by
  unfold qOf
  rw [List.filter_append, List.map_append]
  by_cases h : e % 3 = j
  · rw [if_pos h, List.filter_cons_of_pos (by simp [h])]; rfl
  · rw [if_neg h, List.filter_cons_of_neg (by simp [h])]; simp
theorem Agree.retire {x : Ep} {W : List (Int × Nat)} (h : Agree x W) (y : Int) : Agree ⟨x.now, x.pins, upd x.q (x.now % 3) (x.q (x.now % 3) ++ [y])⟩ (W ++ [(y, x.now)]) := by
  refine ⟨fun j hj => ?_, fun p hp => ?_⟩
  · rw [qOf_snoc]
    by_cases e : x.now % 3 = j
    · subst e
      rw [if_pos rfl, ← h.q _ hj]
      exact upd_self _ _ _
    · rw [if_neg e, ← h.q _ hj]
      exact upd_ne (fun e' => e e'.symm)
  · rcases List.mem_append.1 hp with hp | hp
    · exact h.win p hp
    · simp at hp
      subst hp
      exact ⟨Nat.le_refl _, by simp⟩
/-- Is it told, when the epoch is n? -/
def oldZ (n : Nat) (p : Int × Nat) : Bool := decide (p.2 + 3 ≤ n)
theorem Agree.old {x : Ep} {W : List (Int × Nat)} (h : Agree x W) {p : Int × Nat} (hp : p ∈ W) : oldZ (x.now + 1) p = (p.2 % 3 == (x.now + 1) % 3) := by
  obtain ⟨h1, h2⟩ := h.win p hp
  unfold oldZ
  rw [Bool.eq_iff_iff, decide_eq_true_eq, beq_iff_eq]
  omega
theorem Agree.told {x : Ep} {W : List (Int × Nat)} (h : Agree x W) : x.q ((x.now + 1) % 3) = (W.filter (oldZ (x.now + 1))).map (·.1) := by
  rw [h.q _ (Nat.mod_lt _ (by decide))]
  unfold qOf
  congr 1
  exact List.filter_congr fun p hp => (h.old hp).symm
theorem Agree.adv {x : Ep} {W : List (Int × Nat)} (h : Agree x W) : Agree ⟨x.now + 1, x.pins, upd x.q ((x.now + 1) % 3) []⟩ (W.filter fun p => !oldZ (x.now + 1) p) := by
  refine ⟨fun j hj => ?_, fun p hp => ?_⟩
  · unfold qOf
    rw [List.filter_filter]
    show upd x.q ((x.now + 1) % 3) [] j = _
    by_cases e : j = (x.now + 1) % 3
    · subst e
      rw [show (upd x.q ((x.now + 1) % 3) [] ((x.now + 1) % 3)) = [] from upd_self _ _ _]
      symm
      rw [List.map_eq_nil_iff, List.filter_eq_nil_iff]
      intro p hp
      rw [h.old hp]
      simp
    · rw [show upd x.q ((x.now + 1) % 3) [] j = x.q j from upd_ne e, h.q j hj]
      unfold qOf
      congr 1
      refine List.filter_congr fun p hp => ?_
      rw [h.old hp, Bool.eq_iff_iff]
      simp
      omega
  · obtain ⟨hp, hn⟩ := List.mem_filter.1 hp
    obtain ⟨h1, h2⟩ := h.win p hp
    simp [oldZ] at hn
    exact ⟨show p.2 ≤ x.now + 1 by omega, show x.now + 1 ≤ p.2 + 2 by omega⟩
theorem q_count : ∀ W : List (Int × Nat), (qOf W 0).length + (qOf W 1).length + (qOf W 2).length = W.length
  | [] => rfl
  | p :: W => by
    have ih := q_count W
    have h : ∀ j, (qOf (p :: W) j).length = (qOf W j).length + if p.2 % 3 = j then 1 else 0 := fun j => by
      unfold qOf
      by_cases e : p.2 % 3 = j
      · rw [List.filter_cons_of_pos (by simp [e]), if_pos e]; simp
      · rw [List.filter_cons_of_neg (by simp [e]), if_neg e]; rfl
    rw [h, h, h, List.length_cons]
    have h3 : p.2 % 3 < 3 := Nat.mod_lt _ (by decide)
    rcases (by omega : p.2 % 3 = 0 ∨ p.2 % 3 = 1 ∨ p.2 % 3 = 2) with e | e | e <;> rw [e] <;> simp <;> omega
theorem Agree.count {x : Ep} {W : List (Int × Nat)} (h : Agree x W) : (x.q 0).length + (x.q 1).length + (x.q 2).length = W.length := by
  rw [h.q 0 (by decide), h.q 1 (by decide), h.q 2 (by decide)]; exact q_count W
theorem Agree.le {x : Ep} {W : List (Int × Nat)} (h : Agree x W) {j : Nat} (hj : j < 3) : (x.q j).length ≤ W.length := by
  have := h.count
  rcases (by omega : j = 0 ∨ j = 1 ∨ j = 2) with rfl | rfl | rfl <;> omega
/-- The document's pins: -1 where a thread isn't pinned. -/
def pinZ : Option Nat → Int
  | none => -1
  | some e => (e : Int)

end Go.Proofs.Ytkbappdlijmjlaa
