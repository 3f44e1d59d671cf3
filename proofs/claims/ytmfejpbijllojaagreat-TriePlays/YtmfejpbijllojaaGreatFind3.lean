/- Go's own binary search by a function, as package set asks it for a key's entry. -/
import Derived.Test.YtmfejpbijllojaaGreatProg
import Derived.Test.YtmfejpbijllojaaGreatCopy3
import Derived.Test.YtmfejpbijllojaaGreatKeys3
import Derived.Test.YtmfejpbijllojaaGreatBase
import Derived.Lib.Hide
import Derived.Lib.Strings
import Derived.Laws.Cover1
import Derived.Deep.LoopGhost
import Derived.WalkKit
import Derived.Shelf.Abstract
namespace Go.Proofs.YtmfejpbijllojaaGreat
open Go.RowKit

abbrev keyV (k : Key) : Value := .string ⟨k.toArray⟩
/-- An entry's cells. -/
abbrev encE (p : Ent) : List Value := [keyV p.1, .int .i64 p.2]
/-- A slice of entries. -/
abbrev EntsIn (W : World) (v : Value) (E : List Ent) : Prop := SliceK W 2 v E.length (E.flatMap encE)
theorem ents_len : ∀ E : List Ent, (E.flatMap encE).length = E.length * 2
  | [] => rfl
  | p :: r => by
    rw [List.flatMap_cons, List.length_append, ents_len r]
    simp only [List.length_cons, List.length_nil]; omega
theorem ents_at : ∀ (E : List Ent) (i : Nat) (p : Ent), E[i]? = some p → (E.flatMap encE)[i * 2]? = some (keyV p.1) ∧ (E.flatMap encE)[i * 2 + 1]? = some (.int .i64 p.2)
  | [], i, p, h => by simp at h
  | q :: r, 0, p, h => by
    obtain rfl : q = p := by simpa using h
    simp [List.flatMap_cons]
  | q :: r, i + 1, p, h => by
    have := ents_at r i p (by simpa using h)
    rw [List.flatMap_cons, show (i + 1) * 2 = (i * 2) + 2 by omega, show i * 2 + 2 + 1 = (i * 2 + 1) + 2 by omega]
    simpa using this
theorem ents_take : ∀ (E : List Ent) (n : Nat), (E.flatMap encE).take (n * 2) = (E.take n).flatMap encE
  | [], n => by simp
  | p :: r, 0 => by simp
  | p :: r, n + 1 => by
    rw [List.flatMap_cons, List.take_succ_cons, List.flatMap_cons, ← ents_take r n, show (n + 1) * 2 = n * 2 + 2 by omega]
    simp
theorem ents_drop : ∀ (E : List Ent) (n : Nat), (E.flatMap encE).drop (n * 2) = (E.drop n).flatMap encE
  | [], n => by simp
  | p :: r, 0 => by simp
  | p :: r, n + 1 => by
    rw [List.flatMap_cons, List.drop_succ_cons, ← ents_drop r n, show (n + 1) * 2 = n * 2 + 2 by omega]
    simp

theorem cmp_isNaN_string (x : ByteArray) (w : World) : Calls Tryz.prog 106 #[.string x] w fun e w' => e = .returned (.bool false) ∧ w = w' := by
  go_enter Tryz.func106, Tryz.ntmps106
  go_wp2
  go_ret
  exact ⟨by simp, rfl⟩

/-- How one key stands to another. -/
def cmpK (a b : Key) : Int := if bl a b then -1 else if a = b then 0 else 1
theorem cmpK_lt {a b : Key} (h : bl a b = true) : cmpK a b = -1 := by simp [cmpK, h]
theorem cmpK_eq (a : Key) : cmpK a a = 0 := by simp [cmpK, bl_irrefl]
theorem cmpK_gt {a b : Key} (h : bl a b = false) (hne : a ≠ b) : cmpK a b = 1 := by simp [cmpK, h, hne]

set_option maxHeartbeats 1000000 in
theorem cmp_Compare (a b : Key) (w : World) : Calls Tryz.prog 89 #[keyV a, keyV b] w fun e w' => e = .returned (.int .i64 (cmpK a b)) ∧ w = w' := by
  have t1 := Lib.toList_data ⟨a.toArray⟩
  have t2 := Lib.toList_data ⟨b.toArray⟩
  cases h1 : bl a b
  · by_cases hab : a = b
    · subst hab
      rw [cmpK_eq]
      have h2 : Op.bytesLess (⟨a.toArray⟩ : ByteArray).toList (⟨a.toArray⟩ : ByteArray).toList = false := by rw [t1]; exact h1
      go_enter Tryz.func89, Tryz.ntmps89
      go_wp2_with (go_at_call 106; refine (cmp_isNaN_string _ _).mono ?_; rintro e w' ⟨rfl, rfl⟩)
      go_ret
      exact ⟨rfl, rfl⟩
    · rw [cmpK_gt h1 hab]
      have h2 : Op.bytesLess (⟨a.toArray⟩ : ByteArray).toList (⟨b.toArray⟩ : ByteArray).toList = false := by rw [t1, t2]; exact h1
      have h4 : (a == b) = false := by simpa using hab
      have h3 : ((⟨a.toArray⟩ : ByteArray).toList == (⟨b.toArray⟩ : ByteArray).toList) = false := by rw [t1, t2]; simpa using hab
      go_enter Tryz.func89, Tryz.ntmps89
      go_wp2_with (go_at_call 106; refine (cmp_isNaN_string _ _).mono ?_; rintro e w' ⟨rfl, rfl⟩)
      go_ret
      exact ⟨rfl, rfl⟩
  · rw [cmpK_lt h1]
    have h2 : Op.bytesLess (⟨a.toArray⟩ : ByteArray).toList (⟨b.toArray⟩ : ByteArray).toList = true := by rw [t1, t2]; exact h1
    go_enter Tryz.func89, Tryz.ntmps89
    go_wp2_with (go_at_call 106; refine (cmp_isNaN_string _ _).mono ?_; rintro e w' ⟨rfl, rfl⟩)
    go_ret
    exact ⟨rfl, rfl⟩

theorem bsearch_end {E : List Ent} (k : Key) (i : Nat) (hi : i ≤ E.length) (h1 : ∀ t p, t < i → E[t]? = some p → bl p.1 k = true) (h2 : ∀ t p, i ≤ t → E[t]? = some p → bl p.1 k = false) : i = plc (ltE k) E :=
  plc_of _ E i hi (fun t p ht hp => h1 t p ht hp) (fun p hp => h2 i p (Nat.le_refl _) hp)
theorem kup_mono {E : List Ent} (h : KUp E) {k : Key} {s t : Nat} {p q : Ent} (hs : E[s]? = some p) (ht : E[t]? = some q) (hst : s ≤ t) (hq : bl q.1 k = true) : bl p.1 k = true := by
  by_cases e : s = t
  · subst e; rw [hs] at ht; cases ht; exact hq
  · obtain ⟨h1, rfl⟩ := List.getElem?_eq_some_iff.1 hs
    obtain ⟨h2, rfl⟩ := List.getElem?_eq_some_iff.1 ht
    exact bl_trans (List.pairwise_iff_getElem.1 h s t h1 h2 (by omega)) hq

/-- A map with texts as keys and numbers as values. -/
def MapIn (W : World) (v : Value) (E : List Ent) : Prop := (∃ s, v = .agg #[s] ∧ EntsIn W s E) ∧ KUp E
theorem MapIn.below {W W' : World} {v : Value} {E : List Ent} (h : MapIn W v E) (hb : Below W.heap.size W W') : MapIn W' v E := by
  obtain ⟨⟨s, hv, hs⟩, hu⟩ := h
  exact ⟨⟨s, hv, hs.below hb⟩, hu⟩
theorem MapIn.form {W : World} {v : Value} {E : List Ent} (h : MapIn W v E) : ∃ a n c, v = .agg #[.slice a n c] := by
  obtain ⟨⟨s, rfl, hs⟩, _⟩ := h
  rcases hs.2 with ⟨rfl, _⟩ | ⟨b, off, cap, rfl, _⟩
  · exact ⟨_, _, _, rfl⟩
  · exact ⟨_, _, _, rfl⟩

end Go.Proofs.YtmfejpbijllojaaGreat
