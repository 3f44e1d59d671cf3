/- Layer 7: minimal calls, as plain reckoning: both ways to find them are one. -/
import Derived.Test.YthngehpmoiojfaaHist7
namespace Go.Proofs.Ythngehpmoiojfaa
open Go.RowKit

def doneB (D : List Bool) (i : Nat) : Bool := D.getD i false
/-- The places below k that aren't done. -/
def undoneTo (D : List Bool) (k : Nat) : List Int := ((List.range k).filter fun i => !doneB D i).map fun i : Nat => (i : Int)
theorem undoneTo_yes {D : List Bool} {k : Nat} (h : doneB D k = false) : undoneTo D (k + 1) = undoneTo D k ++ [(k : Int)] := by
  unfold undoneTo
  rw [List.range_succ, List.filter_append, List.map_append]
  congr 1
  rw [List.filter_cons_of_pos (by simp [h])]
  rfl
theorem undoneTo_no {D : List Bool} {k : Nat} (h : doneB D k = true) : undoneTo D (k + 1) = undoneTo D k := by
  unfold undoneTo
  rw [List.range_succ, List.filter_append, List.map_append, List.filter_cons_of_neg (by simp [h])]
  simp
theorem undoneTo_len (D : List Bool) (k : Nat) : (undoneTo D k).length ≤ k := by
  unfold undoneTo
  rw [List.length_map]
  have := List.length_filter_le (fun i => !doneB D i) (List.range k)
  simpa using this
theorem undoneTo_mem {D : List Bool} {k : Nat} {x : Int} : x ∈ undoneTo D k ↔ ∃ i : Nat, i < k ∧ doneB D i = false ∧ x = (i : Int) := by
  unfold undoneTo
  simp only [List.mem_map, List.mem_filter, List.mem_range, Bool.not_eq_true']
  constructor
  · rintro ⟨i, ⟨h1, h2⟩, rfl⟩; exact ⟨i, h1, h2, rfl⟩
  · rintro ⟨i, h1, h2, rfl⟩; exact ⟨i, ⟨h1, h2⟩, rfl⟩

def atZ (L : List CallZ) (i : Int) : CallZ := L.getD i.toNat default
theorem atZ_nat {L : List CallZ} {i : Nat} (h : i < L.length) : atZ L (i : Int) = L[i] := by
  unfold atZ
  rw [Int.toNat_natCast, List.getD_eq_getElem?_getD, List.getElem?_eq_getElem h]
  rfl
def soonStep (L : List CallZ) (out best i : Int) : Int := if i ≠ out ∧ (best = -1 ∨ (atZ L i).to < (atZ L best).to) then i else best
/-- Which of the places, but out, has the call that ends first. -/
def soonZ (L : List CallZ) (P : List Int) (out : Int) : Int := P.foldl (soonStep L out) (-1)
structure Soon (L : List CallZ) (P : List Int) (out b : Int) : Prop where
  ex : (b = -1 ∧ ∀ i ∈ P, i = out) ∨ (b ∈ P ∧ b ≠ out ∧ ∀ i ∈ P, i ≠ out → (atZ L b).to ≤ (atZ L i).to)
theorem Soon.snoc {L : List CallZ} {P : List Int} {out b i : Int} (h : Soon L P out b) (hP : ∀ x ∈ P, 0 ≤ x) : Soon L (P ++ [i]) out (soonStep L out b i) := by
  unfold soonStep
  by_cases hs : i ≠ out ∧ (b = -1 ∨ (atZ L i).to < (atZ L b).to)
  · rw [if_pos hs]
    refine ⟨.inr ⟨by simp, hs.1, fun j hj hjo => ?_⟩⟩
    rcases List.mem_append.1 hj with hj | hj
    · rcases h.ex with ⟨rfl, h1⟩ | ⟨h1, h2, h3⟩
      · exact absurd (h1 j hj) hjo
      · have hb := hP b h1
        rcases hs.2 with e | e
        · omega
        · have := h3 j hj hjo
          omega
    · simp at hj
      subst hj
      exact Int.le_refl _
  · rw [if_neg hs]
    refine ⟨?_⟩
    rcases h.ex with ⟨rfl, h1⟩ | ⟨h1, h2, h3⟩
    · refine .inl ⟨rfl, fun j hj => ?_⟩
      rcases List.mem_append.1 hj with hj | hj
      · exact h1 j hj
      · simp at hj
        subst hj
        by_cases e : j = out
        · exact e
        · exact absurd ⟨e, .inl rfl⟩ hs
    · refine .inr ⟨by simp [h1], h2, fun j hj hjo => ?_⟩
      rcases List.mem_append.1 hj with hj | hj
      · exact h3 j hj hjo
      · simp at hj
        subst hj
        by_cases e : (atZ L j).to < (atZ L b).to
        · exact absurd ⟨hjo, .inr e⟩ hs
        · omega
theorem soon_fold (L : List CallZ) (out : Int) : ∀ (Q P : List Int) (b : Int), Soon L P out b → (∀ x ∈ P ++ Q, 0 ≤ x) → Soon L (P ++ Q) out (Q.foldl (soonStep L out) b)
  | [], P, b, h, _ => by simpa using h
  | i :: Q, P, b, h, hp => by
    have h1 := h.snoc (i := i) (fun x hx => hp x (by simp [hx]))
    have := soon_fold L out Q (P ++ [i]) _ h1 (by simpa using hp)
    simpa using this
theorem soon_spec (L : List CallZ) (P : List Int) (out : Int) (hP : ∀ x ∈ P, 0 ≤ x) : Soon L P out (soonZ L P out) := by
  have := soon_fold L out P [] (-1) ⟨.inl ⟨rfl, fun i hi => by simp at hi⟩⟩ (by simpa using hP)
  simpa [soonZ] using this
def otherZ (first second i : Int) : Int := if i = first then second else first
def minOk (L : List CallZ) (first second i : Int) : Bool := decide (otherZ first second i = -1) || !decide ((atZ L (otherZ first second i)).to < (atZ L i).fr)
def minZ (L : List CallZ) (D : List Bool) : List Int :=
  (undoneTo D L.length).filter (minOk L (soonZ L (undoneTo D L.length) (-1)) (soonZ L (undoneTo D L.length) (soonZ L (undoneTo D L.length) (-1))))
/-- The document's: is nothing below k that isn't done ahead of i? -/
def freeTo (L : List CallZ) (D : List Bool) (i k : Nat) : Bool := !doneB D i && (List.range k).all fun j => !(j != i && !doneB D j && decide ((atZ L (j : Int)).to < (atZ L (i : Int)).fr))
theorem freeTo_zero (L : List CallZ) (D : List Bool) (i : Nat) : freeTo L D i 0 = !doneB D i := by simp [freeTo]
theorem freeTo_succ (L : List CallZ) (D : List Bool) (i k : Nat) : freeTo L D i (k + 1) = (freeTo L D i k && !(k != i && !doneB D k && decide ((atZ L (k : Int)).to < (atZ L (i : Int)).fr))) := by
  unfold freeTo
  rw [List.range_succ, List.all_append]
  simp [Bool.and_assoc]
def refMin (L : List CallZ) (D : List Bool) (k : Nat) : List Int := ((List.range k).filter fun i => freeTo L D i L.length).map fun i : Nat => (i : Int)
theorem refMin_yes {L : List CallZ} {D : List Bool} {k : Nat} (h : freeTo L D k L.length = true) : refMin L D (k + 1) = refMin L D k ++ [(k : Int)] := by
  unfold refMin
  rw [List.range_succ, List.filter_append, List.map_append]
  congr 1
  rw [List.filter_cons_of_pos (by simp [h])]
  rfl
theorem refMin_no {L : List CallZ} {D : List Bool} {k : Nat} (h : freeTo L D k L.length = false) : refMin L D (k + 1) = refMin L D k := by
  unfold refMin
  rw [List.range_succ, List.filter_append, List.map_append, List.filter_cons_of_neg (by simp [h])]
  simp
theorem refMin_len (L : List CallZ) (D : List Bool) (k : Nat) : (refMin L D k).length ≤ k := by
  unfold refMin
  rw [List.length_map]
  have := List.length_filter_le (fun i => freeTo L D i L.length) (List.range k)
  simpa using this
theorem min_same (L : List CallZ) (D : List Bool) : minZ L D = refMin L D L.length := by
  have hP : ∀ x ∈ undoneTo D L.length, 0 ≤ x := fun x hx => by
    obtain ⟨i, _, _, rfl⟩ := undoneTo_mem.1 hx
    omega
  have s1 := soon_spec L (undoneTo D L.length) (-1) hP
  have s2 := soon_spec L (undoneTo D L.length) (soonZ L (undoneTo D L.length) (-1)) hP
  unfold minZ
  generalize soonZ L (undoneTo D L.length) (-1) = f at *
  generalize soonZ L (undoneTo D L.length) f = g at *
  unfold undoneTo refMin at *
  rw [List.filter_map, List.filter_filter]
  congr 1
  apply List.filter_congr
  intro i hi
  have hi : i < L.length := List.mem_range.1 hi
  simp only [Function.comp]
  cases hd : doneB D i
  · have hmem : ((i : Nat) : Int) ∈ undoneTo D L.length := undoneTo_mem.2 ⟨i, hi, hd, rfl⟩
    rw [Bool.not_false, Bool.and_true]
    have key : minOk L f g (i : Int) = true ↔ ∀ j : Int, j ∈ undoneTo D L.length → j ≠ (i : Int) → ¬ (atZ L j).to < (atZ L (i : Int)).fr := by
      unfold minOk otherZ
      rw [Bool.or_eq_true, decide_eq_true_eq, Bool.not_eq_true', decide_eq_false_iff_not]
      by_cases e : (i : Int) = f
      · rw [if_pos e]
        rcases s2.ex with ⟨h1, h2⟩ | ⟨h1, h2, h3⟩
        · exact ⟨fun _ j hj hne => absurd (h2 j hj) (by rw [← e]; exact hne), fun _ => .inl h1⟩
        · have hg : 0 ≤ g := hP g h1
          refine ⟨fun h j hj hne => ?_, fun h => .inr (h g h1 (by rw [e]; exact h2))⟩
          have h4 := h3 j hj (by rw [← e]; exact hne)
          rcases h with h | h
          · omega
          · omega
      · rw [if_neg e]
        rcases s1.ex with ⟨h1, h2⟩ | ⟨h1, h2, h3⟩
        · have := h2 _ hmem
          omega
        · have hf : 0 ≤ f := hP f h1
          refine ⟨fun h j hj hne => ?_, fun h => .inr (h f h1 (fun e' => e e'.symm))⟩
          have hj0 : 0 ≤ j := hP j hj
          have h4 := h3 j hj (by omega)
          rcases h with h | h
          · omega
          · omega
    have key2 : freeTo L D i L.length = true ↔ ∀ j : Int, j ∈ undoneTo D L.length → j ≠ (i : Int) → ¬ (atZ L j).to < (atZ L (i : Int)).fr := by
      unfold freeTo
      rw [hd, Bool.not_false, Bool.true_and, List.all_eq_true]
      constructor
      · intro h j hj hne
        obtain ⟨m, hm, hdm, rfl⟩ := undoneTo_mem.1 hj
        have := h m (List.mem_range.2 hm)
        simp [hdm] at this
        have hne' : m ≠ i := fun e => hne (by rw [e])
        rcases this with e | e
        · exact absurd e hne'
        · omega
      · intro h j hj
        have hj : j < L.length := List.mem_range.1 hj
        by_cases e : j = i
        · simp [e]
        · cases hdj : doneB D j
          · have := h (j : Int) (undoneTo_mem.2 ⟨j, hj, hdj, rfl⟩) (by omega)
            simp [e]
            omega
          · simp
    have : minOk L f g (i : Int) = freeTo L D i L.length := by
      rw [Bool.eq_iff_iff, key, key2]
    exact this
  · unfold freeTo
    rw [hd]
    simp

end Go.Proofs.Ythngehpmoiojfaa
