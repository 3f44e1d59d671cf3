/- Layer 8: whether a list is an order, as plain reckoning: both ways to tell are one; all orders, out of all lists. -/
import Derived.Test.YthngehpmoiojfaaLinPlain8
namespace Go.Proofs.Ythngehpmoiojfaa
open Go.RowKit

section
variable {S : Type} (m : MachZ S) (L : List CallZ)
/-- The document's way. -/
def checkZ : List Bool → S → List Int → Bool
  | _, _, [] => true
  | D, s, i :: r => decide (0 ≤ i) && decide (i < (L.length : Int)) && freeTo L D i.toNat L.length && goOk m L s i && checkZ (D.set i.toNat true) (goTo m L s i) r
def refCheckZ (s : S) (order : List Int) : Bool := decide (order.length = L.length) && checkZ m L (List.replicate L.length false) s order
theorem minZ_free {D : List Bool} {i : Int} : i ∈ minZ L D ↔ (0 ≤ i ∧ i < (L.length : Int)) ∧ freeTo L D i.toNat L.length = true := by
  rw [minZ_mem]
  constructor
  · rintro ⟨k, rfl, h⟩
    have := h.lt
    exact ⟨⟨by omega, by omega⟩, by rw [Int.toNat_natCast]; exact freeTo_iff.2 ⟨h.un, h.first⟩⟩
  · rintro ⟨⟨h1, h2⟩, h3⟩
    obtain ⟨k, rfl⟩ : ∃ k : Nat, i = k := ⟨i.toNat, by omega⟩
    rw [Int.toNat_natCast] at h3
    exact ⟨k, rfl, by omega, (freeTo_iff.1 h3).1, (freeTo_iff.1 h3).2⟩
theorem checkZ_ok : ∀ (r : List Int) (D : List Bool) (s : S), checkZ m L D s r = true ↔ okSeq m L r.length D s r
  | [], D, s => by simp [checkZ, okSeq]
  | i :: r, D, s => by
    simp only [checkZ, Bool.and_eq_true, decide_eq_true_eq, List.length_cons, okSeq, minZ_free, checkZ_ok r]
    constructor
    · rintro ⟨⟨⟨h1, h2⟩, h3⟩, h4⟩; exact ⟨⟨h1, h2⟩, h3, h4⟩
    · rintro ⟨⟨h1, h2⟩, h3, h4⟩; exact ⟨⟨⟨h1, h2⟩, h3⟩, h4⟩
theorem okSeq_len : ∀ (n : Nat) (D : List Bool) (s : S) (r : List Int), okSeq m L n D s r → r.length = n
  | 0, _, _, r, h => by simp only [okSeq] at h; rw [h]; rfl
  | n + 1, _, _, [], h => h.elim
  | n + 1, _, _, i :: r, h => by rw [List.length_cons, okSeq_len n _ _ r h.2.2]

/-- What is done may be told by a longer list. -/
def Agree (D D' : List Bool) : Prop := L.length ≤ D.length ∧ L.length ≤ D'.length ∧ ∀ i, i < L.length → doneB D i = doneB D' i
theorem Agree.set {D D' : List Bool} (h : Agree L D D') (i : Nat) : Agree L (D.set i true) (D'.set i true) := by
  refine ⟨by simpa using h.1, by simpa using h.2.1, fun j hj => ?_⟩
  by_cases e : i = j
  · subst e
    rw [doneB_set_same (by have := h.1; omega), doneB_set_same (by have := h.2.1; omega)]
  · rw [doneB_set_ne e, doneB_set_ne e]; exact h.2.2 j hj
theorem Agree.min {D D' : List Bool} (h : Agree L D D') : minZ L D = minZ L D' := by
  rw [min_same, min_same]
  unfold refMin
  congr 1
  apply List.filter_congr
  intro i hi
  rw [Bool.eq_iff_iff, freeTo_iff, freeTo_iff, h.2.2 i (List.mem_range.1 hi)]
  refine and_congr Iff.rfl ⟨fun k j hj hne hd => k j hj hne (by rw [h.2.2 j hj]; exact hd), fun k j hj hne hd => k j hj hne (by rw [← h.2.2 j hj]; exact hd)⟩
theorem conts_agree : ∀ (n : Nat) {D D' : List Bool} (s : S), Agree L D D' → conts m L n D s = conts m L n D' s
  | 0, _, _, _, _ => rfl
  | n + 1, D, D', s, h => by
    simp only [conts, h.min]
    congr 1
    funext i
    rw [conts_agree n _ (h.set L i.toNat)]
theorem doneB_replicate (n i : Nat) : doneB (List.replicate n false) i = false := by
  unfold doneB
  rw [List.getD_eq_getElem?_getD, List.getElem?_replicate]
  split <;> rfl
theorem agree_none {k n : Nat} (h1 : L.length ≤ k) (h2 : L.length ≤ n) : Agree L (List.replicate k false) (List.replicate n false) := ⟨by simpa using h1, by simpa using h2, fun i _ => by rw [doneB_replicate, doneB_replicate]⟩
theorem nU_none (k : Nat) : nU L (List.replicate k false) = L.length := by
  unfold nU
  rw [List.countP_eq_length.2 (fun i _ => by rw [doneB_replicate]; rfl), List.length_range]
/-- What the document's way tells is among all. -/
theorem refCheck_mem {k : Nat} (hk : L.length ≤ k) (s : S) (order : List Int) : refCheckZ m L s order = true ↔ order ∈ conts m L L.length (List.replicate k false) s := by
  rw [conts_agree m L L.length s (agree_none L hk (Nat.le_refl _)), mem_conts]
  unfold refCheckZ
  rw [Bool.and_eq_true, decide_eq_true_eq, checkZ_ok]
  constructor
  · rintro ⟨h1, h2⟩; rw [h1] at h2; exact h2
  · intro h
    have := okSeq_len m L _ _ _ _ h
    exact ⟨this, by rw [this]; exact h⟩

/-- The program's way. -/
def onceZ (n : Nat) : List Bool → List Int → Bool
  | _, [] => true
  | D, i :: r => decide (0 ≤ i) && decide (i < (n : Int)) && !doneB D i.toNat && onceZ n (D.set i.toNat true) r
def timeZ : Int → List Int → Bool
  | _, [] => true
  | lst, i :: r => !decide ((atZ L i).to < lst) && timeZ (if lst < (atZ L i).fr then (atZ L i).fr else lst) r
def replayZ : S → List Int → Bool
  | _, [] => true
  | s, i :: r => goOk m L s i && replayZ (goTo m L s i) r
def minI : Int := -9223372036854775808
def linCheckZ (s : S) (order : List Int) : Bool := decide (order.length = L.length) && onceZ L.length (List.replicate L.length false) order && timeZ L minI order && replayZ m L s order
theorem timeZ_le : ∀ (r : List Int) (lst : Int), timeZ L lst r = true → ∀ j ∈ r, lst ≤ (atZ L j).to
  | [], _, _, j, hj => by simp at hj
  | i :: r, lst, h, j, hj => by
    simp only [timeZ, Bool.and_eq_true, Bool.not_eq_true', decide_eq_false_iff_not] at h
    rcases List.mem_cons.1 hj with rfl | hj
    · omega
    · have := timeZ_le r _ h.2 j hj
      split at this <;> omega
theorem once_all : ∀ (r : List Int) (D : List Bool), L.length ≤ D.length → onceZ L.length D r = true → r.length = nU L D → ∀ j : Nat, j < L.length → doneB D j = false → (j : Int) ∈ r
  | [], D, _, _, hn, j, hj, hd => by
    have := nU_zero L hn.symm j hj
    rw [hd] at this
    cases this
  | i :: r, D, hD, h, hn, j, hj, hd => by
    simp only [onceZ, Bool.and_eq_true, Bool.not_eq_true', decide_eq_true_eq] at h
    obtain ⟨⟨⟨h1, h2⟩, h3⟩, h4⟩ := h
    obtain ⟨k, rfl⟩ : ∃ k : Nat, i = k := ⟨i.toNat, by omega⟩
    rw [Int.toNat_natCast] at h3 h4
    have hk : k < L.length := by omega
    have := nU_set L hD hk h3
    by_cases e : k = j
    · subst e; simp
    · exact List.mem_cons_of_mem _ (once_all r _ (by simpa using hD) h4 (by simp only [List.length_cons] at hn; omega) j hj (by rw [doneB_set_ne e]; exact hd))
theorem check_of : ∀ (r : List Int) (D : List Bool) (s : S) (lst : Int), L.length ≤ D.length → r.length = nU L D → onceZ L.length D r = true → timeZ L lst r = true → replayZ m L s r = true → checkZ m L D s r = true
  | [], _, _, _, _, _, _, _, _ => rfl
  | i :: r, D, s, lst, hD, hn, ho, ht, hr => by
    have hall := once_all L (i :: r) D hD ho hn
    simp only [onceZ, Bool.and_eq_true, Bool.not_eq_true', decide_eq_true_eq] at ho
    obtain ⟨⟨⟨h1, h2⟩, h3⟩, h4⟩ := ho
    obtain ⟨k, rfl⟩ : ∃ k : Nat, i = k := ⟨i.toNat, by omega⟩
    have hk : k < L.length := by omega
    simp only [timeZ, Bool.and_eq_true] at ht
    simp only [replayZ, Bool.and_eq_true] at hr
    rw [Int.toNat_natCast] at h3 h4
    have hs := nU_set L hD hk h3
    have ih := check_of r (D.set k true) (goTo m L s k) _ (by simpa using hD) (by simp only [List.length_cons] at hn; omega) h4 ht.2 hr.2
    simp only [checkZ, Bool.and_eq_true, decide_eq_true_eq, Int.toNat_natCast]
    refine ⟨⟨⟨⟨h1, h2⟩, freeTo_iff.2 ⟨h3, fun j hj hne hd => ?_⟩⟩, hr.1⟩, ih⟩
    have hm : (j : Int) ∈ r := by
      rcases List.mem_cons.1 (hall j hj hd) with h | h
      · omega
      · exact h
    have := timeZ_le L r _ ht.2 _ hm
    split at this <;> omega
theorem of_check : ∀ (r : List Int) (D : List Bool) (s : S) (lst : Int), L.length ≤ D.length → (∀ j : Nat, j < L.length → doneB D j = false → lst ≤ (atZ L (j : Int)).to) → checkZ m L D s r = true → onceZ L.length D r = true ∧ timeZ L lst r = true ∧ replayZ m L s r = true
  | [], _, _, _, _, _, _ => ⟨rfl, rfl, rfl⟩
  | i :: r, D, s, lst, hD, hl, h => by
    simp only [checkZ, Bool.and_eq_true, decide_eq_true_eq] at h
    obtain ⟨⟨⟨⟨h1, h2⟩, h3⟩, h4⟩, h5⟩ := h
    obtain ⟨k, rfl⟩ : ∃ k : Nat, i = k := ⟨i.toNat, by omega⟩
    have hk : k < L.length := by omega
    rw [Int.toNat_natCast] at h3 h5
    have hf := freeTo_iff.1 h3
    have ih := of_check r (D.set k true) (goTo m L s k) (if lst < (atZ L (k : Int)).fr then (atZ L (k : Int)).fr else lst) (by simpa using hD) (fun j hj hd => by
      have hne : j ≠ k := by
        rintro rfl
        rw [doneB_set_same (by omega)] at hd
        cases hd
      rw [doneB_set_ne (Ne.symm hne)] at hd
      have := hl j hj hd
      have := hf.2 j hj hne hd
      split <;> omega) h5
    have hlk := hl k hk hf.1
    simp only [onceZ, timeZ, replayZ, Bool.and_eq_true, Bool.not_eq_true', decide_eq_true_eq, decide_eq_false_iff_not, Int.toNat_natCast]
    exact ⟨⟨⟨⟨h1, h2⟩, hf.1⟩, ih.1⟩, ⟨by omega, ih.2.1⟩, h4, ih.2.2⟩
theorem check_same (hto : ∀ c ∈ L, minI ≤ c.to) (s : S) (order : List Int) : linCheckZ m L s order = refCheckZ m L s order := by
  unfold linCheckZ refCheckZ
  rw [Bool.eq_iff_iff]
  simp only [Bool.and_eq_true, decide_eq_true_eq]
  constructor
  · rintro ⟨⟨⟨h1, h2⟩, h3⟩, h4⟩
    exact ⟨h1, check_of m L order _ s minI (by simp) (by rw [nU_none, h1]) h2 h3 h4⟩
  · rintro ⟨h1, h2⟩
    obtain ⟨a, b, c⟩ := of_check m L order _ s minI (by simp) (fun j hj _ => by rw [atZ_nat hj]; exact hto _ (List.getElem_mem hj)) h2
    exact ⟨⟨⟨h1, a⟩, b⟩, c⟩

/-- All lists of these places, the lesser ones first. -/
def permsOf : Nat → List Int → List (List Int)
  | 0, _ => [[]]
  | n + 1, R => R.flatMap fun i => (permsOf n (R.filter (· != i))).map (i :: ·)
theorem flatMap_filter {α β : Type} (p : α → Bool) (f : α → List β) : ∀ l : List α, (l.filter p).flatMap f = l.flatMap fun x => if p x = true then f x else []
  | [] => rfl
  | x :: l => by
    by_cases h : p x = true
    · rw [List.filter_cons_of_pos h, List.flatMap_cons, List.flatMap_cons, if_pos h, flatMap_filter p f l]
    · rw [List.filter_cons_of_neg h, List.flatMap_cons, if_neg h, flatMap_filter p f l]; rfl
theorem flatMap_cong {α β : Type} {f g : α → List β} : ∀ {l : List α}, (∀ x ∈ l, f x = g x) → l.flatMap f = l.flatMap g
  | [], _ => rfl
  | x :: l, h => by rw [List.flatMap_cons, List.flatMap_cons, h x (by simp), flatMap_cong (fun y hy => h y (by simp [hy]))]
theorem undoneTo_set {D : List Bool} {i : Nat} (hD : L.length ≤ D.length) (hi : i < L.length) : undoneTo (D.set i true) L.length = (undoneTo D L.length).filter (· != (i : Int)) := by
  unfold undoneTo
  rw [List.filter_map, List.filter_filter]
  congr 1
  apply List.filter_congr
  intro j _
  by_cases e : i = j
  · subst e
    rw [doneB_set_same (by omega)]
    simp
  · rw [doneB_set_ne e]
    have : ((j : Int) != (i : Int)) = true := by simp; omega
    simp [this]
theorem minZ_filter (D : List Bool) : minZ L D = (undoneTo D L.length).filter fun i => freeTo L D i.toNat L.length := by
  rw [min_same]
  unfold refMin undoneTo
  rw [List.filter_map, List.filter_filter]
  congr 1
  apply List.filter_congr
  intro j _
  simp only [Function.comp, Int.toNat_natCast]
  unfold freeTo
  cases doneB D j <;> simp
theorem undone_nU (D : List Bool) : (undoneTo D L.length).length = nU L D := by
  unfold undoneTo nU
  rw [List.length_map, List.countP_eq_length_filter]
theorem perms_filter : ∀ (n : Nat) (D : List Bool) (s : S), L.length ≤ D.length → nU L D = n → (permsOf n (undoneTo D L.length)).filter (checkZ m L D s) = conts m L n D s
  | 0, D, s, _, _ => by simp [permsOf, conts, checkZ]
  | n + 1, D, s, hD, hn => by
    rw [permsOf, conts, List.filter_flatMap, minZ_filter, flatMap_filter]
    apply flatMap_cong
    intro i hi
    obtain ⟨k, hk, hd, rfl⟩ := undoneTo_mem.1 hi
    have h1 : decide (0 ≤ (k : Int)) = true := by simp
    have h2 : decide ((k : Int) < (L.length : Int)) = true := by simp [hk]
    have hs := nU_set L hD hk hd
    rw [List.filter_map]
    have hc : (checkZ m L D s ∘ fun x => (k : Int) :: x) = fun r => (freeTo L D k L.length && goOk m L s k) && checkZ m L (D.set k true) (goTo m L s k) r := by
      funext r
      simp only [Function.comp, checkZ, h1, h2, Bool.true_and, Int.toNat_natCast]
    rw [hc]
    by_cases hf : freeTo L D k L.length = true
    · by_cases hg : goOk m L s (k : Int) = true
      · rw [Int.toNat_natCast, if_pos hf, if_pos hg, hf, hg]
        simp only [Bool.and_true, Bool.true_and]
        rw [← undoneTo_set L hD hk, perms_filter n (D.set k true) (goTo m L s k) (by simpa using hD) (by omega)]
      · rw [Int.toNat_natCast, if_pos hf, if_neg hg]
        simp [hg]
    · rw [Int.toNat_natCast, if_neg hf]
      simp [hf]
end

end Go.Proofs.Ythngehpmoiojfaa
