/- Layer 8: orders of histories, as plain reckoning, whatever the machine. -/
import Derived.Test.YthngehpmoiojfaaMinPlain7
namespace Go.Proofs.Ythngehpmoiojfaa
open Go.RowKit

instance : DecidableEq OpZ := fun a b => decidable_of_iff (a.k = b.k ∧ a.s = b.s ∧ a.t = b.t ∧ a.p = b.p ∧ a.keep = b.keep) (by cases a; cases b; simp)
instance : DecidableEq AnZ := fun a b => decidable_of_iff (a.e = b.e ∧ a.a = b.a ∧ a.b = b.b ∧ a.t = b.t ∧ a.p = b.p ∧ a.kept = b.kept) (by cases a; cases b; simp)

theorem doneB_set_same {D : List Bool} {i : Nat} (h : i < D.length) (b : Bool) : doneB (D.set i b) i = b := by
  unfold doneB
  rw [List.getD_eq_getElem?_getD, List.getElem?_set_self h]
  rfl
theorem doneB_set_ne {D : List Bool} {i j : Nat} (h : i ≠ j) (b : Bool) : doneB (D.set i b) j = doneB D j := by
  unfold doneB
  rw [List.getD_eq_getElem?_getD, List.getElem?_set_ne h, ← List.getD_eq_getElem?_getD]
/-- Which calls may come next. -/
structure Free (L : List CallZ) (D : List Bool) (i : Nat) : Prop where
  lt : i < L.length
  un : doneB D i = false
  first : ∀ j, j < L.length → j ≠ i → doneB D j = false → ¬ (atZ L (j : Int)).to < (atZ L (i : Int)).fr
theorem freeTo_iff {L : List CallZ} {D : List Bool} {i : Nat} : freeTo L D i L.length = true ↔ doneB D i = false ∧ ∀ j, j < L.length → j ≠ i → doneB D j = false → ¬ (atZ L (j : Int)).to < (atZ L (i : Int)).fr := by
  unfold freeTo
  rw [Bool.and_eq_true, Bool.not_eq_true', List.all_eq_true]
  refine and_congr Iff.rfl ⟨fun h j hj hne hd => ?_, fun h j hj => ?_⟩
  · have := h j (List.mem_range.2 hj)
    simp [hd, hne] at this
    omega
  · by_cases e : j = i
    · simp [e]
    · cases hd : doneB D j
      · have := h j (List.mem_range.1 hj) e hd
        simp [e]
        omega
      · simp
theorem minZ_mem {L : List CallZ} {D : List Bool} {x : Int} : x ∈ minZ L D ↔ ∃ i : Nat, x = (i : Int) ∧ Free L D i := by
  rw [min_same]
  unfold refMin
  simp only [List.mem_map, List.mem_filter, List.mem_range]
  constructor
  · rintro ⟨i, ⟨h1, h2⟩, rfl⟩
    exact ⟨i, rfl, h1, (freeTo_iff.1 h2).1, (freeTo_iff.1 h2).2⟩
  · rintro ⟨i, rfl, h⟩
    exact ⟨i, ⟨h.lt, freeTo_iff.2 ⟨h.un, h.first⟩⟩, rfl⟩

/-- A machine. -/
structure MachZ (S : Type) where
  go : S → OpZ → S × AnZ
section
variable {S : Type} (m : MachZ S) (L : List CallZ)
def goOk (s : S) (i : Int) : Bool := decide ((m.go s (atZ L i).op).2 = (atZ L i).an)
def goTo (s : S) (i : Int) : S := (m.go s (atZ L i).op).1
/-- All that n calls more can come to, from that state on, where those of D are done; in order. -/
def conts : Nat → List Bool → S → List (List Int)
  | 0, _, _ => [[]]
  | n + 1, D, s => (minZ L D).flatMap fun i => if goOk m L s i = true then (conts n (D.set i.toNat true) (goTo m L s i)).map (i :: ·) else []
def okSeq : Nat → List Bool → S → List Int → Prop
  | 0, _, _, r => r = []
  | _ + 1, _, _, [] => False
  | n + 1, D, s, i :: r => i ∈ minZ L D ∧ goOk m L s i = true ∧ okSeq n (D.set i.toNat true) (goTo m L s i) r
theorem mem_conts : ∀ (n : Nat) (D : List Bool) (s : S) (r : List Int), r ∈ conts m L n D s ↔ okSeq m L n D s r
  | 0, D, s, r => by simp [conts, okSeq]
  | n + 1, D, s, r => by
    simp only [conts, List.mem_flatMap]
    constructor
    · rintro ⟨i, hi, h⟩
      split at h
      · obtain ⟨r', hr, rfl⟩ := List.mem_map.1 h
        rename_i hok
        exact ⟨hi, hok, (mem_conts n _ _ _).1 hr⟩
      · simp at h
    · intro h
      cases r with
      | nil => exact h.elim
      | cons i r =>
        refine ⟨i, h.1, ?_⟩
        rw [if_pos h.2.1]
        exact List.mem_map.2 ⟨r, (mem_conts n _ _ _).2 h.2.2, rfl⟩

/-- What goes on with one place, if anything does: the first such. -/
def contAt (n : Nat) (D : List Bool) (s : S) (i : Int) : Option (List Int) := if goOk m L s i = true then (conts m L n (D.set i.toNat true) (goTo m L s i)).head?.map (i :: ·) else none
theorem conts_head (n : Nat) (D : List Bool) (s : S) : (conts m L (n + 1) D s).head? = (minZ L D).findSome? (contAt m L n D s) := by
  rw [conts, List.head?_flatMap]
  congr 1
  funext i
  unfold contAt
  split
  · rw [List.head?_map]
  · rfl
theorem contAt_some {n : Nat} {D : List Bool} {s : S} {i : Int} (h : contAt m L n D s i ≠ none) : goOk m L s i = true ∧ ∃ r, okSeq m L n (D.set i.toNat true) (goTo m L s i) r := by
  unfold contAt at h
  split at h
  · rename_i hok
    refine ⟨hok, ?_⟩
    cases hc : conts m L n (D.set i.toNat true) (goTo m L s i) with
    | nil => simp [hc] at h
    | cons r rs => exact ⟨r, (mem_conts m L n _ _ r).1 (by simp [hc])⟩
  · simp at h
theorem contAt_of {n : Nat} {D : List Bool} {s : S} {i : Int} (hok : goOk m L s i = true) {r : List Int} (h : okSeq m L n (D.set i.toNat true) (goTo m L s i) r) : contAt m L n D s i ≠ none := by
  unfold contAt
  rw [if_pos hok]
  have := (mem_conts m L n _ _ r).2 h
  cases hc : conts m L n (D.set i.toNat true) (goTo m L s i) with
  | nil => rw [hc] at this; simp at this
  | cons r rs => simp

/-- One call stands for another one. -/
def stands (a b : CallZ) : Bool := decide (a.op = b.op) && decide (a.an = b.an) && decide (a.to ≤ b.to)
variable {L}
theorem Free.set {D : List Bool} {i k : Nat} (h : Free L D i) (hne : k ≠ i) : Free L (D.set k true) i :=
  ⟨h.lt, by rw [doneB_set_ne hne]; exact h.un, fun j hj hji hd => h.first j hj hji (by
    by_cases e : k = j
    · subst e
      by_cases hl : k < D.length
      · rw [doneB_set_same hl] at hd; cases hd
      · rwa [List.set_eq_of_length_le (by omega)] at hd
    · rwa [doneB_set_ne e] at hd)⟩
theorem set_swap (D : List Bool) {a b : Nat} (h : a ≠ b) : (D.set a true).set b true = (D.set b true).set a true := List.set_comm _ _ h
/-- Two calls that stand for one another change places. -/
theorem swap_ok {a b : Nat} (ha : a < L.length) (hb : b < L.length) (hab : a ≠ b) (hst : stands (atZ L (a : Int)) (atZ L (b : Int)) = true) : ∀ (n : Nat) (D : List Bool) (s : S) (r : List Int), L.length ≤ D.length → Free L D b → doneB D a = false →
    okSeq m L n (D.set b true) s r → (∃ k : Nat, k < L.length ∧ doneB (D.set b true) k = false ∧ k = a) → (a : Int) ∈ r → ∃ r', okSeq m L n (D.set a true) s r'
  | 0, D, s, r, _, _, _, h, _, hm => by
    simp only [okSeq] at h
    subst h
    simp at hm
  | n + 1, D, s, [], _, _, _, h, _, _ => h.elim
  | n + 1, D, s, x :: r, hD, hfb, hda, h, hk, hm => by
    simp only [stands, Bool.and_eq_true, decide_eq_true_eq] at hst
    obtain ⟨⟨hop, han⟩, hto⟩ := hst
    obtain ⟨hx, hok, hr⟩ := h
    obtain ⟨i, rfl, hf⟩ := minZ_mem.1 hx
    by_cases e : i = a
    · subst e
      refine ⟨(b : Int) :: r, minZ_mem.2 ⟨b, rfl, hfb.set hab⟩, ?_, ?_⟩
      · unfold goOk at hok ⊢
        rw [← hop, ← han]
        exact hok
      · rw [Int.toNat_natCast] at hr ⊢
        rw [set_swap D hab]
        have : goTo m L s (b : Int) = goTo m L s (i : Int) := by unfold goTo; rw [hop]
        rw [this]
        exact hr
    · have hib : i ≠ b := by
        rintro rfl
        have := hf.un
        rw [doneB_set_same (by omega)] at this
        cases this
      have hm' : (a : Int) ∈ r := by
        rcases List.mem_cons.1 hm with h | h
        · omega
        · exact h
      rw [Int.toNat_natCast, set_swap D (Ne.symm hib)] at hr
      have hun : doneB D i = false := by have := hf.un; rwa [doneB_set_ne (Ne.symm hib)] at this
      obtain ⟨r', hr'⟩ := swap_ok ha hb hab (by simp [stands, hop, han, hto]) n (D.set i true) (goTo m L s i) r (by simpa using hD) (hfb.set hib) (by rw [doneB_set_ne e]; exact hda) hr
        ⟨a, ha, by rw [doneB_set_ne (Ne.symm hab), doneB_set_ne e]; exact hda, rfl⟩ hm'
      refine ⟨(i : Int) :: r', minZ_mem.2 ⟨i, rfl, hf.lt, by rw [doneB_set_ne (Ne.symm e)]; exact hun, fun j hj hji hd => ?_⟩, hok, ?_⟩
      · have hja : j ≠ a := by
          rintro rfl
          rw [doneB_set_same (by omega)] at hd
          cases hd
        rw [doneB_set_ne (Ne.symm hja)] at hd
        by_cases ej : j = b
        · subst ej
          have := hf.first a ha (Ne.symm e) (by rw [doneB_set_ne (Ne.symm hab)]; exact hda)
          omega
        · exact hf.first j hj hji (by rw [doneB_set_ne (Ne.symm ej)]; exact hd)
      · rw [Int.toNat_natCast, set_swap D (Ne.symm e)]
        exact hr'
variable (L)
/-- How many calls aren't done. -/
def nU (D : List Bool) : Nat := (List.range L.length).countP fun i => !doneB D i
theorem countP_set {D : List Bool} {i : Nat} (hD : i < D.length) (hd : doneB D i = false) : ∀ n, (List.range n).countP (fun j => !doneB D j) = (List.range n).countP (fun j => !doneB (D.set i true) j) + if i < n then 1 else 0
  | 0 => by simp
  | n + 1 => by
    rw [List.range_succ, List.countP_append, List.countP_append, countP_set hD hd n]
    by_cases e : i = n
    · subst e
      simp [hd, doneB_set_same hD]
    · have h1 : (if i < n + 1 then 1 else 0 : Nat) = if i < n then 1 else 0 := by
        by_cases h : i < n
        · rw [if_pos h, if_pos (show i < n + 1 by omega)]
        · rw [if_neg h, if_neg (show ¬ i < n + 1 by omega)]
      simp only [List.countP_singleton, doneB_set_ne e]
      rw [h1]
      omega
theorem nU_set {D : List Bool} {i : Nat} (hD : L.length ≤ D.length) (hi : i < L.length) (hd : doneB D i = false) : nU L D = nU L (D.set i true) + 1 := by
  unfold nU
  rw [countP_set (by omega) hd, if_pos hi]
theorem nU_zero {D : List Bool} (h : nU L D = 0) : ∀ i, i < L.length → doneB D i = true := fun i hi => by
  have := List.countP_eq_zero.1 h i (List.mem_range.2 hi)
  simpa using this
/-- An order has all that isn't done. -/
theorem okSeq_all : ∀ (n : Nat) (D : List Bool) (s : S) (r : List Int), L.length ≤ D.length → nU L D = n → okSeq m L n D s r → ∀ j : Nat, j < L.length → doneB D j = false → (j : Int) ∈ r
  | 0, D, s, r, _, hn, _, j, hj, hd => by
    have := nU_zero L hn j hj
    rw [hd] at this
    cases this
  | n + 1, D, s, [], _, _, h, _, _, _ => h.elim
  | n + 1, D, s, x :: r, hD, hn, h, j, hj, hd => by
    obtain ⟨i, rfl, hf⟩ := minZ_mem.1 h.1
    by_cases e : i = j
    · subst e; simp
    · have := nU_set L hD hf.lt hf.un
      exact List.mem_cons_of_mem _ (okSeq_all n _ _ r (by simpa using hD) (by rw [Int.toNat_natCast]; omega) h.2.2 j hj (by rw [Int.toNat_natCast, doneB_set_ne e]; exact hd))
/-- What another one stands for is left out, and nothing is lost. -/
def unlikeStep (K : List Int) (j : Int) : List Int := if (K.any fun i => stands (atZ L i) (atZ L j)) = true then K else K ++ [j]
def unlikeZ (P : List Int) : List Int := P.foldl (unlikeStep L) []
theorem unlike_len : ∀ (P K : List Int), (P.foldl (unlikeStep L) K).length ≤ K.length + P.length
  | [], K => by simp
  | j :: P, K => by
    have := unlike_len P (unlikeStep L K j)
    have h2 : (unlikeStep L K j).length ≤ K.length + 1 := by unfold unlikeStep; split <;> simp
    simp only [List.foldl_cons, List.length_cons]
    omega
theorem unlike_mem : ∀ (P K : List Int) (x : Int), x ∈ P.foldl (unlikeStep L) K → x ∈ K ∨ x ∈ P
  | [], K, x, h => .inl h
  | j :: P, K, x, h => by
    rcases unlike_mem P _ x h with h | h
    · unfold unlikeStep at h
      split at h
      · exact .inl h
      · rcases List.mem_append.1 h with h | h
        · exact .inl h
        · simp at h; exact .inr (by simp [h])
    · exact .inr (by simp [h])
theorem unlike_find {g : Int → Option (List Int)} : ∀ (P K Q : List Int), K.findSome? g = Q.findSome? g → (∀ x ∈ K, x ∈ Q) → (∀ i ∈ Q ++ P, ∀ j ∈ Q ++ P, stands (atZ L i) (atZ L j) = true → g i = none → g j = none) → (P.foldl (unlikeStep L) K).findSome? g = (Q ++ P).findSome? g
  | [], K, Q, h, _, _ => by simpa using h
  | j :: P, K, Q, h, hK, hg => by
    have key : (unlikeStep L K j).findSome? g = (Q ++ [j]).findSome? g := by
      unfold unlikeStep
      split
      · rename_i hs
        obtain ⟨i, hi, hst⟩ := List.any_eq_true.1 hs
        rw [h, List.findSome?_append]
        cases hq : Q.findSome? g with
        | some x => simp
        | none =>
          have h1 := List.findSome?_eq_none_iff.1 hq i (hK i hi)
          have h2 := hg i (by simp [hK i hi]) j (by simp) hst h1
          simp [h2]
      · rw [List.findSome?_append, List.findSome?_append, h]
    have := unlike_find P (unlikeStep L K j) (Q ++ [j]) key (fun x hx => by
      unfold unlikeStep at hx
      split at hx
      · simp [hK x hx]
      · rcases List.mem_append.1 hx with hx | hx
        · simp [hK x hx]
        · simp at hx; simp [hx]) (by simpa using hg)
    simpa using this
theorem unlike_same {n : Nat} {D : List Bool} {s : S} (hD : L.length ≤ D.length) (hn : nU L D = n + 1) : (unlikeZ L (minZ L D)).findSome? (contAt m L n D s) = (minZ L D).findSome? (contAt m L n D s) := by
  have := unlike_find L (g := contAt m L n D s) (minZ L D) [] [] rfl (by simp) ?_
  · simpa [unlikeZ] using this
  · intro x hx y hy hst hnone
    simp only [List.nil_append] at hx hy
    obtain ⟨a, rfl, ha⟩ := minZ_mem.1 hx
    obtain ⟨b, rfl, hb⟩ := minZ_mem.1 hy
    by_cases e : a = b
    · subst e; exact hnone
    by_cases hne : contAt m L n D s (b : Int) = none
    · exact hne
    exfalso
    obtain ⟨hok, r, hr⟩ := contAt_some m L hne
    rw [Int.toNat_natCast] at hr
    have hst' := hst
    simp only [stands, Bool.and_eq_true, decide_eq_true_eq] at hst'
    obtain ⟨⟨hop, han⟩, hto⟩ := hst'
    have hda : doneB (D.set b true) a = false := by rw [doneB_set_ne (Ne.symm e)]; exact ha.un
    have hall := okSeq_all m L n (D.set b true) (goTo m L s (b : Int)) r (by simpa using hD) (by have := nU_set L hD hb.lt hb.un; omega) hr a ha.lt hda
    obtain ⟨r', hr'⟩ := swap_ok m ha.lt hb.lt e hst n D (goTo m L s (b : Int)) r hD hb ha.un hr ⟨a, ha.lt, hda, rfl⟩ hall
    refine contAt_of m L (i := (a : Int)) (r := r') ?_ ?_ hnone
    · unfold goOk at hok ⊢
      rw [hop, han]; exact hok
    · have : goTo m L s (a : Int) = goTo m L s (b : Int) := by unfold goTo; rw [hop]
      rw [Int.toNat_natCast, this]
      exact hr'
/-- The first order is found among what is left. -/
theorem find_unlike {n : Nat} {D : List Bool} {s : S} (hD : L.length ≤ D.length) (hn : nU L D = n + 1) : (unlikeZ L (minZ L D)).findSome? (contAt m L n D s) = (conts m L (n + 1) D s).head? := by
  rw [unlike_same m L hD hn, conts_head]
theorem conts_len (n : Nat) (D : List Bool) (s : S) : (conts m L (n + 1) D s).length = ((minZ L D).map fun i => if goOk m L s i = true then (conts m L n (D.set i.toNat true) (goTo m L s i)).length else 0).sum := by
  rw [conts, List.length_flatMap]
  congr 1
  apply List.map_congr_left
  intro i _
  split <;> simp
end

end Go.Proofs.Ythngehpmoiojfaa
