/- Plain facts on lists of numbers that rise: putting one in, taking one away, joining two, sorting. No program. -/
import Derived.Lib.SlicesCompact
namespace Go.Proofs.Ytabgedmocdjkcaa

/-- How many stand ahead of the first of which p does not hold. -/
def plc {α : Type} (p : α → Bool) (L : List α) : Nat := (L.takeWhile p).length
theorem plc_le {α : Type} (p : α → Bool) (L : List α) : plc p L ≤ L.length := (List.takeWhile_sublist p).length_le
theorem take_plc {α : Type} (p : α → Bool) : ∀ L : List α, L.take (plc p L) = L.takeWhile p
  | [] => by simp [plc]
  | y :: r => by
    unfold plc
    rw [List.takeWhile_cons]
    cases h : p y
    · simp
    · have := take_plc p r
      unfold plc at this
      simp [this]
theorem drop_plc {α : Type} (p : α → Bool) : ∀ L : List α, L.drop (plc p L) = L.dropWhile p
  | [] => by simp [plc]
  | y :: r => by
    unfold plc
    rw [List.takeWhile_cons, List.dropWhile_cons]
    cases h : p y
    · simp
    · have := drop_plc p r
      unfold plc at this
      simp [this]
/-- A place up to which p holds, and from which on it does not, is that one. -/
theorem plc_of {α : Type} (p : α → Bool) : ∀ (L : List α) (i : Nat), i ≤ L.length → (∀ k x, k < i → L[k]? = some x → p x = true) → (∀ x, L[i]? = some x → p x = false) → i = plc p L
  | [], i, hi, _, _ => by
    have : i = 0 := by simpa using hi
    subst this; rfl
  | y :: r, 0, _, _, h2 => by
    have := h2 y rfl
    simp [plc, this]
  | y :: r, i + 1, hi, h1, h2 => by
    have h0 := h1 0 y (by omega) rfl
    have := plc_of p r i (by simpa using hi) (fun k x hk hx => h1 (k + 1) x (by omega) (by simpa using hx)) (fun x hx => h2 x (by simpa using hx))
    rw [this]
    unfold plc
    rw [List.takeWhile_cons, if_pos h0]
    rfl

/-- Rising, each once. -/
abbrev Up (L : List Int) : Prop := L.Pairwise (· < ·)

theorem up_ext : ∀ {A B : List Int}, Up A → Up B → (∀ z, z ∈ A ↔ z ∈ B) → A = B
  | [], [], _, _, _ => rfl
  | [], b :: B, _, _, h => by have := (h b).2 (by simp); simp at this
  | a :: A, [], _, _, h => by have := (h a).1 (by simp); simp at this
  | a :: A, b :: B, hA, hB, h => by
    obtain ⟨a1, a2⟩ := List.pairwise_cons.1 hA
    obtain ⟨b1, b2⟩ := List.pairwise_cons.1 hB
    have hab : a = b := by
      have h1 : a ∈ b :: B := (h a).1 (by simp)
      have h2 : b ∈ a :: A := (h b).2 (by simp)
      rcases List.mem_cons.1 h1 with e | h1
      · exact e
      · rcases List.mem_cons.1 h2 with e | h2
        · exact e.symm
        · have := a1 _ h2; have := b1 _ h1; omega
    subst hab
    congr 1
    refine up_ext a2 b2 fun z => ⟨fun hz => ?_, fun hz => ?_⟩
    · have := a1 _ hz
      rcases List.mem_cons.1 ((h z).1 (by simp [hz])) with e | e
      · omega
      · exact e
    · have := b1 _ hz
      rcases List.mem_cons.1 ((h z).2 (by simp [hz])) with e | e
      · omega
      · exact e

/-- The list with x, as the document's own answer puts it in. -/
def withZ (x : Int) : List Int → List Int
  | [] => [x]
  | y :: r => if x ≤ y then x :: (y :: r).filter (fun z => z != x) else y :: withZ x r
/-- The list without x. -/
def woZ (x : Int) (L : List Int) : List Int := L.filter (fun z => z != x)
theorem mem_woZ {x z : Int} {L : List Int} : z ∈ woZ x L ↔ z ∈ L ∧ z ≠ x := by simp [woZ]
theorem up_woZ {x : Int} {L : List Int} (h : Up L) : Up (woZ x L) := h.filter _
theorem mem_withZ {x z : Int} : ∀ {L : List Int}, z ∈ withZ x L ↔ z = x ∨ z ∈ L
  | [] => by simp [withZ]
  | y :: r => by
    unfold withZ
    split
    · by_cases hz : z = x <;> simp [hz]
    · rw [List.mem_cons, mem_withZ (L := r), List.mem_cons]
      constructor
      · rintro (h | h | h)
        · exact .inr (.inl h)
        · exact .inl h
        · exact .inr (.inr h)
      · rintro (h | h | h)
        · exact .inr (.inl h)
        · exact .inl h
        · exact .inr (.inr h)
theorem up_withZ {x : Int} : ∀ {L : List Int}, Up L → Up (withZ x L)
  | [], _ => by simp [withZ]
  | y :: r, h => by
    obtain ⟨h1, h2⟩ := List.pairwise_cons.1 h
    unfold withZ
    split
    · rename_i hxy
      refine List.pairwise_cons.2 ⟨fun z hz => ?_, h.filter _⟩
      simp only [List.mem_filter, List.mem_cons, bne_iff_ne, ne_eq] at hz
      obtain ⟨hz | hz, hne⟩ := hz
      · omega
      · have := h1 _ hz; omega
    · rename_i hxy
      refine List.pairwise_cons.2 ⟨fun z hz => ?_, up_withZ h2⟩
      rcases mem_withZ.1 hz with e | e
      · omega
      · exact h1 _ e

abbrev ltB (x : Int) : Int → Bool := fun y => decide (y < x)
theorem mem_takeWhile_lt {x z : Int} : ∀ {L : List Int}, Up L → (z ∈ L.takeWhile (ltB x) ↔ z ∈ L ∧ z < x)
  | [], _ => by simp
  | y :: r, h => by
    obtain ⟨h1, h2⟩ := List.pairwise_cons.1 h
    rw [List.takeWhile_cons]
    by_cases hy : y < x
    · rw [if_pos (by simpa using hy), List.mem_cons, mem_takeWhile_lt h2, List.mem_cons]
      constructor
      · rintro (e | e)
        · exact ⟨.inl e, by omega⟩
        · exact ⟨.inr e.1, e.2⟩
      · rintro ⟨e | e, f⟩
        · exact .inl e
        · exact .inr ⟨e, f⟩
    · rw [if_neg (by simpa using hy)]
      constructor
      · intro e; simp at e
      · rintro ⟨e, f⟩
        rcases List.mem_cons.1 e with e | e
        · omega
        · have := h1 _ e; omega
theorem mem_dropWhile_lt {x z : Int} : ∀ {L : List Int}, Up L → (z ∈ L.dropWhile (ltB x) ↔ z ∈ L ∧ x ≤ z)
  | [], _ => by simp
  | y :: r, h => by
    obtain ⟨h1, h2⟩ := List.pairwise_cons.1 h
    rw [List.dropWhile_cons]
    by_cases hy : y < x
    · rw [if_pos (by simpa using hy), mem_dropWhile_lt h2, List.mem_cons]
      constructor
      · rintro ⟨e, f⟩; exact ⟨.inr e, f⟩
      · rintro ⟨e | e, f⟩
        · omega
        · exact ⟨e, f⟩
    · rw [if_neg (by simpa using hy)]
      constructor
      · intro e
        refine ⟨e, ?_⟩
        rcases List.mem_cons.1 e with e | e
        · omega
        · have := h1 _ e; omega
      · exact fun e => e.1
theorem up_take {L : List Int} (h : Up L) (k : Nat) : Up (L.take k) := h.sublist (List.take_sublist k L)
theorem up_drop {L : List Int} (h : Up L) (k : Nat) : Up (L.drop k) := h.sublist (List.drop_sublist k L)

/-- What With puts together. -/
theorem put_new {x : Int} {L : List Int} (h : Up L) (hx : x ∉ L) : L.take (plc (ltB x) L) ++ x :: L.drop (plc (ltB x) L) = withZ x L := by
  have e1 := take_plc (ltB x) L
  have e2 := drop_plc (ltB x) L
  refine up_ext ?_ (up_withZ h) fun z => ?_
  · refine List.pairwise_append.2 ⟨up_take h _, List.pairwise_cons.2 ⟨fun z hz => ?_, up_drop h _⟩, fun a ha b hb => ?_⟩
    · rw [e2, mem_dropWhile_lt h] at hz
      have : z ≠ x := fun e => hx (e ▸ hz.1)
      omega
    · rw [e1, mem_takeWhile_lt h] at ha
      rcases List.mem_cons.1 hb with rfl | hb
      · exact ha.2
      · rw [e2, mem_dropWhile_lt h] at hb; omega
  · rw [mem_withZ, List.mem_append, List.mem_cons, e1, e2, mem_takeWhile_lt h, mem_dropWhile_lt h]
    constructor
    · rintro (e | e | e)
      · exact .inr e.1
      · exact .inl e
      · exact .inr e.1
    · rintro (e | e)
      · exact .inr (.inl e)
      · by_cases hz : z < x
        · exact .inl ⟨e, hz⟩
        · exact .inr (.inr ⟨e, by omega⟩)
theorem put_old {x : Int} {L : List Int} (h : Up L) (hx : x ∈ L) : L = withZ x L :=
  up_ext h (up_withZ h) fun z => by
    rw [mem_withZ]
    exact ⟨.inr, fun e => e.elim (fun e => e ▸ hx) id⟩
theorem drop_none {x : Int} {L : List Int} (hx : x ∉ L) : L = woZ x L := by
  refine (List.filter_eq_self.2 fun z hz => ?_).symm
  have : z ≠ x := fun e => hx (e ▸ hz)
  simpa using this
/-- Of a rising list that has x, x stands at the place. -/
theorem at_plc {x : Int} {L : List Int} (h : Up L) (hx : x ∈ L) : L.dropWhile (ltB x) = x :: L.drop (plc (ltB x) L + 1) := by
  have e2 := drop_plc (ltB x) L
  have hd : Up (L.dropWhile (ltB x)) := by rw [← e2]; exact up_drop h _
  have hm : x ∈ L.dropWhile (ltB x) := (mem_dropWhile_lt h).2 ⟨hx, Int.le_refl _⟩
  have hall : ∀ z, z ∈ L.dropWhile (ltB x) → x ≤ z := fun z hz => ((mem_dropWhile_lt h).1 hz).2
  rw [← List.drop_drop, e2]
  revert hd hm hall
  generalize L.dropWhile (ltB x) = M
  intro hd hm hall
  cases M with
  | nil => simp at hm
  | cons y r =>
    have hy := hall y (by simp)
    rcases List.mem_cons.1 hm with rfl | hm
    · rfl
    · have := (List.pairwise_cons.1 hd).1 _ hm; omega
theorem plc_lt {x : Int} {L : List Int} (h : Up L) (hx : x ∈ L) : plc (ltB x) L < L.length := by
  have e2 := congrArg List.length (drop_plc (ltB x) L)
  rw [at_plc h hx, List.length_drop, List.length_cons] at e2
  omega
theorem get_plc {x : Int} {L : List Int} (h : Up L) (hx : x ∈ L) : L[plc (ltB x) L]? = some x := by
  have e2 := drop_plc (ltB x) L
  rw [at_plc h hx] at e2
  have := congrArg (fun l => l[0]?) e2
  simpa using this
theorem get_plc_ne {x : Int} {L : List Int} (hx : x ∉ L) : L[plc (ltB x) L]? ≠ some x := fun e => hx (List.mem_of_getElem? e)
theorem take_out {x : Int} {L : List Int} (h : Up L) (hx : x ∈ L) : L.take (plc (ltB x) L) ++ L.drop (plc (ltB x) L + 1) = woZ x L := by
  have e1 := take_plc (ltB x) L
  have e2 := drop_plc (ltB x) L
  rw [at_plc h hx] at e2
  have hL : L = L.takeWhile (ltB x) ++ x :: L.drop (plc (ltB x) L + 1) := by
    rw [← e2, ← e1, List.take_append_drop]
  refine up_ext ?_ (up_woZ h) fun z => ?_
  · have hL' := h
    rw [hL] at hL'
    rw [e1]
    exact hL'.sublist (List.Sublist.append (List.Sublist.refl _) (List.sublist_cons_self _ _))
  · have hu := h
    rw [hL] at hu
    obtain ⟨u1, u2, u3⟩ := List.pairwise_append.1 hu
    have u4 := (List.pairwise_cons.1 u2).1
    rw [mem_woZ, List.mem_append, e1]
    constructor
    · rintro (e | e)
      · exact ⟨by rw [hL]; exact List.mem_append.2 (.inl e), by have := u3 _ e x (by simp); omega⟩
      · exact ⟨by rw [hL]; exact List.mem_append.2 (.inr (List.mem_cons.2 (.inr e))), by have := u4 _ e; omega⟩
    · rintro ⟨e, f⟩
      rw [hL] at e
      rcases List.mem_append.1 e with e | e
      · exact .inl e
      · rcases List.mem_cons.1 e with e | e
        · exact absurd e f
        · exact .inr e

/-- What Join puts together: of the second list, what is below each of the first, and that one. -/
def jnZ : List Int → List Int → List Int
  | [], L => L
  | x :: r, L => L.takeWhile (ltB x) ++ x :: jnZ r (L.drop (plc (ltB x) L + if x ∈ L then 1 else 0))
theorem mem_left {x z : Int} {L : List Int} (h : Up L) : z ∈ L.drop (plc (ltB x) L + if x ∈ L then 1 else 0) ↔ z ∈ L ∧ x < z := by
  by_cases hx : x ∈ L
  · have e := at_plc h hx
    have hu : Up (L.dropWhile (ltB x)) := by rw [← drop_plc]; exact up_drop h _
    rw [if_pos hx]
    have hm := mem_dropWhile_lt (x := x) (z := z) h
    rw [e] at hm hu
    have u := (List.pairwise_cons.1 hu).1
    constructor
    · intro hz
      have h1 := u _ hz
      exact ⟨(hm.1 (by simp [hz])).1, h1⟩
    · rintro ⟨h1, h2⟩
      rcases List.mem_cons.1 (hm.2 ⟨h1, by omega⟩) with e | e
      · omega
      · exact e
  · rw [if_neg hx, Nat.add_zero, drop_plc, mem_dropWhile_lt h]
    constructor
    · rintro ⟨h1, h2⟩
      have : z ≠ x := fun e => hx (e ▸ h1)
      exact ⟨h1, by omega⟩
    · rintro ⟨h1, h2⟩; exact ⟨h1, by omega⟩
theorem mem_jnZ {z : Int} : ∀ {S L : List Int}, Up L → (z ∈ jnZ S L ↔ z ∈ S ∨ z ∈ L)
  | [], L, _ => by simp [jnZ]
  | x :: r, L, h => by
    rw [jnZ, List.mem_append, List.mem_cons, mem_jnZ (up_drop h _), mem_takeWhile_lt h, mem_left h, List.mem_cons]
    constructor
    · rintro (e | e | e | e)
      · exact .inr e.1
      · exact .inl (.inl e)
      · exact .inl (.inr e)
      · exact .inr e.1
    · rintro ((e | e) | e)
      · exact .inr (.inl e)
      · exact .inr (.inr (.inl e))
      · rcases Int.lt_trichotomy z x with f | f | f
        · exact .inl ⟨e, f⟩
        · exact .inr (.inl f)
        · exact .inr (.inr (.inr ⟨e, f⟩))
theorem up_jnZ : ∀ {S L : List Int}, Up S → Up L → Up (jnZ S L)
  | [], L, _, h => h
  | x :: r, L, hS, h => by
    obtain ⟨s1, s2⟩ := List.pairwise_cons.1 hS
    have hd := up_drop h (plc (ltB x) L + if x ∈ L then 1 else 0)
    have hmem : ∀ z, z ∈ jnZ r (L.drop (plc (ltB x) L + if x ∈ L then 1 else 0)) → x < z := fun z hz => by
      rcases (mem_jnZ hd).1 hz with e | e
      · exact s1 _ e
      · exact ((mem_left h).1 e).2
    rw [jnZ]
    refine List.pairwise_append.2 ⟨by rw [← take_plc]; exact up_take h _, List.pairwise_cons.2 ⟨hmem, up_jnZ s2 hd⟩, fun a ha b hb => ?_⟩
    have h1 := ((mem_takeWhile_lt h).1 ha).2
    rcases List.mem_cons.1 hb with rfl | hb
    · exact h1
    · have := hmem _ hb; omega
theorem jnZ_length : ∀ (S L : List Int), (jnZ S L).length ≤ S.length + L.length
  | [], L => by simp [jnZ]
  | x :: r, L => by
    have h1 := jnZ_length r (L.drop (plc (ltB x) L + if x ∈ L then 1 else 0))
    have h2 : (L.takeWhile (ltB x)).length = plc (ltB x) L := rfl
    have h3 := plc_le (ltB x) L
    rw [jnZ, List.length_append, List.length_cons, List.length_cons]
    rw [List.length_drop] at h1
    omega

/-- What Of tells. -/
def ofZ (L : List Int) : List Int := Lib.compact (L.mergeSort fun x y => decide (x ≤ y))
theorem compactUpTo_facts (d : Array Int) (hs : ∀ i j, i ≤ j → j < d.size → d[i]! ≤ d[j]!) : ∀ m, m ≤ d.size →
    Up (Lib.compactUpTo d m) ∧ (∀ z, z ∈ Lib.compactUpTo d m ↔ ∃ j, j < m ∧ d[j]! = z)
  | 0, _ => by simp [Lib.compactUpTo]
  | m + 1, hm => by
    obtain ⟨h1, h2⟩ := compactUpTo_facts d hs m (by omega)
    rw [Lib.compactUpTo_succ]
    cases hk : Lib.keeps d m
    · simp only [Bool.false_eq_true, if_false, List.append_nil]
      refine ⟨h1, fun z => ?_⟩
      rw [h2]
      constructor
      · rintro ⟨j, hj, e⟩; exact ⟨j, by omega, e⟩
      · rintro ⟨j, hj, e⟩
        by_cases hjm : j = m
        · subst hjm
          simp [Lib.keeps] at hk
          exact ⟨j - 1, by omega, by rw [← hk.2]; exact e⟩
        · exact ⟨j, by omega, e⟩
    · simp only [if_true]
      constructor
      · refine List.pairwise_append.2 ⟨h1, by simp, fun a ha b hb => ?_⟩
        obtain ⟨j, hj, rfl⟩ := (h2 a).1 ha
        obtain rfl : b = d[m]! := by simpa using hb
        simp [Lib.keeps] at hk
        have a1 := hs j (m - 1) (by omega) (by omega)
        have a2 := hs (m - 1) m (by omega) (by omega)
        rcases hk with e | e
        · omega
        · omega
      · intro z
        rw [List.mem_append, h2]
        constructor
        · rintro (⟨j, hj, e⟩ | e)
          · exact ⟨j, by omega, e⟩
          · exact ⟨m, by omega, (List.mem_singleton.1 e).symm⟩
        · rintro ⟨j, hj, e⟩
          by_cases hjm : j = m
          · subst hjm; exact .inr (by simp [e])
          · exact .inl ⟨j, by omega, e⟩
theorem ofZ_facts (L : List Int) : Up (ofZ L) ∧ (∀ z, z ∈ ofZ L ↔ z ∈ L) := by
  have hs : (L.mergeSort fun x y => decide (x ≤ y)).Pairwise (fun a b => decide (a ≤ b) = true) := List.pairwise_mergeSort (by simp; omega) (by simp; omega) L
  have hm : ∀ z, z ∈ (L.mergeSort fun x y => decide (x ≤ y)) ↔ z ∈ L := fun z => (List.mergeSort_perm L _).mem_iff
  revert hs hm
  unfold ofZ Lib.compact
  generalize (L.mergeSort fun x y => decide (x ≤ y)) = M
  intro hs hm
  have h := compactUpTo_facts M.toArray (fun i j hij hj => by
    have hj' : j < M.length := by simpa using hj
    by_cases e : i = j
    · subst e; omega
    · have := List.pairwise_iff_getElem.1 hs i j (by omega) hj' (by omega)
      have h1 : M.toArray[i]! = M[i] := by simp [show i < M.length by omega]
      have h2 : M.toArray[j]! = M[j] := by simp [hj']
      rw [h1, h2]; simpa using this) M.length (by simp)
  refine ⟨h.1, fun z => ?_⟩
  rw [h.2, ← hm]
  constructor
  · rintro ⟨j, hj, rfl⟩; simp [hj]
  · intro hz
    obtain ⟨j, hj, e⟩ := List.mem_iff_getElem.1 hz
    exact ⟨j, hj, by simp [hj, e]⟩
theorem ofZ_length (L : List Int) : (ofZ L).length ≤ L.length := by
  have h : ∀ (d : Array Int) m, (Lib.compactUpTo d m).length ≤ m := fun d m => by
    unfold Lib.compactUpTo
    rw [List.length_map]
    exact Nat.le_trans (List.length_filter_le _ _) (by simp)
  unfold ofZ Lib.compact
  exact Nat.le_trans (h _ _) (by rw [List.length_mergeSort]; exact Nat.le_refl _)

/-- A rising list within another's members is no longer. -/
theorem up_sub_length : ∀ {A B : List Int}, Up A → Up B → (∀ z, z ∈ A → z ∈ B) → A.length ≤ B.length
  | [], B, _, _, _ => by simp
  | a :: A, [], _, _, h => by have := h a (by simp); simp at this
  | a :: A, b :: B, hA, hB, h => by
    obtain ⟨a1, a2⟩ := List.pairwise_cons.1 hA
    obtain ⟨b1, b2⟩ := List.pairwise_cons.1 hB
    have : ∀ z, z ∈ A → z ∈ B := fun z hz => by
      rcases List.mem_cons.1 (h z (by simp [hz])) with e | e
      · have h1 := a1 _ hz
        rcases List.mem_cons.1 (h a (by simp)) with f | f
        · omega
        · have := b1 _ f; omega
      · exact e
    have := up_sub_length a2 b2 this
    simp; omega

end Go.Proofs.Ytabgedmocdjkcaa
