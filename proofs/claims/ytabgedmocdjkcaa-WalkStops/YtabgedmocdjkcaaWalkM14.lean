/- Layer 14, plain: the pairs of a forest, in order; the document's way to put a pair in; what a tree made of pairs is; the stack by which a tree is gone through. -/
import Derived.Test.YtabgedmocdjkcaaTrieM13
namespace Go.Proofs.Ytabgedmocdjkcaa

/-- Paths, level by level, a shorter one ahead of one that it begins. -/
def llt : List Key → List Key → Bool
  | [], [] => false
  | [], _ :: _ => true
  | _ :: _, [] => false
  | x :: a, y :: b => if x = y then llt a b else bl x y
theorem llt_irrefl : ∀ a, llt a a = false
  | [] => rfl
  | x :: a => by simp only [llt, if_pos]; exact llt_irrefl a
theorem llt_trans : ∀ {a b c : List Key}, llt a b = true → llt b c = true → llt a c = true
  | [], [], _, h, _ => by simp [llt] at h
  | _ :: _, [], _, h, _ => by simp [llt] at h
  | _, _ :: _, [], _, h => by simp [llt] at h
  | [], _ :: _, _ :: _, _, _ => rfl
  | x :: a, y :: b, z :: c, h, k => by
    simp only [llt] at h k ⊢
    by_cases e1 : x = y
    · subst e1
      rw [if_pos rfl] at h
      by_cases e2 : x = z
      · subst e2
        rw [if_pos rfl] at k ⊢
        exact llt_trans h k
      · rw [if_neg e2] at k ⊢
        exact k
    · rw [if_neg e1] at h
      by_cases e2 : y = z
      · subst e2
        rw [if_neg e1]; exact h
      · rw [if_neg e2] at k
        have := bl_trans h k
        rw [if_neg (bl_ne this)]; exact this
theorem llt_pre : ∀ (q : List Key) (z : Key) (r : List Key), llt q (q ++ z :: r) = true
  | [], _, _ => rfl
  | x :: q, z, r => by simp only [List.cons_append, llt, if_pos]; exact llt_pre q z r
theorem llt_at : ∀ (q : List Key) {x y : Key} (a b : List Key), bl x y = true → llt (q ++ x :: a) (q ++ y :: b) = true
  | [], x, y, a, b, h => by simp only [List.nil_append, llt, if_neg (bl_ne h)]; exact h
  | z :: q, x, y, a, b, h => by simp only [List.cons_append, llt, if_pos]; exact llt_at q a b h

/-- Is a pair ahead of another one? -/
def ahZ (x y : Pr) : Bool := if x.1 = y.1 then decide (x.2 < y.2) else llt (lv x.1) (lv y.1)
theorem ah_of {x y : Pr} (h : llt (lv x.1) (lv y.1) = true) : ahZ x y = true := by
  unfold ahZ
  rw [if_neg]
  · exact h
  · intro e
    rw [e, llt_irrefl] at h; cases h
theorem ah_irrefl (x : Pr) : ahZ x x = false := by simp [ahZ]
theorem ah_trans {x y z : Pr} (h : ahZ x y = true) (k : ahZ y z = true) : ahZ x z = true := by
  unfold ahZ at h k
  by_cases e1 : x.1 = y.1
  · rw [if_pos e1] at h
    by_cases e2 : y.1 = z.1
    · rw [if_pos e2] at k
      unfold ahZ
      rw [if_pos (e1.trans e2)]
      simp at h k ⊢; omega
    · rw [if_neg e2] at k
      rw [← e1] at k
      exact ah_of k
  · rw [if_neg e1] at h
    by_cases e2 : y.1 = z.1
    · rw [e2] at h; exact ah_of h
    · rw [if_neg e2] at k
      exact ah_of (llt_trans h k)
theorem llt_total : ∀ {a b : List Key}, llt a b = false → llt b a = false → a = b
  | [], [], _, _ => rfl
  | [], _ :: _, h, _ => by simp [llt] at h
  | _ :: _, [], _, h => by simp [llt] at h
  | x :: a, y :: b, h, k => by
    simp only [llt] at h k
    by_cases e : x = y
    · subst e
      rw [if_pos rfl] at h k
      rw [llt_total h k]
    · rw [if_neg e] at h
      rw [if_neg (Ne.symm e)] at k
      exact absurd (bl_total h k) e
theorem ah_total {x y : Pr} (h : ahZ x y = false) (k : ahZ y x = false) : x = y := by
  unfold ahZ at h k
  by_cases e : x.1 = y.1
  · rw [if_pos e] at h
    rw [if_pos e.symm] at k
    simp at h k
    exact Prod.ext e (by omega)
  · rw [if_neg e] at h
    rw [if_neg (Ne.symm e)] at k
    exact absurd (lv_inj (llt_total h k)) e
abbrev Asc (l : List Pr) : Prop := l.Pairwise (fun x y => ahZ x y = true)
theorem asc_uniq : ∀ {a b : List Pr}, Asc a → Asc b → (∀ x, x ∈ a ↔ x ∈ b) → a = b
  | [], [], _, _, _ => rfl
  | [], y :: b, _, _, h => by have := (h y).2 (by simp); simp at this
  | x :: a, [], _, _, h => by have := (h x).1 (by simp); simp at this
  | x :: a, y :: b, ha, hb, h => by
    obtain ⟨a1, a2⟩ := List.pairwise_cons.1 ha
    obtain ⟨b1, b2⟩ := List.pairwise_cons.1 hb
    have e : x = y := by
      rcases List.mem_cons.1 ((h x).1 (by simp)) with e | h1
      · exact e
      · rcases List.mem_cons.1 ((h y).2 (by simp)) with e | h2
        · exact e.symm
        · have := ah_trans (a1 _ h2) (b1 _ h1)
          rw [ah_irrefl] at this; cases this
    subst e
    congr 1
    refine asc_uniq a2 b2 fun z => ⟨fun hz => ?_, fun hz => ?_⟩
    · rcases List.mem_cons.1 ((h z).1 (by simp [hz])) with e | h1
      · subst e
        have := a1 _ hz
        rw [ah_irrefl] at this; cases this
      · exact h1
    · rcases List.mem_cons.1 ((h z).2 (by simp [hz])) with e | h1
      · subst e
        have := b1 _ hz
        rw [ah_irrefl] at this; cases this
      · exact h1

/-- The document's answer: a pair is put in at its place. -/
def insZ (x : Pr) : List Pr → List Pr
  | [] => [x]
  | y :: r => if ahZ y x then y :: insZ x r else if y = x then y :: r else x :: y :: r
theorem mem_insZ {x z : Pr} : ∀ {l : List Pr}, z ∈ insZ x l ↔ z = x ∨ z ∈ l
  | [] => by simp [insZ]
  | y :: r => by
    unfold insZ
    split
    · rw [List.mem_cons, mem_insZ (l := r), List.mem_cons]
      constructor
      · rintro (h | h | h)
        · exact .inr (.inl h)
        · exact .inl h
        · exact .inr (.inr h)
      · rintro (h | h | h)
        · exact .inr (.inl h)
        · exact .inl h
        · exact .inr (.inr h)
    · split
      · rename_i e
        subst e
        simp
      · simp
theorem asc_insZ {x : Pr} : ∀ {l : List Pr}, Asc l → Asc (insZ x l)
  | [], _ => by simp [insZ]
  | y :: r, h => by
    obtain ⟨h1, h2⟩ := List.pairwise_cons.1 h
    unfold insZ
    split
    · rename_i e
      refine List.pairwise_cons.2 ⟨fun z hz => ?_, asc_insZ h2⟩
      rcases mem_insZ.1 hz with rfl | hz
      · exact e
      · exact h1 z hz
    · rename_i e
      split
      · exact h
      · rename_i e2
        have e3 : ahZ x y = true := by
          cases e4 : ahZ x y
          · exact absurd (ah_total (by simpa using e) e4) e2
          · rfl
        refine List.pairwise_cons.2 ⟨fun z hz => ?_, h⟩
        rcases List.mem_cons.1 hz with rfl | hz
        · exact e3
        · exact ah_trans e3 (h1 z hz)
def putZ (l : List Pr) (x : Pr) : List Pr := if x.1 = [] then l else insZ x l
def refZ (P : List Pr) : List Pr := P.foldl putZ []
theorem refZ_snoc (P : List Pr) (x : Pr) : refZ (P ++ [x]) = putZ (refZ P) x := by simp [refZ]
theorem refZ_ok (P : List Pr) : Asc (refZ P) ∧ ∀ z, z ∈ refZ P ↔ z ∈ P ∧ z.1 ≠ [] := by
  have H : ∀ (P l : List Pr), Asc l → Asc (P.foldl putZ l) ∧ ∀ z, z ∈ P.foldl putZ l ↔ z ∈ l ∨ (z ∈ P ∧ z.1 ≠ []) := by
    intro P
    induction P with
    | nil => exact fun l h => ⟨h, fun z => by simp⟩
    | cons x P ih =>
      intro l h
      rw [List.foldl_cons]
      by_cases e : x.1 = []
      · have e1 : putZ l x = l := by simp [putZ, e]
        rw [e1]
        obtain ⟨i1, i2⟩ := ih l h
        refine ⟨i1, fun z => ?_⟩
        rw [i2, List.mem_cons]
        constructor
        · rintro (h | ⟨h, h2⟩)
          · exact .inl h
          · exact .inr ⟨.inr h, h2⟩
        · rintro (h | ⟨rfl | h, h2⟩)
          · exact .inl h
          · exact absurd e h2
          · exact .inr ⟨h, h2⟩
      · have e1 : putZ l x = insZ x l := by simp [putZ, e]
        rw [e1]
        obtain ⟨i1, i2⟩ := ih _ (asc_insZ (x := x) h)
        refine ⟨i1, fun z => ?_⟩
        rw [i2, List.mem_cons, mem_insZ]
        constructor
        · rintro ((rfl | h) | ⟨h, h2⟩)
          · exact .inr ⟨.inl rfl, e⟩
          · exact .inl h
          · exact .inr ⟨.inr h, h2⟩
        · rintro (h | ⟨rfl | h, h2⟩)
          · exact .inl (.inr h)
          · exact .inl (.inl rfl)
          · exact .inr ⟨h, h2⟩
  obtain ⟨h1, h2⟩ := H P [] List.Pairwise.nil
  exact ⟨h1, fun z => by rw [refZ, h2]; simp⟩
/-- As the document's answer does it: by a place. -/
theorem insZ_plc (x : Pr) : ∀ l : List Pr, insZ x l = if l[plc (fun y => ahZ y x) l]? = some x then l else l.take (plc (fun y => ahZ y x) l) ++ x :: l.drop (plc (fun y => ahZ y x) l)
  | [] => by simp [insZ, plc]
  | y :: r => by
    unfold insZ
    by_cases e : ahZ y x = true
    · have h := insZ_plc x r
      have ep : plc (fun y => ahZ y x) (y :: r) = plc (fun y => ahZ y x) r + 1 := by simp [plc, e]
      rw [if_pos e, ep, h]
      simp only [List.getElem?_cons_succ, List.take_succ_cons, List.drop_succ_cons]
      split <;> rfl
    · have ep : plc (fun y => ahZ y x) (y :: r) = 0 := by simp [plc, e]
      rw [if_neg e, ep]
      simp only [List.getElem?_cons_zero, Option.some.injEq, List.take_zero, List.drop_zero, List.nil_append]

/-- The pairs of a node that a path leads to; of all the kids below a path. -/
def ndPr (q : List Key) (L : List Int) : List Pr := L.map fun s => (joinZ q, s)
def foPr : List Key → Fo → List Pr
  | _, .nil => []
  | q, .cons k _ L F R => ndPr (q ++ [k]) L ++ (foPr (q ++ [k]) F ++ foPr q R)
def prs (o : Nd) : List Pr := foPr [] (ndF o)
/-- No level has a separator. -/
def Fo.cln : Fo → Prop
  | .nil => True
  | .cons k _ _ F R => 47 ∉ k ∧ F.cln ∧ R.cln
theorem mem_ndPr {q : List Key} {L : List Int} {x : Pr} (hq : q ≠ []) (hc : ∀ k ∈ q, 47 ∉ k) : x ∈ ndPr q L ↔ lv x.1 = q ∧ x.2 ∈ L := by
  simp only [ndPr, List.mem_map]
  constructor
  · rintro ⟨s, hs, rfl⟩
    exact ⟨lv_joinZ q hq hc, hs⟩
  · rintro ⟨h1, h2⟩
    refine ⟨x.2, h2, ?_⟩
    rw [← h1, joinZ_lv]
theorem snoc_cln {q : List Key} {k : Key} (hc : ∀ k ∈ q, 47 ∉ k) (hk : 47 ∉ k) : ∀ y ∈ q ++ [k], 47 ∉ y := fun y hy => by
  rcases List.mem_append.1 hy with h | h
  · exact hc y h
  · rw [List.mem_singleton] at h; rw [h]; exact hk
theorem mem_foPr {x : Pr} : ∀ {F : Fo} {q : List Key}, F.ok → F.cln → (∀ k ∈ q, 47 ∉ k) → (x ∈ foPr q F ↔ ∃ k p, lv x.1 = q ++ k :: p ∧ x.2 ∈ subZ (F.get k) p)
  | .nil, q, _, _, _ => by simp [foPr, Fo.get, sub_none]
  | .cons k1 b L F R, q, ho, hcl, hc => by
    have hs := snoc_cln hc hcl.1
    have i1 := mem_foPr (x := x) (F := F) (q := q ++ [k1]) ho.2.2.1 hcl.2.1 hs
    have i2 := mem_foPr (x := x) (F := R) (q := q) ho.2.2.2.1 hcl.2.2 hc
    have hsub : subZ (some (b, L, F)) [] = L := rfl
    simp only [foPr, List.mem_append, mem_ndPr (x := x) (L := L) (by simp : q ++ [k1] ≠ []) hs, i1, i2]
    constructor
    · rintro (⟨h1, h2⟩ | ⟨k, p, h1, h2⟩ | ⟨k, p, h1, h2⟩)
      · exact ⟨k1, [], h1, by rw [Fo.get, if_pos rfl]; exact h2⟩
      · refine ⟨k1, k :: p, by rw [h1]; simp, ?_⟩
        rw [Fo.get, if_pos rfl, sub_cons]; exact h2
      · refine ⟨k, p, h1, ?_⟩
        have hne : k1 ≠ k := by
          rintro rfl
          rw [get_out (out_of ho.2.2.2.2), sub_none] at h2
          simp at h2
        rw [Fo.get, if_neg hne]; exact h2
    · rintro ⟨k, p, h1, h2⟩
      by_cases e : k1 = k
      · subst e
        rw [Fo.get, if_pos rfl] at h2
        cases p with
        | nil => exact .inl ⟨h1, h2⟩
        | cons k2 p => exact .inr (.inl ⟨k2, p, by rw [h1]; simp, by rw [sub_cons] at h2; exact h2⟩)
      · rw [Fo.get, if_neg e] at h2
        exact .inr (.inr ⟨k, p, h1, h2⟩)
theorem asc_foPr : ∀ {F : Fo} {q : List Key}, F.ok → F.cln → (∀ k ∈ q, 47 ∉ k) → Asc (foPr q F)
  | .nil, _, _, _, _ => List.Pairwise.nil
  | .cons k1 b L F R, q, ho, hcl, hc => by
    have hs := snoc_cln hc hcl.1
    have i1 := asc_foPr (F := F) (q := q ++ [k1]) ho.2.2.1 hcl.2.1 hs
    have i2 := asc_foPr (F := R) (q := q) ho.2.2.2.1 hcl.2.2 hc
    have m1 := fun x => mem_ndPr (x := x) (L := L) (by simp : q ++ [k1] ≠ []) hs
    have m2 := fun x => mem_foPr (x := x) (F := F) (q := q ++ [k1]) ho.2.2.1 hcl.2.1 hs
    have m3 := fun x => mem_foPr (x := x) (F := R) (q := q) ho.2.2.2.1 hcl.2.2 hc
    have hR : ∀ y ∈ foPr q R, ∃ k p, lv y.1 = q ++ k :: p ∧ bl k1 k = true := fun y hy => by
      obtain ⟨k, p, h1, h2⟩ := (m3 y).1 hy
      refine ⟨k, p, h1, ?_⟩
      cases e : R.get k with
      | none => rw [e, sub_none] at h2; simp at h2
      | some z => exact ho.2.2.2.2 _ (get_mem e)
    refine List.pairwise_append.2 ⟨?_, List.pairwise_append.2 ⟨i1, i2, ?_⟩, ?_⟩
    · exact List.pairwise_map.2 (ho.2.1.imp fun {x y} h => by simp [ahZ]; exact h)
    · intro x hx y hy
      obtain ⟨k, p, h1, _⟩ := (m2 x).1 hx
      obtain ⟨k', p', h1', h2'⟩ := hR y hy
      refine ah_of ?_
      rw [h1, h1', List.append_assoc]
      exact llt_at q _ _ h2'
    · intro x hx y hy
      obtain ⟨h1, _⟩ := (m1 x).1 hx
      refine ah_of ?_
      rcases List.mem_append.1 hy with hy | hy
      · obtain ⟨k, p, h1', _⟩ := (m2 y).1 hy
        rw [h1, h1']
        exact llt_pre _ _ _
      · obtain ⟨k', p', h1', h2'⟩ := hR y hy
        rw [h1, h1']
        exact llt_at q _ _ h2'

theorem withZ_len (x : Int) : ∀ L : List Int, (withZ x L).length ≤ L.length + 1
  | [] => Nat.le_refl _
  | y :: r => by
    have := withZ_len x r
    unfold withZ
    split
    · have := List.length_filter_le (fun z => z != x) (y :: r)
      simp only [List.length_cons] at this ⊢; omega
    · simp only [List.length_cons]; omega
theorem cln_drop (k : Key) : ∀ {F : Fo}, F.cln → (F.drop k).cln
  | .nil, _ => trivial
  | .cons k1 b L F R, h => by
    simp only [Fo.drop]
    split
    · exact cln_drop k h.2.2
    · exact ⟨h.1, h.2.1, cln_drop k h.2.2⟩
theorem cln_put {k : Key} {b : Nat} {L : List Int} {G : Fo} (hk : 47 ∉ k) (hG : G.cln) : ∀ {F : Fo}, F.cln → (F.put k b L G).cln
  | .nil, _ => ⟨hk, hG, trivial⟩
  | .cons k1 b1 L1 F R, h => by
    simp only [Fo.put]
    split
    · exact ⟨h.1, h.2.1, cln_put hk hG h.2.2⟩
    · exact ⟨hk, hG, cln_drop k (F := .cons k1 b1 L1 F R) h⟩
theorem cln_get {k : Key} : ∀ {F : Fo}, F.cln → (ndF (F.get k)).cln
  | .nil, _ => trivial
  | .cons k1 b1 L1 F R, h => by
    simp only [Fo.get]
    split
    · exact h.2.1
    · exact cln_get h.2.2
theorem chg_cln {h : List Int → List Int} : ∀ {p : List Key} {o o' : Nd}, (∀ k ∈ p, 47 ∉ k) → (ndF o).cln → Chg h p o o' → (ndF o').cln
  | [], o, o', _, ho, ⟨b, e⟩ => by subst e; exact ho
  | k :: p, o, o', hp, ho, ⟨b, bq, Lq, Fq, hq, e⟩ => by
    subst e
    have ih : Fq.cln := chg_cln (o' := some (bq, Lq, Fq)) (fun y hy => hp y (by simp [hy])) (cln_get ho) hq
    show Fo.cln (if bareB Lq Fq = true then (ndF o).drop k else (ndF o).put k bq Lq Fq)
    split
    · exact cln_drop k ho
    · exact cln_put (hp k (by simp)) ih ho
theorem lv_cln : ∀ (f : Key), ∀ k ∈ lv f, 47 ∉ k
  | [], k, h => by
    have : lv ([] : Key) = [[]] := rfl
    rw [this, List.mem_singleton] at h
    rw [h]; simp
  | b :: f, k, h => by
    by_cases e : b = 47
    · subst e
      rw [lv_sep, List.mem_cons] at h
      rcases h with rfl | h
      · simp
      · exact lv_cln f k h
    · cases e2 : lv f with
      | nil => exact absurd e2 (lv_ne f)
      | cons x r =>
        have ih := lv_cln f
        rw [e2] at ih
        rw [lv_cons e e2, List.mem_cons] at h
        rcases h with rfl | h
        · have := ih x (by simp)
          simp only [List.mem_cons, not_or]
          exact ⟨fun e' => e e'.symm, this⟩
        · exact ih k (by simp [h])

/-- A tree made of these pairs, one by one. -/
structure WTr (o : Nd) (P : List Pr) : Prop where
  has : ∀ p s, s ∈ subZ o p ↔ ∃ f, (f, s) ∈ P ∧ f ≠ [] ∧ lv f = p
  ok : okN o
  cln : (ndF o).cln
  size : ndN o ≤ 102 * P.length
  len : ∀ p, (subZ o p).length ≤ P.length
theorem wtr_nil : WTr none [] := ⟨fun p s => by simp [sub_none], okN_none, trivial, Nat.zero_le _, fun p => by simp [sub_none]⟩
theorem wtr_skip {o : Nd} {P : List Pr} (h : WTr o P) (s : Int) : WTr o (P ++ [([], s)]) where
  has p t := by
    rw [h.has]
    constructor
    · rintro ⟨f, h1, h2, h3⟩; exact ⟨f, by simp [h1], h2, h3⟩
    · rintro ⟨f, h1, h2, h3⟩
      rcases List.mem_append.1 h1 with h1 | h1
      · exact ⟨f, h1, h2, h3⟩
      · rw [List.mem_singleton] at h1
        injection h1 with h1 _
        exact absurd h1 h2
  ok := h.ok
  cln := h.cln
  size := by have := h.size; rw [List.length_append]; simp; omega
  len p := by have := h.len p; rw [List.length_append]; omega
theorem wtr_put {o o' : Nd} {P : List Pr} {f : Key} {s : Int} (h : WTr o P) (hf : f ≠ []) (hl : f.length ≤ 100) (hc : Chg (withZ s) (lv f) o o') : WTr o' (P ++ [(f, s)]) where
  has p t := by
    rw [chg_sub hc]
    by_cases e : p = lv f
    · subst e
      rw [if_pos rfl, mem_withZ, h.has]
      constructor
      · rintro (rfl | ⟨g, h1, h2, h3⟩)
        · exact ⟨f, by simp, hf, rfl⟩
        · exact ⟨g, by simp [h1], h2, h3⟩
      · rintro ⟨g, h1, h2, h3⟩
        rcases List.mem_append.1 h1 with h1 | h1
        · exact .inr ⟨g, h1, h2, h3⟩
        · rw [List.mem_singleton] at h1
          injection h1 with _ h1
          exact .inl h1
    · rw [if_neg e, h.has]
      constructor
      · rintro ⟨g, h1, h2, h3⟩; exact ⟨g, by simp [h1], h2, h3⟩
      · rintro ⟨g, h1, h2, h3⟩
        rcases List.mem_append.1 h1 with h1 | h1
        · exact ⟨g, h1, h2, h3⟩
        · rw [List.mem_singleton] at h1
          injection h1 with h1 _
          exact absurd (by rw [← h3, h1]) e
  ok := chg_ok (fun L hL => up_withZ hL) h.ok hc
  cln := chg_cln (lv_cln f) h.cln hc
  size := by
    have h1 := chg_size (fun L hL => up_withZ hL) h.ok hc
    have h2 := h.size
    have h3 := lv_length f
    have h4 : f.count 47 ≤ f.length := List.count_le_length
    rw [List.length_append]; simp only [List.length_singleton]; omega
  len p := by
    rw [chg_sub hc, List.length_append]
    split
    · have := withZ_len s (subZ o (lv f))
      have := h.len (lv f)
      simp only [List.length_singleton]; omega
    · have := h.len p; omega
theorem prs_mem {o : Nd} {P : List Pr} (h : WTr o P) (x : Pr) : x ∈ prs o ↔ x ∈ P ∧ x.1 ≠ [] := by
  unfold prs
  rw [mem_foPr h.ok.2 h.cln (by simp)]
  constructor
  · rintro ⟨k, p, h1, h2⟩
    rw [← sub_cons, h.has] at h2
    obtain ⟨f, h2, h3, h4⟩ := h2
    rw [List.nil_append] at h1
    have : f = x.1 := lv_inj (h4.trans h1.symm)
    subst this
    exact ⟨h2, h3⟩
  · rintro ⟨h1, h2⟩
    cases e : lv x.1 with
    | nil => exact absurd e (lv_ne _)
    | cons k p =>
      refine ⟨k, p, rfl, ?_⟩
      rw [← sub_cons, h.has]
      exact ⟨x.1, h1, h2, e⟩
theorem prs_ref {o : Nd} {P : List Pr} (h : WTr o P) : prs o = refZ P := by
  obtain ⟨h1, h2⟩ := refZ_ok P
  refine asc_uniq (asc_foPr h.ok.2 h.cln (by simp)) h1 fun x => ?_
  rw [h2]; exact prs_mem h x
theorem refZ_idem (P : List Pr) : refZ (refZ P) = refZ P := by
  obtain ⟨h1, h2⟩ := refZ_ok P
  obtain ⟨h3, h4⟩ := refZ_ok (refZ P)
  refine asc_uniq h3 h1 fun x => ?_
  rw [h4, h2]
  exact ⟨fun h => h.1, fun h => ⟨h, h.2⟩⟩
theorem insZ_len (x : Pr) : ∀ l : List Pr, (insZ x l).length ≤ l.length + 1
  | [] => by simp [insZ]
  | y :: r => by
    have := insZ_len x r
    unfold insZ
    split
    · simp only [List.length_cons]; omega
    · split
      · simp only [List.length_cons]; omega
      · simp only [List.length_cons]; omega
theorem refZ_len (P : List Pr) : (refZ P).length ≤ P.length := by
  have H : ∀ (P l : List Pr), (P.foldl putZ l).length ≤ l.length + P.length := by
    intro P
    induction P with
    | nil => exact fun l => Nat.le_refl _
    | cons x P ih =>
      intro l
      rw [List.foldl_cons]
      have h1 := ih (putZ l x)
      have h2 : (putZ l x).length ≤ l.length + 1 := by
        unfold putZ
        split
        · omega
        · exact insZ_len x l
      simp only [List.length_cons]; omega
  have := H P []
  simpa [refZ] using this

/-- A spot: how many levels are ahead of its own; its level; its node. -/
abbrev Spo := Nat × Key × Nat × List Int × Fo
def Spo.F (x : Spo) : Fo := x.2.2.2.2
def Spo.L (x : Spo) : List Int := x.2.2.2.1
def kidsOf (a : Nat) : Fo → List Spo
  | .nil => []
  | .cons k b L F R => (a, k, b, L, F) :: kidsOf a R
/-- What is told of a stack yet, its top first. -/
def spPr (l : List Key) : List Spo → List Pr
  | [] => []
  | x :: r => ndPr (l.take x.1 ++ [x.2.1]) x.L ++ (foPr (l.take x.1 ++ [x.2.1]) x.F ++ spPr l r)
theorem spPr_kids (l : List Key) (a : Nat) : ∀ F : Fo, spPr l (kidsOf a F) = foPr (l.take a) F
  | .nil => rfl
  | .cons k b L F R => by simp only [kidsOf, spPr, foPr, Spo.F, Spo.L, spPr_kids l a R]
theorem spPr_app (l : List Key) : ∀ s t : List Spo, spPr l (s ++ t) = spPr l s ++ spPr l t
  | [], _ => rfl
  | x :: s, t => by simp only [List.cons_append, spPr, spPr_app l s t, List.append_assoc]
theorem spPr_take {l : List Key} {a : Nat} {k : Key} (ha : a ≤ l.length) : ∀ {t : List Spo}, (∀ x ∈ t, x.1 ≤ a) → spPr (l.take a ++ [k]) t = spPr l t
  | [], _ => rfl
  | x :: t, h => by
    have h1 := h x (by simp)
    have e : (l.take a ++ [k]).take x.1 = l.take x.1 := by
      rw [List.take_append_of_le_length (by rw [List.length_take]; omega), List.take_take, Nat.min_eq_left h1]
    have ih := spPr_take (k := k) ha (t := t) fun y hy => h y (List.mem_cons_of_mem _ hy)
    simp only [spPr, e, ih]
def stN (s : List Spo) : Nat := (s.map fun x => 1 + x.F.sz).sum
theorem stN_kids (a : Nat) : ∀ F : Fo, stN (kidsOf a F) = F.sz
  | .nil => rfl
  | .cons k b L F R => by
    have := stN_kids a R
    simp only [stN, kidsOf, List.map_cons, List.sum_cons, Spo.F, Fo.sz] at this ⊢
    omega
theorem stN_app (s t : List Spo) : stN (s ++ t) = stN s + stN t := by simp [stN]
theorem stN_cons (x : Spo) (t : List Spo) : stN (x :: t) = 1 + x.F.sz + stN t := by simp [stN]
theorem stN_len : ∀ s : List Spo, s.length ≤ stN s
  | [] => Nat.zero_le _
  | x :: s => by have := stN_len s; rw [stN_cons, List.length_cons]; omega
theorem kids_sz (a : Nat) : ∀ (F : Fo), ∀ x ∈ kidsOf a F, x.1 = a ∧ x.F.sz + 1 ≤ F.sz
  | .nil, x, h => by simp [kidsOf] at h
  | .cons k b L F R, x, h => by
    rw [kidsOf, List.mem_cons] at h
    rcases h with rfl | h
    · exact ⟨rfl, by simp only [Spo.F, Fo.sz]; omega⟩
    · have := kids_sz a R x h
      exact ⟨this.1, by simp only [Fo.sz]; omega⟩
theorem kids_cln (a : Nat) : ∀ {F : Fo}, F.cln → ∀ x ∈ kidsOf a F, x.F.cln
  | .nil, _, x, h => by simp [kidsOf] at h
  | .cons k b L F R, hc, x, h => by
    rw [kidsOf, List.mem_cons] at h
    rcases h with rfl | h
    · exact hc.2.1
    · exact kids_cln a hc.2.2 x h
/-- A stack is in order: the deeper ones on top. -/
structure StOk (M : Nat) (l : List Key) (s : List Spo) : Prop where
  le : ∀ x ∈ s, x.1 ≤ l.length
  down : s.Pairwise (fun x y => y.1 ≤ x.1)
  deep : ∀ x ∈ s, x.1 + 1 + x.F.sz ≤ M
  cln : ∀ x ∈ s, x.F.cln
theorem stOk_first {M : Nat} {F : Fo} (h : F.sz ≤ M) (hc : F.cln) : StOk M [] (kidsOf 0 F) where
  le x hx := by rw [(kids_sz 0 F x hx).1]; exact Nat.zero_le _
  down := by
    refine List.pairwise_iff_getElem.2 fun i j hi hj _ => ?_
    rw [(kids_sz 0 F _ (List.getElem_mem hi)).1, (kids_sz 0 F _ (List.getElem_mem hj)).1]
    exact Nat.le_refl _
  deep x hx := by have := kids_sz 0 F x hx; omega
  cln := kids_cln 0 hc
theorem StOk.step {M : Nat} {l : List Key} {x : Spo} {s : List Spo} (h : StOk M l (x :: s)) : StOk M (l.take x.1 ++ [x.2.1]) (kidsOf (x.1 + 1) x.F ++ s) := by
  have hx := h.le x (by simp)
  have hlen : (l.take x.1 ++ [x.2.1]).length = x.1 + 1 := by rw [List.length_append, List.length_take]; simp; omega
  have hs := (List.pairwise_cons.1 h.down).1
  have hk := kids_sz (x.1 + 1) x.F
  have hd := h.deep x (by simp)
  refine ⟨fun y hy => ?_, ?_, fun y hy => ?_, fun y hy => ?_⟩
  · rw [hlen]
    rcases List.mem_append.1 hy with hy | hy
    · rw [(hk y hy).1]; exact Nat.le_refl _
    · have := hs y hy; omega
  · refine List.pairwise_append.2 ⟨?_, (List.pairwise_cons.1 h.down).2, fun y hy z hz => ?_⟩
    · refine List.pairwise_iff_getElem.2 fun i j hi hj _ => ?_
      rw [(hk _ (List.getElem_mem hi)).1, (hk _ (List.getElem_mem hj)).1]
      exact Nat.le_refl _
    · have := (hk y hy).1
      have := hs z hz
      omega
  · rcases List.mem_append.1 hy with hy | hy
    · have := hk y hy; omega
    · exact h.deep y (by simp [hy])
  · rcases List.mem_append.1 hy with hy | hy
    · exact kids_cln _ (h.cln x (by simp)) y hy
    · exact h.cln y (by simp [hy])
theorem spPr_step {l : List Key} {x : Spo} {s : List Spo} {M : Nat} (h : StOk M l (x :: s)) : spPr l (x :: s) = ndPr (l.take x.1 ++ [x.2.1]) x.L ++ spPr (l.take x.1 ++ [x.2.1]) (kidsOf (x.1 + 1) x.F ++ s) := by
  have hx := h.le x (by simp)
  have hs := (List.pairwise_cons.1 h.down).1
  have hlen : (l.take x.1 ++ [x.2.1]).length = x.1 + 1 := by rw [List.length_append, List.length_take]; simp; omega
  rw [spPr_app, spPr_kids, spPr_take hx hs, List.take_of_length_le (Nat.le_of_eq hlen)]
  rfl
theorem least_ex (p : Nat → Prop) (h : ∃ n, p n) : ∃ m, p m ∧ ∀ k, p k → m ≤ k := by
  obtain ⟨n, hn⟩ := h
  induction n using Nat.strongRecOn with
  | _ n ih =>
    by_cases e : ∃ k, k < n ∧ p k
    · obtain ⟨k, hk, hp⟩ := e
      exact ih k hk hp
    · exact ⟨n, hn, fun k hk => Nat.le_of_not_lt fun hl => e ⟨k, hl, hk⟩⟩
open Classical in
/-- The least number of which it holds. -/
noncomputable def leastZ (p : Nat → Prop) : Nat := if h : ∃ n, p n then (least_ex p h).choose else 0
theorem leastZ_has {p : Nat → Prop} (h : ∃ n, p n) : p (leastZ p) := by
  unfold leastZ
  rw [dif_pos h]; exact (least_ex p h).choose_spec.1
theorem leastZ_le {p : Nat → Prop} {k : Nat} (h : p k) : leastZ p ≤ k := by
  unfold leastZ
  rw [dif_pos ⟨k, h⟩]; exact (least_ex p ⟨k, h⟩).choose_spec.2 k h
end Go.Proofs.Ytabgedmocdjkcaa
