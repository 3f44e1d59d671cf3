/- Plain facts on lists of keys with values, the keys rising byte by byte. No program. -/
import Derived.Test.YtabgedmocdjkcaaSets3
import GoSem.Op.String
namespace Go.Proofs.Ytabgedmocdjkcaa

abbrev Key := List UInt8
abbrev bl (a b : Key) : Bool := Op.bytesLess a b
theorem bl_irrefl : ∀ a : Key, bl a a = false
  | [] => by simp [bl, Op.bytesLess]
  | a :: x => by
    have := bl_irrefl x
    simp [bl, Op.bytesLess] at this ⊢
    exact this
theorem bl_trans : ∀ {a b c : Key}, bl a b = true → bl b c = true → bl a c = true
  | _, _, [], _, h => by simp [bl, Op.bytesLess] at h
  | _, [], _ :: _, h, _ => by simp [bl, Op.bytesLess] at h
  | [], _ :: _, _ :: _, _, _ => by simp [bl, Op.bytesLess]
  | a :: x, b :: y, c :: z, h1, h2 => by
    simp only [bl, Op.bytesLess, Bool.or_eq_true, decide_eq_true_eq, Bool.and_eq_true, beq_iff_eq] at h1 h2 ⊢
    rcases h1 with h1 | ⟨rfl, h1⟩
    · rcases h2 with h2 | ⟨rfl, h2⟩
      · exact .inl (UInt8.lt_trans h1 h2)
      · exact .inl h1
    · rcases h2 with h2 | ⟨rfl, h2⟩
      · exact .inl h2
      · exact .inr ⟨rfl, bl_trans h1 h2⟩
theorem bl_total : ∀ {a b : Key}, bl a b = false → bl b a = false → a = b
  | [], [], _, _ => rfl
  | [], _ :: _, h, _ => by simp [bl, Op.bytesLess] at h
  | _ :: _, [], _, h => by simp [bl, Op.bytesLess] at h
  | a :: x, b :: y, h1, h2 => by
    simp only [bl, Op.bytesLess, Bool.or_eq_false_iff, decide_eq_false_iff_not, Bool.and_eq_false_iff, beq_eq_false_iff_ne] at h1 h2
    have hab : a = b := by
      have h3 := UInt8.not_lt.1 h1.1
      have h4 := UInt8.not_lt.1 h2.1
      exact UInt8.le_antisymm h4 h3
    subst hab
    have e1 : bl x y = false := h1.2.resolve_left (by simp)
    have e2 : bl y x = false := h2.2.resolve_left (by simp)
    rw [bl_total e1 e2]
theorem bl_ne {a b : Key} (h : bl a b = true) : a ≠ b := fun e => by rw [e, bl_irrefl] at h; cases h
theorem bl_asymm {a b : Key} (h : bl a b = true) : bl b a = false := by
  cases h2 : bl b a
  · rfl
  · have := bl_trans h h2; rw [bl_irrefl] at this; cases this

abbrev Ent := Key × Int
/-- The keys rise, each once. -/
abbrev KUp (E : List Ent) : Prop := E.Pairwise (fun p q => bl p.1 q.1 = true)
abbrev ltE (k : Key) : Ent → Bool := fun p => bl p.1 k
/-- Without the key. -/
def dropE (k : Key) (E : List Ent) : List Ent := E.filter (fun p => p.1 != k)
/-- With the key's value, as the document's own answer puts it in. -/
def putE (k : Key) (v : Int) : List Ent → List Ent
  | [] => [(k, v)]
  | p :: r => if bl p.1 k then p :: putE k v r else (k, v) :: dropE k (p :: r)
/-- The key's value. -/
def getE (k : Key) : List Ent → Option Int
  | [] => none
  | p :: r => if p.1 = k then some p.2 else getE k r
theorem kup_take {E : List Ent} (h : KUp E) (n : Nat) : KUp (E.take n) := h.sublist (List.take_sublist _ _)
theorem kup_drop {E : List Ent} (h : KUp E) (n : Nat) : KUp (E.drop n) := h.sublist (List.drop_sublist _ _)
theorem kup_dropE {k : Key} {E : List Ent} (h : KUp E) : KUp (dropE k E) := h.filter _
theorem dropE_length (k : Key) (E : List Ent) : (dropE k E).length ≤ E.length := List.length_filter_le _ _
theorem putE_length (k : Key) (v : Int) : ∀ E : List Ent, (putE k v E).length ≤ E.length + 1
  | [] => by simp [putE]
  | p :: r => by
    unfold putE
    split
    · have := putE_length k v r
      simp only [List.length_cons]; omega
    · have := dropE_length k (p :: r)
      simp only [List.length_cons] at this ⊢; omega
theorem dropE_none {k : Key} {E : List Ent} (h : ∀ p ∈ E, p.1 ≠ k) : dropE k E = E := List.filter_eq_self.2 fun p hp => by simpa using h p hp
/-- All of these lie behind k. -/
theorem dropE_above {k : Key} {E : List Ent} (h : ∀ p ∈ E, bl k p.1 = true) : dropE k E = E := dropE_none fun p hp e => by
  have := h p hp
  rw [e, bl_irrefl] at this; cases this

/-- What Put, Drop and Get see of the place: at it the key, or nothing of it anywhere. -/
theorem place_facts (k : Key) : ∀ E : List Ent, KUp E →
    (∃ u r, E.drop (plc (ltE k) E) = (k, u) :: r ∧ (∀ v, putE k v E = E.take (plc (ltE k) E) ++ (k, v) :: r) ∧ dropE k E = E.take (plc (ltE k) E) ++ r ∧ getE k E = some u ∧ r = E.drop (plc (ltE k) E + 1)) ∨
    ((∀ p, E[plc (ltE k) E]? = some p → p.1 ≠ k) ∧ (∀ v, putE k v E = E.take (plc (ltE k) E) ++ (k, v) :: E.drop (plc (ltE k) E)) ∧ dropE k E = E ∧ getE k E = none)
  | [], _ => .inr ⟨fun p h => by simp at h, fun v => by simp [putE], rfl, rfl⟩
  | p :: r, h => by
    obtain ⟨h1, h2⟩ := List.pairwise_cons.1 h
    by_cases hp : bl p.1 k = true
    · have e : plc (ltE k) (p :: r) = plc (ltE k) r + 1 := by simp [plc, hp]
      have hne : p.1 ≠ k := bl_ne hp
      rcases place_facts k r h2 with ⟨u, r', f1, f2, f3, f4, f5⟩ | ⟨f1, f2, f3, f4⟩
      · refine .inl ⟨u, r', ?_, fun v => ?_, ?_, ?_, ?_⟩
        · rw [e, List.drop_succ_cons]; exact f1
        · rw [putE, if_pos hp, f2 v, e]; rfl
        · have : dropE k (p :: r) = p :: dropE k r := by simp [dropE, hne]
          rw [this, f3, e]; rfl
        · rw [getE, if_neg hne]; exact f4
        · rw [e, f5]; rfl
      · refine .inr ⟨fun q hq => ?_, fun v => ?_, ?_, ?_⟩
        · rw [e] at hq; exact f1 q (by simpa using hq)
        · rw [putE, if_pos hp, f2 v, e]; rfl
        · have : dropE k (p :: r) = p :: dropE k r := by simp [dropE, hne]
          rw [this, f3]
        · rw [getE, if_neg hne]; exact f4
    · have hp' : bl p.1 k = false := by simpa using hp
      have e : plc (ltE k) (p :: r) = 0 := by simp [plc, hp']
      by_cases hk : p.1 = k
      · have hr : dropE k r = r := dropE_above fun q hq => by rw [← hk]; exact h1 q hq
        have hd : dropE k (p :: r) = r := by
          have : dropE k (p :: r) = dropE k r := by simp [dropE, hk]
          rw [this, hr]
        refine .inl ⟨p.2, r, ?_, fun v => ?_, ?_, ?_, ?_⟩
        · rw [e, ← hk]; rfl
        · rw [putE, if_neg (by simp [hp']), hd, e]; rfl
        · rw [hd, e]; rfl
        · rw [getE, if_pos hk]
        · rw [e]; rfl
      · have hkp : bl k p.1 = true := by
          cases hb : bl k p.1
          · exact absurd (bl_total hp' hb) hk
          · rfl
        have hab : ∀ q ∈ p :: r, bl k q.1 = true := fun q hq => by
          rcases List.mem_cons.1 hq with rfl | hq
          · exact hkp
          · exact bl_trans hkp (h1 q hq)
        have hd : dropE k (p :: r) = p :: r := dropE_above hab
        have hg : ∀ (M : List Ent), (∀ q ∈ M, bl k q.1 = true) → getE k M = none := fun M => by
          induction M with
          | nil => intro _; rfl
          | cons q M ih =>
            intro hM
            rw [getE, if_neg (fun e => by have := hM q (by simp); rw [e, bl_irrefl] at this; cases this)]
            exact ih fun q' hq' => hM q' (by simp [hq'])
        refine .inr ⟨fun q hq => ?_, fun v => ?_, hd, hg _ hab⟩
        · rw [e] at hq
          obtain rfl : p = q := by simpa using hq
          exact hk
        · rw [putE, if_neg (by simp [hp']), hd, e]; rfl
theorem kup_putE {k : Key} {v : Int} : ∀ {E : List Ent}, KUp E → KUp (putE k v E)
  | [], _ => by simp [putE]
  | p :: r, h => by
    obtain ⟨h1, h2⟩ := List.pairwise_cons.1 h
    unfold putE
    split
    · rename_i hp
      refine List.pairwise_cons.2 ⟨fun q hq => ?_, kup_putE h2⟩
      have hm : ∀ (M : List Ent), q ∈ putE k v M → q = (k, v) ∨ q ∈ M := fun M => by
        induction M with
        | nil => intro h; simpa [putE] using h
        | cons y M ih =>
          unfold putE
          split
          · intro h
            rcases List.mem_cons.1 h with h | h
            · exact .inr (by simp [h])
            · rcases ih h with h | h
              · exact .inl h
              · exact .inr (by simp [h])
          · intro h
            rcases List.mem_cons.1 h with h | h
            · exact .inl h
            · exact .inr (List.mem_filter.1 h).1
      rcases hm r hq with rfl | hq
      · exact hp
      · exact h1 q hq
    · rename_i hp
      have hp' : bl p.1 k = false := by simpa using hp
      refine List.pairwise_cons.2 ⟨fun q hq => ?_, kup_dropE h⟩
      obtain ⟨hq1, hq2⟩ := List.mem_filter.1 hq
      have hqk : q.1 ≠ k := by simpa using hq2
      have hpq : p = q ∨ bl p.1 q.1 = true := by
        rcases List.mem_cons.1 hq1 with rfl | hq1
        · exact .inl rfl
        · exact .inr (h1 q hq1)
      cases hb : bl k q.1
      · have hbq : bl q.1 k = false := by
          rcases hpq with rfl | hpq
          · exact hp'
          · cases hx : bl q.1 k
            · rfl
            · have := bl_trans hpq hx; rw [hp'] at this; cases this
        exact absurd (bl_total hbq hb) hqk
      · rfl

end Go.Proofs.Ytabgedmocdjkcaa
