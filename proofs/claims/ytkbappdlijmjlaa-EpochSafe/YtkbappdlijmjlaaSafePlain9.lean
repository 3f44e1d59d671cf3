/- Layer 9: what is told is seen by nobody, as plain reckoning. -/
import Derived.Test.YtkbappdlijmjlaaEpPlain9
namespace Go.Proofs.Ytkbappdlijmjlaa
open Go.RowKit

/-- What is known: H: of each that was retired, who was pinned then and not unpinned since; E: its epoch; T: which were told; W: which wait. -/
structure SafeZ (x : Ep) (H : List (List Bool)) (E : List Nat) (T : List Bool) (W : List (Int × Nat)) : Prop where
  ag : Agree x W
  pl : x.pins.length = 8
  hl : H.length = E.length
  tl : T.length = 300
  p0 : ∀ (t p : Nat), x.pins[t]? = some (some p) → p ≤ x.now
  p1 : ∀ (k t : Nat) h, H[k]? = some h → h[t]? = some true → ∃ p e, x.pins[t]? = some (some p) ∧ E[k]? = some e ∧ p ≤ e
  en : ∀ (k e : Nat), E[k]? = some e → e ≤ x.now
  wd : (W.map (·.1)).Nodup
  we : ∀ p ∈ W, ∃ k : Nat, p.1 = (k : Int) ∧ E[k]? = some p.2
  te : ∀ (k e : Nat), E[k]? = some e → (T[k]? = some false ↔ ((k : Int), e) ∈ W)
theorem SafeZ.start : SafeZ ⟨0, List.replicate 8 none, fun _ => []⟩ [] [] (List.replicate 300 false) [] :=
  ⟨Agree.start _, by simp, rfl, List.length_replicate, fun t p h => by rw [List.getElem?_replicate] at h; split at h <;> simp at h, fun k t h h1 => by simp at h1, fun k e h => by simp at h, by simp, fun p h => by simp at h, fun k e h => by simp at h⟩
section
variable {x : Ep} {H : List (List Bool)} {E : List Nat} {T : List Bool} {W : List (Int × Nat)}
theorem SafeZ.pin (h : SafeZ x H E T W) (t : Nat) : SafeZ ⟨x.now, if hasT x (t : Int) && !isPin x (t : Int) then x.pins.set ((t : Int)).toNat (some x.now) else x.pins, x.q⟩ H E T W := by
  cases hb : hasT x (t : Int) && !isPin x (t : Int) with
  | false => exact h
  | true =>
    simp only [Bool.and_eq_true, Bool.not_eq_true'] at hb
    obtain ⟨hb1, hb2⟩ := hb
    have ht : t < x.pins.length := by simp [hasT] at hb1; omega
    have hn : x.pins[t]? = some none := by
      rw [List.getElem?_eq_getElem ht]
      unfold isPin at hb2
      rw [hb1] at hb2
      simp [List.getD_eq_getElem?_getD, List.getElem?_eq_getElem ht] at hb2
      rw [hb2]
    refine ⟨h.ag.pins _, by simpa using h.pl, h.hl, h.tl, fun s p hs => ?_, fun k s g hk hs => ?_, h.en, h.wd, h.we, h.te⟩
    · simp only [if_true, Int.toNat_natCast] at hs
      by_cases hst : t = s
      · subst hst
        rw [List.getElem?_set_self ht] at hs
        simp at hs
        rw [← hs]
        exact Nat.le_refl _
      · rw [List.getElem?_set_ne hst] at hs
        exact h.p0 s p hs
    · obtain ⟨p, e, h1, h2, h3⟩ := h.p1 k s g hk hs
      refine ⟨p, e, ?_, h2, h3⟩
      simp only [if_true, Int.toNat_natCast]
      rw [List.getElem?_set_ne (by rintro rfl; rw [hn] at h1; cases h1)]
      exact h1
/-- Unpinned: of nobody it is said any more. -/
theorem SafeZ.unpin (h : SafeZ x H E T W) (t : Nat) (ht : t < 8) : SafeZ ⟨x.now, if isPin x (t : Int) then x.pins.set ((t : Int)).toNat none else x.pins, x.q⟩ (H.map (·.set t false)) E T W := by
  have hp : (if isPin x (t : Int) then x.pins.set ((t : Int)).toNat none else x.pins) = x.pins.set t none := by
    split
    · rw [Int.toNat_natCast]
    · rename_i hb
      have ht' : t < x.pins.length := by rw [h.pl]; exact ht
      unfold isPin hasT at hb
      simp [ht', List.getD_eq_getElem?_getD] at hb
      rw [← hb, List.set_getElem_self]
  rw [hp]
  refine ⟨h.ag.pins _, by simpa using h.pl, by simpa using h.hl, h.tl, fun s p hs => ?_, fun k s g hk hs => ?_, h.en, h.wd, h.we, h.te⟩
  · simp only at hs
    rw [List.getElem?_set] at hs
    split at hs
    · split at hs
      · cases hs
      · cases hs
    · exact h.p0 s p hs
  · rw [List.getElem?_map, Option.map_eq_some_iff] at hk
    obtain ⟨g', hg', rfl⟩ := hk
    rw [List.getElem?_set] at hs
    split at hs
    · split at hs <;> cases hs
    · rename_i hne
      obtain ⟨p, e, h1, h2, h3⟩ := h.p1 k s g' hg' hs
      exact ⟨p, e, by simp only; rw [List.getElem?_set_ne hne]; exact h1, h2, h3⟩
theorem snoc_at {α : Type} {L : List α} {a b : α} {k : Nat} (h : (L ++ [a])[k]? = some b) : L[k]? = some b ∨ (k = L.length ∧ b = a) := by
  by_cases hk : k < L.length
  · rw [List.getElem?_append_left hk] at h; exact .inl h
  · rw [List.getElem?_append_right (by omega)] at h
    have : k - L.length = 0 := by
      have := (List.getElem?_eq_some_iff.1 h).1
      simp at this; omega
    rw [this] at h
    simp at h
    exact .inr ⟨by omega, h.symm⟩
theorem SafeZ.retire (h : SafeZ x H E T W) (hlen : H.length < 300) (hT : ∀ k, H.length ≤ k → k < 300 → T[k]? = some false) : SafeZ ⟨x.now, x.pins, upd x.q (x.now % 3) (x.q (x.now % 3) ++ [(H.length : Int)])⟩ (H ++ [x.pins.map Option.isSome]) (E ++ [x.now]) T (W ++ [((H.length : Int), x.now)]) := by
  refine ⟨h.ag.retire _, h.pl, by simp [h.hl], h.tl, h.p0, fun k t g hk hs => ?_, fun k e he => ?_, ?_, fun p hp => ?_, fun k e he => ?_⟩
  · rcases snoc_at hk with hk | ⟨rfl, rfl⟩
    · obtain ⟨p, e, h1, h2, h3⟩ := h.p1 k t g hk hs
      exact ⟨p, e, h1, by rw [List.getElem?_append_left (List.getElem?_eq_some_iff.1 h2).1]; exact h2, h3⟩
    · rw [List.getElem?_map, Option.map_eq_some_iff] at hs
      obtain ⟨o, ho, hs⟩ := hs
      cases o with
      | none => cases hs
      | some p => exact ⟨p, x.now, ho, by rw [h.hl]; simp, h.p0 t p ho⟩
  · rcases snoc_at he with he | ⟨_, rfl⟩
    · exact h.en k e he
    · exact Nat.le_refl _
  · rw [List.map_append]
    refine List.nodup_append.2 ⟨h.wd, by simp, ?_⟩
    intro a ha b hb
    simp at hb
    subst hb
    obtain ⟨p, hp, rfl⟩ := List.mem_map.1 ha
    obtain ⟨k, e1, e2⟩ := h.we p hp
    have := (List.getElem?_eq_some_iff.1 e2).1
    rw [e1, h.hl]
    omega
  · rcases List.mem_append.1 hp with hp | hp
    · obtain ⟨k, e1, e2⟩ := h.we p hp
      exact ⟨k, e1, by rw [List.getElem?_append_left (List.getElem?_eq_some_iff.1 e2).1]; exact e2⟩
    · simp at hp
      subst hp
      exact ⟨H.length, rfl, by rw [h.hl]; simp⟩
  · rw [List.mem_append]
    rcases snoc_at he with he | ⟨rfl, rfl⟩
    · rw [h.te k e he]
      refine ⟨.inl, fun h' => h'.elim id fun h' => ?_⟩
      simp at h'
      have := (List.getElem?_eq_some_iff.1 he).1
      have := h.hl
      omega
    · rw [← h.hl]
      exact ⟨fun _ => .inr (by simp), fun _ => hT _ (Nat.le_refl _) hlen⟩
/-- What tell finds right. -/
def tellOk (H : List (List Bool)) : List Bool → List Int → Prop
  | _, [] => True
  | T, a :: A => (∃ (k : Nat) (h : List Bool), a = (k : Int) ∧ H[k]? = some h ∧ T[k]? = some false ∧ ∀ b ∈ h, b = false) ∧ tellOk H (T.set a.toNat true) A
def tellTo (T : List Bool) (A : List Int) : List Bool := A.foldl (fun T a => T.set a.toNat true) T
theorem tellTo_len (T : List Bool) : ∀ A : List Int, (tellTo T A).length = T.length
  | [] => rfl
  | a :: A => by
    have := tellTo_len (T.set a.toNat true) A
    simpa [tellTo] using this
theorem tellTo_at {T : List Bool} {k : Nat} : ∀ {A : List Int}, (∀ a ∈ A, 0 ≤ a) → (tellTo T A)[k]? = if (k : Int) ∈ A then T[k]?.map (fun _ => true) else T[k]? := by
  intro A
  induction A generalizing T with
  | nil => intro _; simp [tellTo]
  | cons a A ih =>
    intro h
    have ih := ih (T := T.set a.toNat true) (fun b hb => h b (by simp [hb]))
    have ha := h a (by simp)
    show (tellTo (T.set a.toNat true) A)[k]? = _
    rw [ih, List.getElem?_set]
    by_cases e : (k : Int) = a
    · have e' : a.toNat = k := by omega
      simp only [e', if_true, e, List.mem_cons, true_or]
      by_cases hk : k < T.length
      · simp [hk]
      · simp [hk]
    · have e' : ¬ a.toNat = k := by omega
      simp [e', e]
theorem tellOk_of (H : List (List Bool)) : ∀ (A : List Int) (T : List Bool), A.Nodup → (∀ a ∈ A, ∃ (k : Nat) (h : List Bool), a = (k : Int) ∧ H[k]? = some h ∧ T[k]? = some false ∧ ∀ b ∈ h, b = false) → tellOk H T A
  | [], T, _, _ => trivial
  | a :: A, T, hn, h => by
    refine ⟨h a (by simp), tellOk_of H A _ (List.nodup_cons.1 hn).2 fun b hb => ?_⟩
    obtain ⟨k, g, e1, e2, e3, e4⟩ := h b (by simp [hb])
    refine ⟨k, g, e1, e2, ?_, e4⟩
    rw [List.getElem?_set_ne ?_]
    · exact e3
    · obtain ⟨k', _, e5, _⟩ := h a (by simp)
      intro e
      exact (List.nodup_cons.1 hn).1 (by rw [show a = b by omega]; exact hb)
theorem SafeZ.tell (h : SafeZ x H E T W) (hb : behindZ x = false) : tellOk H T (x.q ((x.now + 1) % 3)) := by
  rw [h.ag.told]
  refine tellOk_of H _ T ((List.Sublist.map _ (List.filter_sublist)).nodup h.wd) fun a ha => ?_
  obtain ⟨p, hp, rfl⟩ := List.mem_map.1 ha
  obtain ⟨hp, ho⟩ := List.mem_filter.1 hp
  obtain ⟨k, e1, e2⟩ := h.we p hp
  have hk : k < H.length := by rw [h.hl]; exact (List.getElem?_eq_some_iff.1 e2).1
  refine ⟨k, H[k], e1, List.getElem?_eq_getElem hk, (h.te k p.2 e2).2 (by rw [← e1]; exact hp), fun b hbm => ?_⟩
  cases b with
  | false => rfl
  | true =>
    exfalso
    obtain ⟨t, ht, hbt⟩ := List.getElem_of_mem hbm
    obtain ⟨q, e, h1, h2, h3⟩ := h.p1 k t H[k] (List.getElem?_eq_getElem hk) (by rw [List.getElem?_eq_getElem ht, hbt])
    have hee : e = p.2 := by rw [h2] at e2; simpa using e2
    simp [oldZ] at ho
    have hq := List.any_eq_false.1 hb (some q) (List.mem_of_getElem? h1)
    simp at hq
    omega
theorem SafeZ.adv (h : SafeZ x H E T W) : SafeZ ⟨x.now + 1, x.pins, upd x.q ((x.now + 1) % 3) []⟩ H E (tellTo T (x.q ((x.now + 1) % 3))) (W.filter fun p => !oldZ (x.now + 1) p) := by
  refine ⟨h.ag.adv, h.pl, h.hl, by rw [tellTo_len]; exact h.tl, fun t p ht => Nat.le_succ_of_le (h.p0 t p ht), h.p1, fun k e he => Nat.le_succ_of_le (h.en k e he), (List.Sublist.map _ (List.filter_sublist)).nodup h.wd, fun p hp => h.we p (List.mem_filter.1 hp).1, fun k e he => ?_⟩
  rw [h.ag.told, tellTo_at (fun a ha => by
    obtain ⟨p, hp, rfl⟩ := List.mem_map.1 ha
    obtain ⟨k, e1, _⟩ := h.we p (List.mem_filter.1 hp).1
    omega)]
  have hm := h.te k e he
  have key : (k : Int) ∈ (W.filter (oldZ (x.now + 1))).map (·.1) ↔ ((k : Int), e) ∈ W ∧ oldZ (x.now + 1) ((k : Int), e) = true := by
    rw [List.mem_map]
    constructor
    · rintro ⟨p, hp, hpk⟩
      obtain ⟨hp, ho⟩ := List.mem_filter.1 hp
      obtain ⟨k', e1, e2⟩ := h.we p hp
      have : k' = k := by omega
      subst this
      rw [he] at e2
      have hpe : p = ((k' : Int), e) := by
        cases p; simp at e1 e2 ⊢; exact ⟨e1, e2.symm⟩
      rw [← hpe]
      exact ⟨hp, ho⟩
    · rintro ⟨h1, h2⟩
      exact ⟨_, List.mem_filter.2 ⟨h1, h2⟩, rfl⟩
  rw [List.mem_filter]
  by_cases hc : (k : Int) ∈ (W.filter (oldZ (x.now + 1))).map (·.1)
  · rw [if_pos hc]
    have h2 := key.1 hc
    constructor
    · intro e'
      rw [Option.map_eq_some_iff] at e'
      obtain ⟨_, _, e'⟩ := e'
      cases e'
    · intro e'
      rw [h2.2] at e'
      simp at e'
  · rw [if_neg hc, hm]
    refine ⟨fun h1 => ⟨h1, ?_⟩, fun h1 => h1.1⟩
    cases ho : oldZ (x.now + 1) ((k : Int), e)
    · rfl
    · exact absurd (key.2 ⟨h1, ho⟩) hc
/-- What was retired may be forgotten of. -/
theorem SafeZ.clear (h : SafeZ x H E T W) {H' : List (List Bool)} (hl : H'.length = H.length) (hf : ∀ g ∈ H', ∀ b ∈ g, b = false) : SafeZ x H' E T W :=
  ⟨h.ag, h.pl, by rw [hl]; exact h.hl, h.tl, h.p0, fun k t g hk hs => (by
    have := hf g (List.mem_of_getElem? hk) true (List.mem_of_getElem? hs)
    cases this), h.en, h.wd, h.we, h.te⟩
end

end Go.Proofs.Ytkbappdlijmjlaa
