/- PoolFresh: what was taken, as plain reckoning. -/
import Derived.Test.YticdfijblcbbbaaPoolM10
namespace Go.Proofs.Yticdfijblcbbbaa
open Go.RowKit

/-- A taking: its number, its stamp, is it gone. -/
structure Rc where
  id : Int
  st : Nat
  g : Bool
structure FZ {α : Type} (X : α) (x : Po α) (R : List Rc) : Prop where
  fok : FOk x
  fr : ∀ i ∈ x.F, ∀ p, x.M[(i - 1).toNat]? = some p → p.tk = false
  nd : x.F.Nodup
  val : ∀ p ∈ x.M, p.tk = true → p.x = X
  rec_ : ∀ r ∈ R, ∃ (i : Nat) (p : Plc α), r.id = (i : Int) + 1 ∧ x.M[i]? = some p ∧ r.g = !(decide (r.st = p.st)) ∧ (r.st < p.st ∨ (r.st = p.st ∧ p.tk = true))
theorem FZ.start {α : Type} (X : α) (l : Nat) : FZ X ⟨l, [], []⟩ [] := ⟨fun i hi => by simp at hi, fun i hi => by simp at hi, by simp, fun p hp => by simp at hp, fun r hr => by simp at hr⟩
section
variable {α : Type} {X : α} {x y : Po α} {R : List Rc}
theorem FZ.take {j : Int} {s : Nat} (h : FZ X x R) (ht : takeZ x X = some (j, s, y)) : FZ X y (R ++ [⟨j, s, false⟩]) ∧ ∀ r ∈ R, ¬ (r.id = j ∧ r.st = s) := by
  have hy := (h.fok.take ht).1
  rcases free_last h.fok with e | ⟨F, i, p, e, hp⟩
  · by_cases hl : x.lim ≤ x.M.length
    · rw [takeZ_full e hl] at ht; cases ht
    · rw [takeZ_new e hl] at ht
      simp only [Option.some.injEq, Prod.mk.injEq] at ht
      obtain ⟨rfl, rfl, rfl⟩ := ht
      refine ⟨⟨hy, fun i hi => by simp at hi, by simp, fun p hp ht => ?_, fun r hr => ?_⟩, fun r hr ⟨h1, _⟩ => ?_⟩
      · simp only [List.mem_append, List.mem_singleton] at hp
        rcases hp with hp | rfl
        · exact h.val p hp ht
        · rfl
      · simp only [List.mem_append, List.mem_singleton] at hr
        rcases hr with hr | rfl
        · obtain ⟨i, p, h1, h2, h3, h4⟩ := h.rec_ r hr
          exact ⟨i, p, h1, by rw [List.getElem?_append_left (List.getElem?_eq_some_iff.1 h2).1]; exact h2, h3, h4⟩
        · exact ⟨x.M.length, ⟨X, 0, true⟩, rfl, by simp, by simp, .inr ⟨rfl, rfl⟩⟩
      · obtain ⟨i, p, h2, h3, _⟩ := h.rec_ r hr
        have := (List.getElem?_eq_some_iff.1 h3).1
        omega
  · rw [takeZ_free e hp] at ht
    simp only [Option.some.injEq, Prod.mk.injEq] at ht
    obtain ⟨rfl, rfl, rfl⟩ := ht
    have hi := (List.getElem?_eq_some_iff.1 hp).1
    have hpf : p.tk = false := h.fr ((i : Int) + 1) (by rw [e]; simp) p (by rw [show ((i : Int) + 1 - 1).toNat = i by omega]; exact hp)
    have hnd := h.nd
    rw [e] at hnd
    have hni : (i : Int) + 1 ∉ F := fun hm => by
      rw [List.nodup_append] at hnd
      exact hnd.2.2 _ hm _ (by simp) rfl
    refine ⟨⟨hy, fun k hk q hq => ?_, (List.nodup_append.1 hnd).1, fun q hq ht => ?_, fun r hr => ?_⟩, fun r hr ⟨h1, h2⟩ => ?_⟩
    · have hk1 := (h.fok k (by rw [e]; simp [hk])).1
      have hne : i ≠ (k - 1).toNat := fun e' => hni (by rw [show (i : Int) + 1 = k by omega]; exact hk)
      simp only [List.getElem?_set_ne hne] at hq
      exact h.fr k (by rw [e]; simp [hk]) q hq
    · rcases List.mem_or_eq_of_mem_set hq with hq | rfl
      · exact h.val q hq ht
      · rfl
    · simp only [List.mem_append, List.mem_singleton] at hr
      rcases hr with hr | rfl
      · obtain ⟨m, q, h1, h2, h3, h4⟩ := h.rec_ r hr
        by_cases em : i = m
        · subst em
          rw [hp] at h2
          cases h2
          refine ⟨i, ⟨X, p.st, true⟩, h1, by simp [hi], h3, ?_⟩
          rcases h4 with h4 | ⟨_, h4⟩
          · exact .inl h4
          · rw [hpf] at h4; cases h4
        · exact ⟨m, q, h1, by simp only [List.getElem?_set_ne em]; exact h2, h3, h4⟩
      · exact ⟨i, ⟨X, p.st, true⟩, rfl, by simp [hi], by simp, .inr ⟨rfl, rfl⟩⟩
    · obtain ⟨m, q, h3, h4, _, h5⟩ := h.rec_ r hr
      obtain rfl : m = i := by omega
      rw [hp] at h4
      cases h4
      rcases h5 with h5 | ⟨_, h5⟩
      · omega
      · rw [hpf] at h5; cases h5
/-- All of one number are gone. -/
def goneZ (id : Int) (r : Rc) : Rc := ⟨r.id, r.st, r.g || decide (r.id = id)⟩
theorem FZ.give {id : Int} (h : FZ X x R) (ht : giveZ x id = some y) : FZ X y (R.map (goneZ id)) := by
  have hy := (h.fok.give ht).1
  cases hh : hasP x.M.length id with
  | false => rw [giveZ_no hh] at ht; cases ht
  | true =>
    obtain ⟨i, rfl, hi⟩ := hasP_yes hh
    have hp := List.getElem?_eq_getElem hi
    generalize x.M[i] = p at hp
    rw [giveZ_at hp] at ht
    split at ht
    · rename_i htk
      cases ht
      have hni : (i : Int) + 1 ∉ x.F := fun hm => by
        have := h.fr _ hm p (by rw [show ((i : Int) + 1 - 1).toNat = i by omega]; exact hp)
        rw [this] at htk; cases htk
      refine ⟨hy, fun k hk q hq => ?_, ?_, fun q hq ht => ?_, fun r hr => ?_⟩
      · simp only [List.mem_append, List.mem_singleton] at hk
        rcases hk with hk | rfl
        · have hk1 := (h.fok k hk).1
          have hne : i ≠ (k - 1).toNat := fun e' => hni (by rw [show (i : Int) + 1 = k by omega]; exact hk)
          simp only [List.getElem?_set_ne hne] at hq
          exact h.fr k hk q hq
        · rw [show ((i : Int) + 1 - 1).toNat = i by omega] at hq
          simp [hi] at hq
          rw [← hq]
      · rw [List.nodup_append]
        refine ⟨h.nd, by simp, fun a ha b hb => ?_⟩
        simp only [List.mem_singleton] at hb
        subst hb
        exact fun e => hni (e ▸ ha)
      · rcases List.mem_or_eq_of_mem_set hq with hq | rfl
        · exact h.val q hq ht
        · cases ht
      · obtain ⟨r0, hr0, rfl⟩ := List.mem_map.1 hr
        obtain ⟨m, q, h1, h2, h3, h4⟩ := h.rec_ r0 hr0
        by_cases em : i = m
        · subst em
          rw [hp] at h2
          cases h2
          refine ⟨i, ⟨p.x, p.st + 1, false⟩, h1, by simp [hi], ?_, .inl (by simp only [goneZ]; omega)⟩
          have hs : ¬ r0.st = p.st + 1 := by omega
          simp [goneZ, h1, hs]
        · refine ⟨m, q, h1, by simp only [List.getElem?_set_ne em]; exact h2, ?_, h4⟩
          have : ¬ (m : Int) + 1 = (i : Int) + 1 := by omega
          simp [goneZ, h3, h1, this]
    · cases ht
theorem FZ.get (h : FZ X x R) {r : Rc} (hr : r ∈ R) : getZ x r.id (r.st : Int) = if r.g then .inr 9 else .inl X := by
  obtain ⟨i, p, h1, h2, h3, h4⟩ := h.rec_ r hr
  rw [h1, getZ_at h2, h3]
  by_cases e : r.st = p.st
  · rcases h4 with h4 | ⟨_, h4⟩
    · omega
    · simp [e, h4, h.val p (List.mem_of_getElem? h2) h4]
  · have e' : ¬ (p.st : Int) = (r.st : Int) := by omega
    simp [e, e']
end

end Go.Proofs.Yticdfijblcbbbaa
