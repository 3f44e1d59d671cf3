/- Layer 10: stamps rise by ones. -/
import Derived.Test.YticdfijblcbbbaaPoolM10
namespace Go.Proofs.Yticdfijblcbbbaa
open Go.RowKit

theorem takeZ_st {α : Type} {x y : Po α} {u : α} {j : Int} {s k : Nat} (hf : FOk x) (h : takeZ x u = some (j, s, y)) (hs : ∀ p ∈ x.M, p.st ≤ k) : ∀ p ∈ y.M, p.st ≤ k := by
  rcases free_last hf with e | ⟨F, i, p, e, hp⟩
  · by_cases hl : x.lim ≤ x.M.length
    · rw [takeZ_full e hl] at h; cases h
    · rw [takeZ_new e hl] at h
      simp only [Option.some.injEq, Prod.mk.injEq] at h
      obtain ⟨_, _, rfl⟩ := h
      intro q hq
      simp only [List.mem_append, List.mem_singleton] at hq
      rcases hq with hq | rfl
      · exact hs q hq
      · exact Nat.zero_le _
  · rw [takeZ_free e hp] at h
    simp only [Option.some.injEq, Prod.mk.injEq] at h
    obtain ⟨_, _, rfl⟩ := h
    intro q hq
    rcases List.mem_or_eq_of_mem_set hq with hq | rfl
    · exact hs q hq
    · exact hs p (List.mem_of_getElem? hp)
theorem giveZ_st {α : Type} {x y : Po α} {id : Int} {k : Nat} (h : giveZ x id = some y) (hs : ∀ p ∈ x.M, p.st ≤ k) : ∀ p ∈ y.M, p.st ≤ k + 1 := by
  cases hh : hasP x.M.length id with
  | false => rw [giveZ_no hh] at h; cases h
  | true =>
    obtain ⟨i, rfl, hi⟩ := hasP_yes hh
    rw [giveZ_at (List.getElem?_eq_getElem hi)] at h
    split at h
    · cases h
      intro q hq
      rcases List.mem_or_eq_of_mem_set hq with hq | rfl
      · exact Nat.le_succ_of_le (hs q hq)
      · exact Nat.succ_le_succ (hs _ (List.getElem_mem hi))
    · cases h

end Go.Proofs.Yticdfijblcbbbaa
