/- What the program's layer 3 (package set) comes to at maps: Put, Drop, Get. -/
import Derived.Test.YtmfejpbijllojaaGreatFind3
import Derived.Test.YtmfejpbijllojaaGreatSet3
namespace Go.Proofs.YtmfejpbijllojaaGreat
open Go.RowKit Go.Shelf

theorem ent_one (E : List Ent) : ∀ v ∈ E.flatMap encE, v.oneCell' = true := fun v hv => by
  obtain ⟨p, _, hp⟩ := List.mem_flatMap.1 hv
  rcases List.mem_cons.1 hp with rfl | hp
  · rfl
  · rcases List.mem_cons.1 hp with rfl | hp
    · rfl
    · simp at hp
theorem put_ents (q : Ent) (E : List Ent) (n m : Nat) : (E.flatMap encE).take (n * 2) ++ (encE q ++ (E.flatMap encE).drop (m * 2)) = (E.take n ++ q :: E.drop m).flatMap encE := by
  rw [ents_take, ents_drop, List.flatMap_append, List.flatMap_cons]
theorem cut_ents (E : List Ent) (n m : Nat) : (E.flatMap encE).take (n * 2) ++ ([] ++ (E.flatMap encE).drop (m * 2)) = (E.take n ++ E.drop m).flatMap encE := by
  rw [ents_take, ents_drop, List.flatMap_append]; rfl
/-- Entries that lie in a block of their own, behind a store elsewhere. -/
theorem ents_made {W : World} {g : Nat} {M : List Ent} {N : Nat} (hN : N = M.length) (hg : g < W.heap.size) (hc : CellsAt W g 0 (M.flatMap encE)) (p : Addr) (u : Value) (hp : p.block ≠ g) : EntsIn (W.setCell p u) (.slice (some ⟨g, 0, none⟩) N N) M := by
  subst hN
  refine ⟨ents_len M, .inr ⟨g, 0, _, rfl, Nat.le_refl _, by simpa [World.setCell] using hg, fun j v hv => ?_⟩⟩
  have := hc j v hv
  rw [← this]
  exact World.cell?_of_block (w := W) (Below.heap_setCell _ _ _ _ (fun e => hp (Eq.symm e)))

end Go.Proofs.YtmfejpbijllojaaGreat
