/- The law's own 'list': a set's values in a list. -/
import Derived.Test.YtmfejpbijllojaaGreatAll3
import Derived.Test.YtmfejpbijllojaaGreatOf3
namespace Go.Proofs.YtmfejpbijllojaaGreat
open Go.RowKit Go.Shelf

attribute [local go_sem] Oper.semAt_some

/-- Two new blocks, the first for s, the second the result's. -/
theorem twoB (w : World) (o1 : Obj) (r : Value) (t2 : TypeId) : ∃ W, (w.alloc o1).alloc (.cells #[r] t2) = W ∧ Below w.heap.size w W ∧ W.heap.size = w.heap.size + 2 ∧ Boxed W (w.heap.size + 1) t2 r := by
  have h1 : Below w.heap.size w (w.alloc o1) := (Below.refl _ _).alloc (Nat.le_refl _) _
  have h2 : Below w.heap.size w ((w.alloc o1).alloc (.cells #[r] t2)) := h1.alloc (by simp) _
  have b1 := Boxed.new (w.alloc o1) t2 r
  rw [World.size_alloc] at b1
  exact ⟨_, rfl, h2, by simp, b1⟩

theorem SliceK.putObj {W : World} {k n : Nat} {v : Value} {cs : List Value} (h : SliceK W k v n cs) {D : Nat} {o : Obj} (o' : Obj) (hK : W.heap[D]? = some o) (ho : o.isCells = false) : SliceK (W.putObj D o') k v n cs := by
  obtain ⟨h0, h1 | ⟨b, off, cap, hv, h1, h2, h3⟩⟩ := h
  · exact ⟨h0, .inl h1⟩
  · exact ⟨h0, .inr ⟨b, off, cap, hv, h1, Nat.lt_of_lt_of_le h2 (grownBy_putObj' W D o').size, fun j u hu => cell_kept (h3 j u hu) (grownBy_putObj' W D o') (fun r e => by cases e; exact ⟨_, hK, ho⟩)⟩⟩

end Go.Proofs.YtmfejpbijllojaaGreat
