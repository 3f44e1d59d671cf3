/- Small facts on worlds that all layers use. Whatever program. -/
import Derived.RangeFuncNested
import Derived.RangeFuncBox
import Derived.RangeFuncBound
import Derived.Deep.Draws
import Derived.Shelf.Abstract
import Derived.WalkKit
namespace Go.Proofs.YtmfejpbijllojaaGreat
open Go.RowKit Go.Shelf

theorem below_step {w a b : World} (h : Below w.heap.size w a) (k : Below a.heap.size a b) : Below w.heap.size w b := h.trans (k.mono h.size)
theorem below_draws {B : Nat} {a w : World} (h : Below B a w) (n : Nat) : Below B a (w.drewN n) := ⟨h.os, h.tape, h.output, h.size, h.block⟩
theorem boxed_below {W W' : World} {n B : Nat} {t : TypeId} {v : Value} (h : Boxed W B t v) (hb : Below n W W') (hlt : B < n) : Boxed W' B t v := (hb.block B hlt).trans h
theorem boxedEx_own {β : Type} (B : Nat) (t : TypeId) (Q : β → Value → Prop) : Own (fun (s : β) W => ∃ v, Boxed W B t v ∧ Q s v) := fun s X Y row ⟨v, hs, hq⟩ hg hrow =>
  ⟨v, boxed_own B t (fun _ : β => v) s X Y row hs hg hrow, hq⟩
theorem data_cat (a b : ByteArray) : (a ++ b).data.toList = a.data.toList ++ b.data.toList := by simp

theorem heap_alloc_at (W : World) (o : Obj) (k : Nat) : (W.alloc o).heap[k]? = if k = W.heap.size then some o else W.heap[k]? := by
  show (W.heap.push o)[k]? = _
  rw [Array.getElem?_push]

end Go.Proofs.YtmfejpbijllojaaGreat
