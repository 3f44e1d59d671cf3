/- A store of some cells in a region that draws its order; what lies there. Whatever program. -/
import Derived.Test.YteigkomefehpjaaBlk
import Derived.Deep.MidRow
import Derived.Deep.RegionHeld3
namespace Go.Proofs.Yteigkomefehpjaa
open Go.RowKit

theorem step_put {P : Program} {ops : Array Oper} {op : Oper} {a : Act} {w : World} {K : Act → World → Prop} {Q : Exit → Act → World → Prop} {E : Prop} (hgd : op.guard = none) (ty : TypeId) (x y : Operand) (ho : op.op = .store ty x y)
    (b o : Nat) (cells : Array Value) (hx : a.eval x = .pointer (some ⟨b, o, none⟩)) (hy : a.eval y = .agg cells)
    (ht : w.there b o cells.size) (hi : (P.info? ty).map (·.size) = some cells.size) (h1 : cells.all (·.oneCell') = true)
    (h : K (a.put op.dst undef) (w.setCells b o cells.toList)) : if Region.wanted op (yielded ops a.tmps) = true then Oper.wp P op a w K Q else E := by
  have hw : Region.wanted op (yielded ops a.tmps) = true := by simp [Region.wanted, hgd]
  rw [if_pos hw]
  exact wp_store_mid ty x y ho b o cells hx hy ht hi h1 h
theorem blk_lies {t : TypeId} {w : World} {B : Nat} {l : List Value} (h : Blk t w B l) {o m : Nat} (hle : o + m ≤ l.length) : w.there B o m := fun j hj => ⟨by rw [h.cell, List.getElem?_eq_getElem (by omega)]; rfl, h.frozen _⟩
theorem only_at (w : World) (B o : Nat) (v : Value) : Only (· = B) w (w.setCell ⟨B, o, none⟩ v) := (Only.refl (· = B) w).setCell (p := ⟨B, o, none⟩) (.inl rfl) v
theorem wpList_index {P : Program} {ops : Array Oper} {rest : List Oper} {o : Oper} {a : Act} {w : World} {Q : Exit → Act → World → Prop} (hg : o.guard = none) (t : TypeId) (x y : Operand) (ho : o.op = .index t x y) (u i r : Value) (hx : a.eval x = u) (hy : a.eval y = i)
    (hr : (Instr.index t u i).run P w = .ok r w) (h : wpList P ops Q rest (a.put o.dst r) w) : wpList P ops Q (o :: rest) a w :=
  wpList_plain hg fun _ hK => by
    unfold Oper.wp execOp
    simp [ho, hx, hy, hr]
    exact hK _ _ h

end Go.Proofs.Yteigkomefehpjaa
