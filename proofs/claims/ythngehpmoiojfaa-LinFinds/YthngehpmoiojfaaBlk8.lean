/- A whole block of memory, written at once. Whatever program. -/
import Derived.Test.YthngehpmoiojfaaEndIs7
import Derived.Test.YthngehpmoiojfaaTurn7
import Derived.Deep.MidRow
namespace Go.Proofs.Ythngehpmoiojfaa
open Go.RowKit

theorem blk_there {t : TypeId} {w : World} {B : Nat} {l : List Value} (h : Blk t w B l) {o m : Nat} (hle : o + m ≤ l.length) : w.there B o m := fun j hj => ⟨by rw [h.cell, List.getElem?_eq_getElem (by omega)]; rfl, h.frozen _⟩
theorem Blk.newN {t : TypeId} {W : World} {l : List Value} {n : Nat} (hn : W.heap.size = n) : Blk t (W.alloc (.cells l.toArray t)) n l := hn ▸ Blk.new
theorem Blk.setCells {t : TypeId} {B : Nat} : ∀ (vs : List Value) (o : Nat) (W : World) (l : List Value), Blk t W B l → Blk t (W.setCells B o vs) B (setsL l o vs)
  | [], _, _, _, h => h
  | u :: r, o, w, xs, h => by
    rw [World.setCells]
    exact Blk.setCells r (o + 1) _ _ (h.set o u)
theorem setsL_mid : ∀ (vs a l z : List Value), l.length = vs.length → setsL (a ++ l ++ z) a.length vs = a ++ vs ++ z
  | [], a, l, z, h => by
    have : l = [] := List.eq_nil_of_length_eq_zero h
    subst this
    rfl
  | v :: vs, a, [], z, h => by simp at h
  | v :: vs, a, x :: l, z, h => by
    unfold setsL
    have e : (a ++ x :: l ++ z).set a.length v = (a ++ [v]) ++ l ++ z := by
      rw [List.append_assoc, List.set_append_right _ _ (Nat.le_refl _), Nat.sub_self]
      simp
    rw [e]
    have := setsL_mid vs (a ++ [v]) l z (by simpa using h)
    rw [List.length_append, List.length_singleton] at this
    rw [this]
    simp
/-- A store over a part of a block. -/
theorem wpList_store_part {P : Program} {ops : Array Oper} {rest : List Oper} {op : Oper} {a : Act} {w : World} {Q : Exit → Act → World → Prop} (hgd : op.guard = none) (ty : TypeId) (x y : Operand) (ho : op.op = .store ty x y) (t : TypeId) (b : Nat) (A l Z cs : List Value)
    (hx : a.eval x = .pointer (some ⟨b, A.length, none⟩)) (hy : a.eval y = .agg cs.toArray) (hB : Blk t w b (A ++ l ++ Z)) (hl : l.length = cs.length) (hi : (P.info? ty).map (·.size) = some cs.length) (h1 : cs.toArray.all (·.oneCell') = true)
    (h : ∀ w', Blk t w' b (A ++ cs ++ Z) → Only (· = b) w w' → wpList P ops Q rest (a.put op.dst undef) w') : wpList P ops Q (op :: rest) a w := by
  refine wpList_store_mid hgd ty x y ho b A.length cs.toArray hx hy (blk_there hB (by simp; omega)) (by rw [hi]; simp) h1 ?_
  have e := setsL_mid cs A l Z hl
  refine h _ ?_ (only_setCells (S := (· = b)) rfl _ _ w w (Only.refl _ _))
  rw [← e]
  exact Blk.setCells _ _ _ _ hB
/-- A store over a whole block. -/
theorem wpList_store_blk {P : Program} {ops : Array Oper} {rest : List Oper} {op : Oper} {a : Act} {w : World} {Q : Exit → Act → World → Prop} (hgd : op.guard = none) (ty : TypeId) (x y : Operand) (ho : op.op = .store ty x y) (t : TypeId) (b : Nat) (l cs : List Value)
    (hx : a.eval x = .pointer (some ⟨b, 0, none⟩)) (hy : a.eval y = .agg cs.toArray) (hB : Blk t w b l) (hl : l.length = cs.length) (hi : (P.info? ty).map (·.size) = some cs.length) (h1 : cs.toArray.all (·.oneCell') = true)
    (h : ∀ w', Blk t w' b cs → Only (· = b) w w' → wpList P ops Q rest (a.put op.dst undef) w') : wpList P ops Q (op :: rest) a w :=
  wpList_store_part hgd ty x y ho t b [] l [] cs hx hy (by simpa using hB) hl hi h1 (fun w' h2 h3 => h w' (by simpa using h2) h3)

end Go.Proofs.Ythngehpmoiojfaa
