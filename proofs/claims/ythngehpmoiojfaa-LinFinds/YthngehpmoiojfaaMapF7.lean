/- Maps keyed by numbers, by what stands at each key, whatever the elements are. Whatever program. -/
import Derived.Test.YthngehpmoiojfaaOnly
import Derived.Maps.OwnSet
import Derived.Maps.Views
import Derived.WalkKit
namespace Go.Proofs.Ythngehpmoiojfaa
open Go.RowKit Go.Maps

/-- Any element, as it is. -/
def anyE (v : Value) : Option (DataW Value × List MemPlace) := some (.held v, [])
abbrev wf64 (x : Int) : Prop := (Lit.int .i64 x).wf = true
/-- Block b is a map of at most n entries; at x stands M x. -/
def MapF (P : Program) (k : TypeId) (W : World) (b n : Nat) (M : Int → Option Value) : Prop :=
  ∃ D, W.ownsMap P k anyE b n D ∧ ∀ x, wf64 x → Maps.has D (.int .i64 x) = (M x).isSome ∧ ∀ z, D.atKey (.int .i64 x) (.held z) = .held ((M x).getD z)

section
variable {P : Program} {k : TypeId} {W : World} {b n : Nat} {M : Int → Option Value}
theorem MapF.lt (h : MapF P k W b n M) : b < W.heap.size := by obtain ⟨D, hD, _⟩ := h; exact hD.lt
theorem MapF.mono (h : MapF P k W b n M) {m : Nat} (hm : n ≤ m) : MapF P k W b m M := by obtain ⟨D, hD, hx⟩ := h; exact ⟨D, hD.mono hm, hx⟩
theorem MapF.block {W' : World} (h : MapF P k W b n M) (e : W'.heap[b]? = W.heap[b]?) : MapF P k W' b n M := by
  obtain ⟨D, ⟨es, clock, hb, F, hs, hD⟩, hx⟩ := h
  exact ⟨D, ⟨es, clock, e.trans hb, F, hs, hD⟩, hx⟩
theorem MapF.only {W' : World} {S : Nat → Prop} (h : MapF P k W b n M) (ho : Only S W W') (hb : ¬ S b) : MapF P k W' b n M := h.block (ho.block b h.lt hb)
theorem MapF.below {W' : World} {m : Nat} (h : MapF P k W b n M) (ho : Below m W W') (hb : b < m) : MapF P k W' b n M := h.block (ho.block b hb)
theorem MapF.congr {M' : Int → Option Value} (h : MapF P k W b n M) (e : ∀ x, wf64 x → M x = M' x) : MapF P k W b n M' := by
  obtain ⟨D, hD, hx⟩ := h
  exact ⟨D, hD, fun x hw => by rw [← e x hw]; exact hx x hw⟩
theorem MapF.made (P : Program) (k : TypeId) (W : World) : MapF P k (W.alloc (.map #[] 0)) W.heap.size 0 (fun _ => none) :=
  ⟨_, World.ownsMap_made W P k anyE, fun x _ => ⟨by simp [Maps.has], fun z => by simp [DataW.atKey]⟩⟩
theorem MapF.ne_blk (h : MapF P k W b n M) {B : Nat} {cs : Array Value} {t : TypeId} {fr : Nat × Nat} (hB : W.heap[B]? = some (.cells cs t fr)) : b ≠ B := by
  rintro rfl
  obtain ⟨D, ⟨es, clock, hb, _⟩, _⟩ := h
  rw [hb] at hB
  cases hB

theorem MapF.look {t e : TypeId} (h : MapF P k W b n M) (K : Keyed P k) (hk : P.underlying k = some (.int .i64)) (ht : P.underlying t = some (.map k e)) {z : Value} (hz : (zeroValue e).run P W = .ok z W) {x : Int} (hw : wf64 x) :
    (Instr.lookup t (.map (some b)) (.int .i64 x) false).run P W = .ok ((M x).getD z) W := by
  obtain ⟨D, hD, hx⟩ := h
  obtain ⟨v, ps, hrun, hv⟩ := hD.lookup K ht hz (zd := .held z) (zp := []) rfl (keyOf_int_mk hk hw)
  rw [(hx x hw).2 z] at hv
  have e : v = (M x).getD z := by simp [anyE] at hv; exact hv.1
  rw [hrun, e]
theorem MapF.look_ok {t e : TypeId} (h : MapF P k W b n M) (K : Keyed P k) (hk : P.underlying k = some (.int .i64)) (ht : P.underlying t = some (.map k e)) {z : Value} (hz : (zeroValue e).run P W = .ok z W) {x : Int} (hw : wf64 x) :
    (Instr.lookup t (.map (some b)) (.int .i64 x) true).run P W = .ok (.tuple #[(M x).getD z, .bool (M x).isSome]) W := by
  obtain ⟨D, hD, hx⟩ := h
  obtain ⟨v, ps, hrun, hv⟩ := hD.look_ok K ht hz (zd := .held z) (zp := []) rfl (keyOf_int_mk hk hw)
  rw [(hx x hw).2 z] at hv
  have e : v = (M x).getD z := by simp [anyE] at hv; exact hv.1
  rw [hrun, e, (hx x hw).1]
/-- What stands at one key is another value then. -/
def updM (M : Int → Option Value) (x : Int) (v : Value) : Int → Option Value := fun y => if y = x then some v else M y
theorem MapF.put {t e : TypeId} (h : MapF P k W b n M) (K : Keyed P k) (hk : P.underlying k = some (.int .i64)) (ht : P.underlying t = some (.map k e)) (hn : n < maxLen) {x : Int} (hw : wf64 x) (v : Value) :
    ∃ W', (Instr.mapUpdate t (.map (some b)) (.int .i64 x) v).run P W = .ok () W' ∧ MapF P k W' b (n + 1) (updM M x v) ∧ Only (· = b) W W' := by
  obtain ⟨D, hD, hx⟩ := h
  obtain ⟨W', hrun, hD', hg⟩ := hD.update K ht hn (keyOf_int_mk hk hw) (show anyE v = some (.held v, []) from rfl)
  refine ⟨W', hrun, ⟨_, hD', fun y hy => ?_⟩, ⟨hg.os, hg.tape, hg.output, hg.size, fun j hj hne => hg.block j hj (fun e => hne (by cases e; rfl))⟩⟩
  by_cases e : y = x
  · subst e
    have hlit : WideAt.IsKeyLit (.int .i64 y) := by trivial
    simp only [updM, if_true]
    exact ⟨by rw [has_put_same hD.isMap hlit]; rfl, fun z => by rw [atKey_put_same hD.isMap hlit]; rfl⟩
  · have hne : (Lit.int .i64 y) ≠ Lit.int .i64 x := fun h => e (by cases h; rfl)
    simp only [updM, if_neg e]
    exact ⟨by rw [has_put_other hne]; exact (hx y hy).1, fun z => by rw [atKey_put_other hne]; exact (hx y hy).2 z⟩
end

end Go.Proofs.Ythngehpmoiojfaa
