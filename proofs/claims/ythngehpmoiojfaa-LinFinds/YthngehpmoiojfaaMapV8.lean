/- Maps keyed by values of any kind that a map of this program can be keyed by, by what stands at each key. Whatever program. -/
import Derived.Test.YthngehpmoiojfaaMapF7
import Derived.DeepKeys4
namespace Go.Proofs.Ythngehpmoiojfaa
open Go.RowKit Go.Maps

/-- Block b is a map of at most n entries; at v stands M v. -/
def MapV (P : Program) (k : TypeId) (W : World) (b n : Nat) (M : Value → Option Value) : Prop :=
  ∃ D, W.ownsMap P k anyE b n D ∧ ∀ v l, keyOf P k v = some l → Maps.has D l = (M v).isSome ∧ ∀ z, D.atKey l (.held z) = .held ((M v).getD z)

section
variable {P : Program} {k : TypeId} {W : World} {b n : Nat} {M : Value → Option Value}
theorem MapV.lt (h : MapV P k W b n M) : b < W.heap.size := by obtain ⟨D, hD, _⟩ := h; exact hD.lt
theorem MapV.mono (h : MapV P k W b n M) {m : Nat} (hm : n ≤ m) : MapV P k W b m M := by obtain ⟨D, hD, hx⟩ := h; exact ⟨D, hD.mono hm, hx⟩
theorem MapV.block {W' : World} (h : MapV P k W b n M) (e : W'.heap[b]? = W.heap[b]?) : MapV P k W' b n M := by
  obtain ⟨D, ⟨es, clock, hb, F, hs, hD⟩, hx⟩ := h
  exact ⟨D, ⟨es, clock, e.trans hb, F, hs, hD⟩, hx⟩
theorem MapV.only {W' : World} {S : Nat → Prop} (h : MapV P k W b n M) (ho : Only S W W') (hb : ¬ S b) : MapV P k W' b n M := h.block (ho.block b h.lt hb)
theorem MapV.made (P : Program) (k : TypeId) (W : World) : MapV P k (W.alloc (.map #[] 0)) W.heap.size 0 (fun _ => none) :=
  ⟨_, World.ownsMap_made W P k anyE, fun x l _ => ⟨by simp [Maps.has], fun z => by simp [DataW.atKey]⟩⟩
theorem MapV.ne_blk (h : MapV P k W b n M) {B : Nat} {cs : Array Value} {t : TypeId} {fr : Nat × Nat} (hB : W.heap[B]? = some (.cells cs t fr)) : b ≠ B := by
  rintro rfl
  obtain ⟨D, ⟨es, clock, hb, _⟩, _⟩ := h
  rw [hb] at hB
  cases hB
theorem MapV.look {t e : TypeId} (h : MapV P k W b n M) (K : Keyed P k) (ht : P.underlying t = some (.map k e)) {z : Value} (hz : (zeroValue e).run P W = .ok z W) {x : Value} {l : Lit} (hw : keyOf P k x = some l) :
    (Instr.lookup t (.map (some b)) x false).run P W = .ok ((M x).getD z) W := by
  obtain ⟨D, hD, hx⟩ := h
  obtain ⟨v, ps, hrun, hv⟩ := hD.lookup K ht hz (zd := .held z) (zp := []) rfl hw
  rw [(hx x l hw).2 z] at hv
  have e : v = (M x).getD z := by simp [anyE] at hv; exact hv.1
  rw [hrun, e]
open Classical in
/-- What stands at one key is another value then. -/
noncomputable def updV (M : Value → Option Value) (x : Value) (v : Value) : Value → Option Value := fun y => if y = x then some v else M y
theorem MapV.put {t e : TypeId} (h : MapV P k W b n M) (K : Keyed P k) (ht : P.underlying t = some (.map k e)) (hn : n < maxLen) {x : Value} {l : Lit} (hw : keyOf P k x = some l) (v : Value) :
    ∃ W', (Instr.mapUpdate t (.map (some b)) x v).run P W = .ok () W' ∧ MapV P k W' b (n + 1) (updV M x v) ∧ Only (· = b) W W' := by
  obtain ⟨D, hD, hx⟩ := h
  obtain ⟨W', hrun, hD', hg⟩ := hD.update K ht hn hw (show anyE v = some (.held v, []) from rfl)
  refine ⟨W', hrun, ⟨_, hD', fun y ly hy => ?_⟩, ⟨hg.os, hg.tape, hg.output, hg.size, fun j hj hne => hg.block j hj (fun e => hne (by cases e; rfl))⟩⟩
  by_cases e : y = x
  · subst e
    obtain rfl : ly = l := by rw [hy] at hw; exact Option.some.inj hw
    have hlit : WideAt.IsKeyLit ly := K.key hy
    simp only [updV, if_true]
    exact ⟨by rw [has_put_same hD.isMap hlit]; rfl, fun z => by rw [atKey_put_same hD.isMap hlit]; rfl⟩
  · have hne : ly ≠ l := fun h => e (K.inj hy (h ▸ hw))
    simp only [updV, if_neg e]
    exact ⟨by rw [has_put_other hne]; exact (hx y ly hy).1, fun z => by rw [atKey_put_other hne]; exact (hx y ly hy).2 z⟩
end

end Go.Proofs.Ythngehpmoiojfaa
