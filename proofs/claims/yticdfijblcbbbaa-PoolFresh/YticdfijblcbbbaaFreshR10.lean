/- PoolFresh: what it keeps in memory. -/
import Derived.Test.YticdfijblcbbbaaPoolV10
import Derived.Test.YticdfijblcbbbaaFreshM10
import Derived.Test.YticdfijblcbbbaaAppSrc
import Derived.Test.YticdfijblcbbbaaLists
import Derived.Test.YticdfijblcbbbaaPoolSt10
namespace Go.Proofs.Yticdfijblcbbbaa
open Go.RowKit

/-- The pool, and three rows, apart from each other. -/
structure FR (w1 w : World) (B : Nat) (pv fv vi vs vg : Value) (x : Po ByteArray) (I S : List Int) (G : List Bool) : Prop where
  po : PsIs w w1.heap.size B pv fv x
  oi : w.ownsRow w1.heap.size 3 1 vi I.length (I.map numV)
  os : w.ownsRow w1.heap.size 3 1 vs S.length (S.map numV)
  og : w.ownsRow w1.heap.size 4 1 vg G.length (G.map Value.bool)
  sep : ∀ g, vi.ownBlock = some g → vs.ownBlock = some g → False
  api : ∀ g, PsBlk B pv fv g → vi.ownBlock = some g → False
  aps : ∀ g, PsBlk B pv fv g → vs.ownBlock = some g → False
  below : Below w1.heap.size w1 w
  low : w1.heap.size ≤ B
section
variable {w1 w w' : World} {B : Nat} {pv fv vi vs vg pv' fv' : Value} {x x' : Po ByteArray} {I S : List Int} {G : List Bool}
theorem FR.poLow (h : FR w1 w B pv fv vi vs vg x I S G) {k : Nat} (hk : PsBlk B pv fv k) : w1.heap.size ≤ k := by
  rcases hk with rfl | hk | hk
  · exact h.low
  · exact (h.po.row.lt k hk).1
  · exact (h.po.fr.lt k hk).1
theorem FR.apg (h : FR w1 w B pv fv vi vs vg x I S G) (g : Nat) (hp : PsBlk B pv fv g) (hg : vg.ownBlock = some g) : False := by
  obtain ⟨l, _, _, _, hb, _⟩ := own_heap h.og hg
  rcases hp with e | e | e
  · exact blk_ne10 hb h.po.blk (by decide) e
  · exact blk_apart hb h.po.row e (by decide) rfl
  · exact blk_apart hb h.po.fr e (by decide) rfl
theorem FR.sepG (h : FR w1 w B pv fv vi vs vg x I S G) (g : Nat) (hg : vg.ownBlock = some g) : vi.ownBlock ≠ some g ∧ vs.ownBlock ≠ some g := by
  obtain ⟨l, _, _, _, hb, _⟩ := own_heap h.og hg
  exact ⟨fun e => blk_apart hb h.oi e (by decide) rfl, fun e => blk_apart hb h.os e (by decide) rfl⟩
theorem FR.keep (h : FR w1 w B pv fv vi vs vg x I S G) (hb : Below w.heap.size w w') : FR w1 w' B pv fv vi vs vg x I S G :=
  ⟨h.po.below hb, own_only h.oi (Only.of_below hb (fun _ => False)) (fun _ _ => id), own_only h.os (Only.of_below hb (fun _ => False)) (fun _ _ => id), own_only h.og (Only.of_below hb (fun _ => False)) (fun _ _ => id), h.sep, h.api, h.aps, h.below.trans (hb.mono h.below.size), h.low⟩
theorem FR.drewN (h : FR w1 w B pv fv vi vs vg x I S G) (n : Nat) : FR w1 (w.drewN n) B pv fv vi vs vg x I S G := h.keep (below_draws (Below.refl _ _) n)
theorem FR.turnPo (h : FR w1 w B pv fv vi vs vg x I S G) (h1 : PsIs w' w1.heap.size B pv' fv' x') (hn : PsNew w.heap.size B pv fv pv' fv') (ho : Only (PsBlk B pv fv) w w') : FR w1 w' B pv' fv' vi vs vg x' I S G := by
  refine ⟨h1, own_only h.oi ho (fun k hk e => h.api k e hk), own_only h.os ho (fun k hk e => h.aps k e hk), own_only h.og ho (fun k hk e => h.apg k e hk), h.sep, fun g hg e => ?_, fun g hg e => ?_, Only.below_step h.below.size h.below ho (fun i hi e => by have := h.poLow e; omega), h.low⟩
  · rcases hn g hg with h2 | h2
    · exact h.api g h2 e
    · have := (h.oi.lt g e).2; omega
  · rcases hn g hg with h2 | h2
    · exact h.aps g h2 e
    · have := (h.os.lt g e).2; omega
/-- One more number. -/
theorem FR.addI {w5 : World} {ob : Obj} {g' cap' : Nat} {y : Int} (h : FR w1 w B pv fv vi vs vg x I S G) (hgrow : (w.alloc ob).grownBy w5 vi.ownBlock) (hlie : vi.ownBlock = some g' ∨ g' = w.heap.size + 1)
    (hown : w5.ownsRow w1.heap.size 3 1 (.slice (some ⟨g', 0, none⟩) (I.length + 1) cap') (I.length + 1) (I.map numV ++ [numV y])) : FR w1 w5 B pv fv (.slice (some ⟨g', 0, none⟩) (I.length + 1) cap') vs vg x (I ++ [y]) S G := by
  have ho : Only (fun k => vi.ownBlock = some k) w w5 := ((Only.refl _ w).alloc ob).trans (grown_only hgrow)
  have hn : ∀ g, (Value.slice (some ⟨g', 0, none⟩) (I.length + 1) cap').ownBlock = some g → vi.ownBlock = some g ∨ w.heap.size < g := fun g hg => by
    simp only [Value.ownBlock, Option.some.injEq] at hg
    subst hg
    exact hlie.imp id (fun e => by omega)
  refine ⟨h.po.only ho (fun k hk e => h.api k hk e), by simpa using hown, own_only h.os ho (fun k hk e => h.sep k e hk), own_only h.og ho (fun k hk e => (h.sepG k hk).1 e), fun g hg hs => ?_, fun g hp hg => ?_, h.aps, Only.below_step h.below.size h.below ho (fun i hi e => by have := (h.oi.lt i e).1; omega), h.low⟩
  · rcases hn g hg with e | e
    · exact h.sep g e hs
    · have := (h.os.lt g hs).2; omega
  · rcases hn g hg with e | e
    · exact h.api g hp e
    · have := h.po.lt hp; omega
theorem FR.addS {w5 : World} {ob : Obj} {g' cap' : Nat} {y : Int} (h : FR w1 w B pv fv vi vs vg x I S G) (hgrow : (w.alloc ob).grownBy w5 vs.ownBlock) (hlie : vs.ownBlock = some g' ∨ g' = w.heap.size + 1)
    (hown : w5.ownsRow w1.heap.size 3 1 (.slice (some ⟨g', 0, none⟩) (S.length + 1) cap') (S.length + 1) (S.map numV ++ [numV y])) : FR w1 w5 B pv fv vi (.slice (some ⟨g', 0, none⟩) (S.length + 1) cap') vg x I (S ++ [y]) G := by
  have ho : Only (fun k => vs.ownBlock = some k) w w5 := ((Only.refl _ w).alloc ob).trans (grown_only hgrow)
  have hn : ∀ g, (Value.slice (some ⟨g', 0, none⟩) (S.length + 1) cap').ownBlock = some g → vs.ownBlock = some g ∨ w.heap.size < g := fun g hg => by
    simp only [Value.ownBlock, Option.some.injEq] at hg
    subst hg
    exact hlie.imp id (fun e => by omega)
  refine ⟨h.po.only ho (fun k hk e => h.aps k hk e), own_only h.oi ho (fun k hk e => h.sep k hk e), by simpa using hown, own_only h.og ho (fun k hk e => (h.sepG k hk).2 e), fun g hs hg => ?_, h.api, fun g hp hg => ?_, Only.below_step h.below.size h.below ho (fun i hi e => by have := (h.os.lt i e).1; omega), h.low⟩
  · rcases hn g hg with e | e
    · exact h.sep g hs e
    · have := (h.oi.lt g hs).2; omega
  · rcases hn g hg with e | e
    · exact h.aps g hp e
    · have := h.po.lt hp; omega
theorem FR.addG {w5 : World} {ob : Obj} {g' cap' : Nat} {y : Bool} (h : FR w1 w B pv fv vi vs vg x I S G) (hgrow : (w.alloc ob).grownBy w5 vg.ownBlock)
    (hown : w5.ownsRow w1.heap.size 4 1 (.slice (some ⟨g', 0, none⟩) (G.length + 1) cap') (G.length + 1) (G.map Value.bool ++ [.bool y])) : FR w1 w5 B pv fv vi vs (.slice (some ⟨g', 0, none⟩) (G.length + 1) cap') x I S (G ++ [y]) := by
  have ho : Only (fun k => vg.ownBlock = some k) w w5 := ((Only.refl _ w).alloc ob).trans (grown_only hgrow)
  exact ⟨h.po.only ho (fun k hk e => h.apg k hk e), own_only h.oi ho (fun k hk e => (h.sepG k e).1 hk), own_only h.os ho (fun k hk e => (h.sepG k e).2 hk), by simpa using hown, h.sep, h.api, h.aps, Only.below_step h.below.size h.below ho (fun i hi e => by have := (h.og.lt i e).1; omega), h.low⟩
/-- A cell of a row of one's own. -/
theorem own_at {α : Type} {f : α → Value} {e : TypeId} {base : Nat} {v : Value} {L : List α} (h : w.ownsRow base e 1 v L.length (L.map f)) {i : Nat} (hi : i < L.length) : ∃ g cap, v = .slice (some ⟨g, 0, none⟩) L.length cap ∧ w.cell? ⟨g, i, none⟩ = some (f L[i]) ∧ w.frozen? ⟨g, i, none⟩ = false := by
  have hg : ∃ g, v.ownBlock = some g := by
    rcases h.2 with ⟨_, e⟩ | ⟨g, cap, cur, e, _⟩
    · omega
    · exact ⟨g, by rw [e]; rfl⟩
  obtain ⟨g, hg⟩ := hg
  obtain ⟨l, cap, e, _, hb, ht, hle⟩ := own_heap h hg
  refine ⟨g, cap, e, hb.at ?_, hb.frozen i⟩
  have h1 : (L.map f)[i]? = some (f L[i]) := by rw [List.getElem?_map, List.getElem?_eq_getElem hi]; rfl
  rw [← ht, List.getElem?_take] at h1
  split at h1
  · exact h1
  · cases h1
theorem FR.setG {g : Nat} (h : FR w1 w B pv fv vi vs vg x I S G) (hg : vg.ownBlock = some g) (i : Nat) (b : Bool) : FR w1 (w.setCell ⟨g, i, none⟩ (.bool b)) B pv fv vi vs vg x I S (G.set i b) := by
  have ho : Only (· = g) w (w.setCell ⟨g, i, none⟩ (.bool b)) := only_at _ _ _ _
  refine ⟨h.po.only ho (fun k hk e => h.apg k hk (e ▸ hg)), own_only h.oi ho (fun k hk e => (h.sepG k (e ▸ hg)).1 hk), own_only h.os ho (fun k hk e => (h.sepG k (e ▸ hg)).2 hk), ?_, h.sep, h.api, h.aps, Only.below_step h.below.size h.below ho (fun i hi e => by have := (h.og.lt g hg).1; omega), h.low⟩
  rw [List.length_set, List.map_set]
  exact own_set h.og hg (.bool b)
end
abbrev FS (w1 w : World) (B : Nat) (pv fv vi vs vg : Value) (x : Po ByteArray) (R : List Rc) : Prop := FR w1 w B pv fv vi vs vg x (R.map (·.id)) (R.map fun r => (r.st : Int)) (R.map (·.g))
/-- The byte that all places have. -/
def tx : ByteArray := ⟨#[120]⟩
/-- Where the loop stands. -/
structure FSt (w1 w : World) (B : Nat) (pv fv vi vs vg : Value) (x : Po ByteArray) (R : List Rc) (lim k : Nat) : Prop where
  fs : FS w1 w B pv fv vi vs vg x R
  z : FZ tx x R
  fl : x.F.length ≤ k
  sl : ∀ p ∈ x.M, p.st ≤ k
  rl : R.length ≤ k
  li : x.lim = lim

end Go.Proofs.Yticdfijblcbbbaa
