/- Layer 8: bellmanref08.Check: what it has in memory. · A slice of numbers by its elements alone (one that came in, too). -/
import Derived.Test.YthngehpmoiojfaaFind8
import Derived.Test.YthngehpmoiojfaaMade
import Derived.Test.YthngehpmoiojfaaNums
import Derived.Test.YthngehpmoiojfaaLists
namespace Go.Proofs.Ythngehpmoiojfaa
open Go.RowKit

theorem infoBool8 : (Try.prog.info? 4).map (fun i => (i.zero, i.size, i.bytes)) = some (some (.bool false), 1, 1) := by kernel_rfl
theorem made_bools8 (n : Nat) : madeCells (Value.bool false).cells (n * 1) = ((List.replicate n false).map Value.bool).toArray := by
  apply Array.ext
  · simp [madeCells]
  · intro i h1 h2
    simp [madeCells, Value.cells, Nat.mod_one]
/-- What the walk has in memory: the state at X, what is done at G. -/
structure ChIs (w wr : World) (X G : Nat) (L : List CallZ) (D : List Bool) (s : StZ) (k : Nat) : Prop where
  st : Blk 40 wr X (stV s)
  dn : Blk 4 wr G (D.map Value.bool)
  dl : D.length = L.length
  lo : -(100 * (k : Int)) ≤ s.n
  hi : s.n ≤ 100 * (k : Int)
  below : Below w.heap.size w wr
  lows : w.heap.size ≤ X ∧ w.heap.size ≤ G
section
variable {w wr w' : World} {X G : Nat} {L : List CallZ} {D : List Bool} {s : StZ} {k : Nat}
theorem ChIs.keep (h : ChIs w wr X G L D s k) (hb : Below wr.heap.size wr w') : ChIs w w' X G L D s k :=
  ⟨h.st.below hb h.st.lt, h.dn.below hb h.dn.lt, h.dl, h.lo, h.hi, h.below.trans (hb.mono h.below.size), h.lows⟩
theorem ChIs.at (h : ChIs w wr X G L D s k) {i : Nat} (hi : i < L.length) : wr.cell? ⟨G, i, none⟩ = some (.bool (doneB D i)) := by
  have hi' : i < D.length := by rw [h.dl]; exact hi
  refine h.dn.at ?_
  rw [List.getElem?_map, List.getElem?_eq_getElem hi', doneB_at hi']; rfl
theorem ChIs.ne (h : ChIs w wr X G L D s k) : X ≠ G := fun e => by
  have h1 : wr.heap[X]? = _ := h.st
  have h2 : wr.heap[G]? = _ := h.dn
  rw [e, h2] at h1
  injection h1 with h1
  injection h1 with _ h1
  exact absurd h1 (by decide)
end
theorem doZ_n (s : StZ) (x : OpZ) : s.n - 99 ≤ (doZ s x).1.n ∧ (doZ s x).1.n ≤ s.n + 99 := by
  have := tmod_le x.s
  unfold doZ
  split
  · simp only; omega
  split
  · simp only; omega
  split
  · split <;> simp only <;> omega
  · simp only; omega
theorem range_part {w : World} {b o k : Nat} {l m : List Value} (h : w.rangeAt b o l) (hm : ∀ j v, m[j]? = some v → l[k + j]? = some v) : w.rangeAt b (o + k) m := fun j v hv => by
  have := h (k + j) v (hm j v hv)
  rwa [← Nat.add_assoc] at this
/-- Amid a round: the boxes that are there already. -/
structure RM (w wr W : World) (X G : Nat) (L : List CallZ) (D : List Bool) (s : StZ) (k : Nat) (p q : Option Nat) : Prop where
  ch : ChIs w W X G L D s k
  up : wr.heap.size ≤ W.heap.size
  a10 : ∀ x, p = some x → Blk 40 W x [.int .i64 0, .string ⟨#[]⟩] ∧ wr.heap.size ≤ x
  a11 : ∀ x, q = some x → Blk 32 W x [.int .i64 0, .int .i64 0, .int .i64 0, .string ⟨#[]⟩, .string ⟨#[]⟩, .bool false] ∧ wr.heap.size ≤ x
/-- Behind it: the next state, the answer. -/
structure RMid (w wr W : World) (X G : Nat) (L : List CallZ) (D : List Bool) (s : StZ) (k p q : Nat) (s' : StZ) (a' : AnZ) : Prop where
  ch : ChIs w W X G L D s k
  b10 : Blk 40 W p (stV s')
  b11 : Blk 32 W q (anV a')
  l10 : wr.heap.size ≤ p
  l11 : wr.heap.size ≤ q
section
variable {w wr W W' : World} {X G : Nat} {L : List CallZ} {D : List Bool} {s : StZ} {k : Nat} {p q : Option Nat}
theorem RM.start (h : ChIs w wr X G L D s k) : RM w wr wr X G L D s k none none := ⟨h, Nat.le_refl _, fun _ h => (by cases h), fun _ h => (by cases h)⟩
theorem RM.call (h : RM w wr W X G L D s k p q) (hb : Below W.heap.size W W') : RM w wr W' X G L D s k p q :=
  ⟨h.ch.keep hb, Nat.le_trans h.up hb.size, fun x hx => ⟨(h.a10 x hx).1.below hb (h.a10 x hx).1.lt, (h.a10 x hx).2⟩, fun x hx => ⟨(h.a11 x hx).1.below hb (h.a11 x hx).1.lt, (h.a11 x hx).2⟩⟩
theorem RM.drew (h : RM w wr W X G L D s k p q) : RM w wr W.drew X G L D s k p q := h.call (below_draws (Below.refl _ _) 1)
theorem RM.new10 (h : RM w wr W X G L D s k none q) : RM w wr (W.alloc (.cells #[.int .i64 0, .string ⟨#[]⟩] 40)) X G L D s k (some W.heap.size) q := by
  have h1 := h.call ((Below.refl _ _).alloc (Nat.le_refl _) (.cells #[.int .i64 0, .string ⟨#[]⟩] 40))
  refine ⟨h1.ch, h1.up, fun x hx => ?_, h1.a11⟩
  cases hx
  exact ⟨Blk.new (l := [.int .i64 0, .string ⟨#[]⟩]), h.up⟩
theorem RM.new11 (h : RM w wr W X G L D s k p none) : RM w wr (W.alloc (.cells #[.int .i64 0, .int .i64 0, .int .i64 0, .string ⟨#[]⟩, .string ⟨#[]⟩, .bool false] 32)) X G L D s k p (some W.heap.size) := by
  have h1 := h.call ((Below.refl _ _).alloc (Nat.le_refl _) (.cells #[.int .i64 0, .int .i64 0, .int .i64 0, .string ⟨#[]⟩, .string ⟨#[]⟩, .bool false] 32))
  refine ⟨h1.ch, h1.up, h1.a10, fun x hx => ?_⟩
  cases hx
  exact ⟨Blk.new (l := [.int .i64 0, .int .i64 0, .int .i64 0, .string ⟨#[]⟩, .string ⟨#[]⟩, .bool false]), h.up⟩
theorem RM.there10 {x : Nat} (h : RM w wr W X G L D s k (some x) q) (s' : StZ) : W.there x 0 (stV s').toArray.size := blk_there (h.a10 x rfl).1 (by simp [stV])
theorem ChIs.other (h : ChIs w W X G L D s k) (hx : X < wr.heap.size) (hg : G < wr.heap.size) (hw : w.heap.size ≤ wr.heap.size) {x : Nat} (hl : wr.heap.size ≤ x) (ho : Only (· = x) W W') : ChIs w W' X G L D s k :=
  ⟨h.st.only ho (by omega), h.dn.only ho (by omega), h.dl, h.lo, h.hi, Only.below_step h.below.size h.below ho (fun i hi e => by omega), h.lows⟩
/-- One box written. -/
structure RO (w wr W : World) (X G : Nat) (L : List CallZ) (D : List Bool) (s : StZ) (k p q : Nat) (s' : StZ) : Prop where
  ch : ChIs w W X G L D s k
  b10 : Blk 40 W p (stV s')
  b11 : Blk 32 W q [.int .i64 0, .int .i64 0, .int .i64 0, .string ⟨#[]⟩, .string ⟨#[]⟩, .bool false]
  l10 : wr.heap.size ≤ p
  l11 : wr.heap.size ≤ q
theorem blkS_ne {w : World} {B B' : Nat} {l l' : List Value} (h : Blk 40 w B l) (h' : Blk 32 w B' l') : B ≠ B' := by
  rintro rfl
  have h1 : w.heap[B]? = _ := h
  rw [show w.heap[B]? = _ from h'] at h1
  injection h1 with h1
  injection h1 with _ h1
  exact absurd h1 (by decide)
theorem RM.put10 {x y : Nat} (h : RM w wr W X G L D s k (some x) (some y)) (hc : ChIs w wr X G L D s k) (s' : StZ) : RO w wr (W.setCells x 0 (stV s').toArray.toList) X G L D s k x y s' := by
  obtain ⟨b, l⟩ := h.a10 x rfl
  obtain ⟨b', l'⟩ := h.a11 y rfl
  obtain ⟨hb, ho⟩ := blk_wrote (l' := stV s') (by simp [stV]) b rfl
  exact ⟨h.ch.other hc.st.lt hc.dn.lt hc.below.size l ho, hb, b'.only ho (blkS_ne b b').symm, l, l'⟩
theorem RO.there11 {x y : Nat} {s' : StZ} (h : RO w wr W X G L D s k x y s') (a' : AnZ) : W.there y 0 (anV a').toArray.size := blk_there h.b11 (by simp [anV])
theorem RO.put11 {x y : Nat} {s' : StZ} (h : RO w wr W X G L D s k x y s') (hc : ChIs w wr X G L D s k) (a' : AnZ) : RMid w wr (W.setCells y 0 (anV a').toArray.toList) X G L D s k x y s' a' := by
  obtain ⟨hb, ho⟩ := blk_wrote (l' := anV a') (by simp [anV]) h.b11 rfl
  exact ⟨h.ch.other hc.st.lt hc.dn.lt hc.below.size h.l11 ho, h.b10.only ho (blkS_ne h.b10 h.b11), hb, h.l10, h.l11⟩
end
theorem ChIs.next {w W W' : World} {X G : Nat} {L : List CallZ} {D : List Bool} {s s' : StZ} {k : Nat} (h : ChIs w W X G L D s k) (hB : Blk 40 W' X (stV s')) (ho : Only (· = X) W W') (h1 : s.n - 99 ≤ s'.n) (h2 : s'.n ≤ s.n + 99) : ChIs w W' X G L D s' (k + 1) := by
  have hlo := h.lo
  have hhi := h.hi
  have hl := h.lows
  exact ⟨hB, h.dn.only ho h.ne.symm, h.dl, by omega, by omega, Only.below_step h.below.size h.below ho (fun i hi e => by omega), h.lows⟩
theorem ChIs.mark {w W : World} {X G : Nat} {L : List CallZ} {D : List Bool} {s : StZ} {k : Nat} (h : ChIs w W X G L D s k) (i : Nat) : ChIs w (W.setCell ⟨G, i, none⟩ (.bool true)) X G L (D.set i true) s k := by
  have ho : Only (· = G) W (W.setCell ⟨G, i, none⟩ (.bool true)) := only_cell _ _ _ _
  have hl := h.lows
  refine ⟨h.st.only ho h.ne, ?_, by simpa using h.dl, h.lo, h.hi, Only.below_step h.below.size h.below ho (fun i hi e => by omega), h.lows⟩
  rw [List.map_set]
  exact h.dn.set i _
theorem RMid.drew {w wr W : World} {X G : Nat} {L : List CallZ} {D : List Bool} {s : StZ} {k p q : Nat} {s' : StZ} {a' : AnZ} (h : RMid w wr W X G L D s k p q s' a') : RMid w wr W.drew X G L D s k p q s' a' :=
  ⟨h.ch.keep (below_draws (Below.refl _ _) 1), h.b10.drewN 1, h.b11.drewN 1, h.l10, h.l11⟩
theorem ch_start {w w' : World} {L : List CallZ} {Z : Array Value} (e : (w.alloc (.cells (stV st0).toArray 40)).alloc (.cells Z 4) = w') (hZ : Z.toList = (List.replicate L.length false).map Value.bool) : ChIs w w' w.heap.size (w.heap.size + 1) L (List.replicate L.length false) st0 0 := by
  refine ⟨?_, ?_, List.length_replicate, by simp [st0], by simp [st0], ?_, Nat.le_refl _, by omega⟩
  · rw [← e]; exact (Blk.new (l := stV st0)).alloc _
  · rw [← e, ← hZ]
    have := Blk.new (W := w.alloc (.cells (stV st0).toArray 40)) (t := 4) (l := Z.toList)
    simpa using this
  · rw [← e]; exact ((Below.refl _ _).alloc (Nat.le_refl _) _).alloc (by simp) _
theorem check_cons (L : List CallZ) (D : List Bool) (s : StZ) (i : Int) (r : List Int) : checkZ smallM L D s (i :: r) = (decide (0 ≤ i) && decide (i < (L.length : Int)) && freeTo L D i.toNat L.length && goOk smallM L s i && checkZ smallM L (D.set i.toNat true) (goTo smallM L s i) r) := rfl
theorem free_done {L : List CallZ} {D : List Bool} {i n : Nat} (h : doneB D i = true) : freeTo L D i n = false := by unfold freeTo; simp [h]
end Go.Proofs.Ythngehpmoiojfaa

namespace Go.Proofs.Ythngehpmoiojfaa
open Go.RowKit

def NumsF (W : World) (v : Value) (L : List Int) : Prop := ∃ a c, v = .slice a L.length c ∧ ∀ k, k < L.length → ∃ b off, a = some ⟨b, off, none⟩ ∧ b < W.heap.size ∧ W.cell? ⟨b, off + k, none⟩ = some (.int .i64 (L.getD k 0))
theorem NumsF.below {W W' : World} {v : Value} {L : List Int} (h : NumsF W v L) (hb : Below W.heap.size W W') : NumsF W' v L := by
  obtain ⟨a, c, e, h⟩ := h
  refine ⟨a, c, e, fun k hk => ?_⟩
  obtain ⟨b, off, ha, hlt, hc⟩ := h k hk
  exact ⟨b, off, ha, Nat.lt_of_lt_of_le hlt hb.size, (hb.cell (p := ⟨b, off + k, none⟩) hlt).trans hc⟩
theorem NumsF.of {W : World} {v : Value} {L : List Int} (h : NumsIn W v L) : NumsF W v L := h.form
theorem NumsF.arg {W : World} {a : Option Addr} {c : Nat} {L : List Int} (h : ListIn numV W a L) : NumsF W (.slice a L.length c) L := by
  refine ⟨a, c, rfl, fun k hk => ?_⟩
  obtain ⟨b, off, ha, hlt, hc⟩ := h.at k hk
  exact ⟨b, off, ha, hlt, by rw [getD_at hk]; exact hc⟩

end Go.Proofs.Ythngehpmoiojfaa
