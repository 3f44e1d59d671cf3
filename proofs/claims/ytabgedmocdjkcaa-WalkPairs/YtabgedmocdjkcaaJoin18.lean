/- Which blocks of memory a call has turned. Whatever program. · A block of memory, by the list of its cells. Whatever program. · A struct that is loaded under a guard. -/
import Derived.Below
import Derived.Deep.Draws
import Derived.WalkKit
import Derived.Lib.Hide
import Derived.Test.YtabgedmocdjkcaaProg
import Derived.BigGuard
import Derived.BigCall
import Derived.Deep.MidRow
namespace Go.Proofs.Ytabgedmocdjkcaa
open Go.RowKit

/-- Of what lay, only blocks of S have turned. -/
structure Only (S : Nat → Prop) (w w' : World) : Prop where
  os : w'.os = w.os
  tape : w'.tape = w.tape
  output : w'.output = w.output
  size : w.heap.size ≤ w'.heap.size
  block : ∀ k, k < w.heap.size → ¬ S k → w'.heap[k]? = w.heap[k]?
theorem Only.refl (S : Nat → Prop) (w : World) : Only S w w := ⟨rfl, rfl, rfl, Nat.le_refl _, fun _ _ _ => rfl⟩
theorem Only.trans {S : Nat → Prop} {a b c : World} (h : Only S a b) (k : Only S b c) : Only S a c :=
  ⟨k.os.trans h.os, k.tape.trans h.tape, k.output.trans h.output, Nat.le_trans h.size k.size, fun i hi hs => (k.block i (Nat.lt_of_lt_of_le hi h.size) hs).trans (h.block i hi hs)⟩
theorem Only.mono {S T : Nat → Prop} {a b : World} (h : Only S a b) (hST : ∀ k, k < a.heap.size → S k → T k) : Only T a b :=
  ⟨h.os, h.tape, h.output, h.size, fun i hi hs => h.block i hi fun h' => hs (hST i hi h')⟩
/-- What is new may be turned. -/
theorem Only.step {S T : Nat → Prop} {a b c : World} (h : Only S a b) (k : Only T b c) (hT : ∀ i, i < a.heap.size → T i → S i) : Only S a c :=
  ⟨k.os.trans h.os, k.tape.trans h.tape, k.output.trans h.output, Nat.le_trans h.size k.size, fun i hi hs => (k.block i (Nat.lt_of_lt_of_le hi h.size) fun h' => hs (hT i hi h')).trans (h.block i hi hs)⟩
theorem Only.of_below {w w' : World} (h : Below w.heap.size w w') (S : Nat → Prop) : Only S w w' := ⟨h.os, h.tape, h.output, h.size, fun k hk _ => h.block k hk⟩
theorem Only.below {S : Nat → Prop} {w w' : World} (h : Only S w w') {n : Nat} (hn : n ≤ w.heap.size) (hS : ∀ k, k < n → ¬ S k) : Below n w w' := ⟨h.os, h.tape, h.output, h.size, fun k hk => h.block k (Nat.lt_of_lt_of_le hk hn) (hS k hk)⟩
theorem Only.drewN {S : Nat → Prop} {a w : World} (h : Only S a w) (n : Nat) : Only S a (w.drewN n) := ⟨h.os, h.tape, h.output, h.size, h.block⟩
theorem Only.alloc {S : Nat → Prop} {a w : World} (h : Only S a w) (o : Obj) : Only S a (w.alloc o) :=
  ⟨h.os, h.tape, h.output, Nat.le_trans h.size (by simp), fun i hi hs => (Below.heap_alloc w o i (Nat.lt_of_lt_of_le hi h.size)).trans (h.block i hi hs)⟩
theorem Only.setCell {S : Nat → Prop} {a w : World} (h : Only S a w) {p : Addr} (hp : S p.block ∨ a.heap.size ≤ p.block) (u : Value) : Only S a (w.setCell p u) :=
  ⟨h.os, h.tape, h.output, by simpa [World.setCell] using h.size, fun i hi hs => (Below.heap_setCell w p u i (by
    rintro rfl
    rcases hp with hp | hp
    · exact hs hp
    · omega)).trans (h.block i hi hs)⟩
/-- Below what it was, where S lies above. -/
theorem Only.below_step {S : Nat → Prop} {a b c : World} {n : Nat} (hn : n ≤ b.heap.size) (h : Below n a b) (k : Only S b c) (hS : ∀ i, i < n → ¬ S i) : Below n a c := h.trans (k.below hn hS)
theorem heap_set2 {W : World} {O : Nat} {x y : Value} {t : TypeId} (h : W.heap[O]? = some (.cells #[x, y] t (0, 0))) (u : Value) :
    (W.setCell ⟨O, 0, none⟩ u).heap[O]? = some (.cells #[u, y] t (0, 0)) ∧ (W.setCell ⟨O, 1, none⟩ u).heap[O]? = some (.cells #[x, u] t (0, 0)) := by
  obtain ⟨hlt, hk⟩ := Array.getElem?_eq_some_iff.1 h
  constructor
  · show (W.heap.modify O _)[O]? = _
    rw [Array.getElem?_eq_getElem (by rw [Array.size_modify]; exact hlt), Array.getElem_modify_self, hk]
    rfl
  · show (W.heap.modify O _)[O]? = _
    rw [Array.getElem?_eq_getElem (by rw [Array.size_modify]; exact hlt), Array.getElem_modify_self, hk]
    rfl

end Go.Proofs.Ytabgedmocdjkcaa

namespace Go.Proofs.Ytabgedmocdjkcaa
open Go.RowKit

/-- A block of cells that nothing keeps from being written. -/
def Blk (t : TypeId) (W : World) (B : Nat) (l : List Value) : Prop := W.heap[B]? = some (.cells l.toArray t (0, 0))
theorem Blk.lt {t : TypeId} {W : World} {B : Nat} {l : List Value} (h : Blk t W B l) : B < W.heap.size := (Array.getElem?_eq_some_iff.1 h).1
theorem Blk.cell {t : TypeId} {W : World} {B : Nat} {l : List Value} (h : Blk t W B l) (o : Nat) : W.cell? ⟨B, o, none⟩ = l[o]? := by
  have h' : W.heap[B]? = _ := h
  simp [World.cell?, h']
theorem Blk.at {t : TypeId} {W : World} {B : Nat} {l : List Value} (h : Blk t W B l) {o : Nat} {v : Value} (hv : l[o]? = some v) : W.cell? ⟨B, o, none⟩ = some v := (h.cell o).trans hv
theorem Blk.frozen {t : TypeId} {W : World} {B : Nat} {l : List Value} (h : Blk t W B l) (o : Nat) : W.frozen? ⟨B, o, none⟩ = false := by
  have h' : W.heap[B]? = _ := h
  simp [World.frozen?, h']
theorem Blk.set {t : TypeId} {W : World} {B : Nat} {l : List Value} (h : Blk t W B l) (o : Nat) (u : Value) : Blk t (W.setCell ⟨B, o, none⟩ u) B (l.set o u) := by
  obtain ⟨hlt, hk⟩ := Array.getElem?_eq_some_iff.1 h
  show (W.heap.modify B _)[B]? = _
  rw [Array.getElem?_eq_getElem (by rw [Array.size_modify]; exact hlt), Array.getElem_modify_self, hk]
  simp
theorem Blk.only {t : TypeId} {W W' : World} {B : Nat} {l : List Value} {S : Nat → Prop} (h : Blk t W B l) (hS : Only S W W') (hB : ¬ S B) : Blk t W' B l := (hS.block B h.lt hB).trans h
theorem Blk.below {t : TypeId} {W W' : World} {B n : Nat} {l : List Value} (h : Blk t W B l) (hb : Below n W W') (hB : B < n) : Blk t W' B l := (hb.block B hB).trans h
theorem Blk.drewN {t : TypeId} {W : World} {B : Nat} {l : List Value} (h : Blk t W B l) (n : Nat) : Blk t (W.drewN n) B l := h
theorem Blk.new {t : TypeId} {W : World} {l : List Value} : Blk t (W.alloc (.cells l.toArray t)) W.heap.size l := by
  show (W.heap.push _)[W.heap.size]? = _
  simp
theorem Blk.alloc {t : TypeId} {W : World} {B : Nat} {l : List Value} (h : Blk t W B l) (o : Obj) : Blk t (W.alloc o) B l := h.only ((Only.refl (fun _ => False) _).alloc o) (fun h => h)
theorem Blk.setOther {t : TypeId} {W : World} {B C : Nat} {l : List Value} (h : Blk t W B l) (hne : B ≠ C) (o : Nat) (u : Value) : Blk t (W.setCell ⟨C, o, none⟩ u) B l :=
  h.only ((Only.refl (· = C) _).setCell (p := ⟨C, o, none⟩) (.inl rfl) u) hne

/-- Only places of S have turned in a row. -/
structure But (S : Nat → Prop) (l l' : List Value) : Prop where
  len : l'.length = l.length
  at_ : ∀ k, ¬ S k → l'[k]? = l[k]?
theorem But.refl (S : Nat → Prop) (l : List Value) : But S l l := ⟨rfl, fun _ _ => rfl⟩
theorem But.trans {S : Nat → Prop} {a b c : List Value} (h : But S a b) (k : But S b c) : But S a c := ⟨k.len.trans h.len, fun i hi => (k.at_ i hi).trans (h.at_ i hi)⟩
theorem But.set {S : Nat → Prop} {a b : List Value} (h : But S a b) {o : Nat} (ho : S o) (u : Value) : But S a (b.set o u) := ⟨by simp [h.len], fun i hi => by
  rw [List.getElem?_set_ne (by rintro rfl; exact hi ho)]
  exact h.at_ i hi⟩
theorem set_eq {l : List Value} {o : Nat} {v : Value} (u : Value) (h : l[o]? = some v) : (l.set o u)[o]? = some u := by
  rw [List.getElem?_set_self (List.getElem?_eq_some_iff.1 h).1]
theorem set_ne {l : List Value} {o k : Nat} (u : Value) (hne : o ≠ k) {v : Value} (h : l[k]? = some v) : (l.set o u)[k]? = some v := by
  rw [List.getElem?_set_ne hne]; exact h

/-- A row of records, each of c cells. -/
structure RecRow {α : Type} (c : Nat) (f : α → List Value) (l : List Value) (L : List α) : Prop where
  len : l.length = L.length * c
  at_ : ∀ (i : Nat) x, L[i]? = some x → ∀ (j : Nat) v, (f x)[j]? = some v → l[i * c + j]? = some v
theorem place_inj {c i j i' j' : Nat} (hj : j < c) (hj' : j' < c) (h : i * c + j = i' * c + j') : i = i' ∧ j = j' := by
  have h1 : (i * c + j) / c = i := by rw [Nat.mul_comm, Nat.mul_add_div (by omega), Nat.div_eq_of_lt hj]; rfl
  have h2 : (i' * c + j') / c = i' := by rw [Nat.mul_comm, Nat.mul_add_div (by omega), Nat.div_eq_of_lt hj']; rfl
  rw [h] at h1
  have hi : i = i' := h1.symm.trans h2
  subst hi
  exact ⟨rfl, by omega⟩
/-- One record has turned, and no other one. -/
theorem RecRow.turn {α : Type} {c : Nat} {f : α → List Value} {l l' : List Value} {L : List α} (h : RecRow c f l L) (hf : ∀ x, (f x).length = c) {i : Nat} {y : α} (hb : But (fun k => i * c ≤ k ∧ k < i * c + c) l l')
    (hy : ∀ (j : Nat) v, (f y)[j]? = some v → l'[i * c + j]? = some v) : RecRow c f l' (L.set i y) := by
  refine ⟨by rw [hb.len, h.len, List.length_set], fun k x hx j v hv => ?_⟩
  have hj : j < c := by rw [← hf x]; exact (List.getElem?_eq_some_iff.1 hv).1
  by_cases e : i = k
  · subst e
    rw [List.getElem?_set_self (by have := (List.getElem?_eq_some_iff.1 hx).1; simpa using this)] at hx
    cases hx
    exact hy j v hv
  · rw [List.getElem?_set_ne e] at hx
    have hn : ¬ (i * c ≤ k * c + j ∧ k * c + j < i * c + c) := fun ⟨h1, h2⟩ =>
      e (place_inj hj (by omega) (show k * c + j = i * c + (k * c + j - i * c) by omega)).1.symm
    rw [hb.at_ _ hn]
    exact h.at_ k x hx j v hv

end Go.Proofs.Ytabgedmocdjkcaa

namespace Go.Proofs.Ytabgedmocdjkcaa
open Go.RowKit

/-- A struct is loaded, whatever guards the load. -/
theorem wpList_load_g {P : Program} {ops : Array Oper} {rest : List Oper} {op : Oper} {a : Act} {w : World} {Q : Exit → Act → World → Prop} (hw : Region.wanted op (yielded ops a.tmps) = true) (ty : TypeId) (x : Operand) (ho : op.op = .load ty x)
    (b o : Nat) (hx : a.eval x = .pointer (some ⟨b, o, none⟩)) (cs : List Value) (d : TypeDesc) (hc : w.rangeAt b o cs)
    (hu : P.underlying ty = some d) (hd : d.isRow = true) (hi : (P.info? ty).map (·.size) = some cs.length)
    (h : wpList P ops Q rest (a.put op.dst (.agg cs.toArray)) w) : wpList P ops Q (op :: rest) a w :=
  BigFrame.wpList_want hw fun _ hK => wp_load_mid ty x ho b o hx cs d hc hu hd hi (hK _ _ h)

end Go.Proofs.Ytabgedmocdjkcaa
