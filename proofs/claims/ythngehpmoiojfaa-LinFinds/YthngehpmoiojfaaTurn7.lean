/- Layer 7 (package hist): inTurn. -/
import Derived.Test.YthngehpmoiojfaaTime7
import Derived.BigGuard
import Derived.BigCall
namespace Go.Proofs.Ythngehpmoiojfaa
open Go.RowKit

/-- A struct is loaded, whatever guards the load. -/
theorem wpList_load_g {P : Program} {ops : Array Oper} {rest : List Oper} {op : Oper} {a : Act} {w : World} {Q : Exit → Act → World → Prop} (hw : Region.wanted op (yielded ops a.tmps) = true) (ty : TypeId) (x : Operand) (ho : op.op = .load ty x)
    (b o : Nat) (hx : a.eval x = .pointer (some ⟨b, o, none⟩)) (cs : List Value) (d : TypeDesc) (hc : w.rangeAt b o cs)
    (hu : P.underlying ty = some d) (hd : d.isRow = true) (hi : (P.info? ty).map (·.size) = some cs.length)
    (h : wpList P ops Q rest (a.put op.dst (.agg cs.toArray)) w) : wpList P ops Q (op :: rest) a w :=
  BigFrame.wpList_want hw fun _ hK => wp_load_mid ty x ho b o hx cs d hc hu hd hi (hK _ _ h)
theorem blk_range {t : TypeId} {w : World} {B : Nat} {l : List Value} (h : Blk t w B l) : w.rangeAt B 0 l := fun j v hv => by rw [Nat.zero_add]; exact h.at hv

def turnOk (c : CallZ) : Option CallZ → Bool
  | none => c.pl == 0
  | some b => c.pl == wrap64 (b.pl + 1) && decide (b.to < c.fr)
def updN (N : Int → Option CallZ) (x : Int) (c : CallZ) : Int → Option CallZ := fun y => if y = x then some c else N y
/-- Each thread's places rise by one, each of its calls is ahead of its next one. -/
def turnB : List CallZ → (Int → Option CallZ) → Bool
  | [], _ => true
  | c :: r, N => if turnOk c (N c.th) = true then turnB r (updN N c.th c) else false
theorem turnB_cons (c : CallZ) (r : List CallZ) (N : Int → Option CallZ) : turnB (c :: r) N = if turnOk c (N c.th) = true then turnB r (updN N c.th c) else false := rfl
theorem zeroCall (w : World) : (zeroValue 34).run Try.prog w = .ok (callA default) w := by kernel_rfl
/-- The last call of each thread, as a map. -/
def LastIs (w : World) (b n : Nat) (N : Int → Option CallZ) : Prop := ∃ M, MapF Try.prog 3 w b n M ∧ ∀ x, wf64 x → M x = (N x).map callA
theorem LastIs.only {w w' : World} {b n : Nat} {N : Int → Option CallZ} {T : Nat → Prop} (h : LastIs w b n N) (ho : Only T w w') (hb : ¬ T b) : LastIs w' b n N := by
  obtain ⟨M, hM, hS⟩ := h
  exact ⟨M, hM.only ho hb, hS⟩
theorem LastIs.lt {w : World} {b n : Nat} {N : Int → Option CallZ} (h : LastIs w b n N) : b < w.heap.size := by obtain ⟨M, hM, _⟩ := h; exact hM.lt
structure UStand (w wr : World) (b k : Nat) (L : List CallZ) (N : Int → Option CallZ) : Prop where
  last : LastIs wr b k N
  eq : turnB L (fun _ => none) = turnB (L.drop k) N
  low : Below w.heap.size w wr
/-- A round's two boxes. -/
structure UBox (w wr w2 : World) (b k : Nat) (N : Int → Option CallZ) (x y : CallZ) : Prop where
  last : LastIs w2 b k N
  low : Below w.heap.size w w2
  bx : Blk 34 w2 wr.heap.size (callV x)
  by_ : Blk 34 w2 (wr.heap.size + 1) (callV y)
  sz : w2.heap.size = wr.heap.size + 2
theorem UStand.box {w wr : World} {b k : Nat} {L : List CallZ} {N : Int → Option CallZ} (h : UStand w wr b k L N) (x y : CallZ) : UBox w wr ((wr.alloc (.cells (callV x).toArray 34)).alloc (.cells (callV y).toArray 34)) b k N x y := by
  have o1 : Only (fun _ => False) wr ((wr.alloc (.cells (callV x).toArray 34)).alloc (.cells (callV y).toArray 34)) := ((Only.refl _ _).alloc _).alloc _
  have e := (Blk.new (W := wr.alloc (.cells (callV x).toArray 34)) (t := 34) (l := callV y))
  rw [show (wr.alloc (.cells (callV x).toArray 34)).heap.size = wr.heap.size + 1 by simp] at e
  exact ⟨h.last.only o1 id, (h.low.alloc h.low.size _).alloc (Nat.le_trans h.low.size (by simp)) _, (Blk.new (l := callV x)).alloc _, e, by simp⟩
end Go.Proofs.Ythngehpmoiojfaa
