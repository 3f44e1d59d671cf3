/- Layer 7 (package hist): inTime. -/
import Derived.Test.YthngehpmoiojfaaCallsIn7
import Derived.Test.YthngehpmoiojfaaLog7
import Derived.Deep.WholeRow
import Derived.Maps.OwnOps
namespace Go.Proofs.Ythngehpmoiojfaa
open Go.RowKit

/-- A struct is stored into a block that was just made. -/
theorem wpList_store_new {P : Program} {ops : Array Oper} {rest : List Oper} {op : Oper} {a : Act} {w : World} {Q : Exit → Act → World → Prop} (hgd : op.guard = none) (ty : TypeId) (x y : Operand) (ho : op.op = .store ty x y) (c c' : Array Value)
    (hx : a.eval x = .pointer (some ⟨w.heap.size, 0, none⟩)) (hy : a.eval y = .agg c') (hi : (P.info? ty).map (·.size) = some c'.size) (hs : c.size = c'.size) (h1 : c'.all (·.oneCell') = true)
    (h : wpList P ops Q rest (a.put op.dst undef) (w.alloc (.cells c' ty))) : wpList P ops Q (op :: rest) a (w.alloc (.cells c ty)) :=
  wpList_plain hgd fun _ hK => by
    have hr := run_storeAt_new (P := P) w ty c c' hi hs h1
    unfold Oper.wp execOp
    simp only [ho, hx, hy, hr, Sem.run_bind, Result.andThen_ok, Sem.run_pure]
    exact hK _ _ h
theorem wpList_store_newN {P : Program} {ops : Array Oper} {rest : List Oper} {op : Oper} {a : Act} {w : World} {Q : Exit → Act → World → Prop} (hgd : op.guard = none) (ty : TypeId) (x y : Operand) (ho : op.op = .store ty x y) (n : Nat) (hn : w.heap.size = n) (c c' : Array Value)
    (hx : a.eval x = .pointer (some ⟨n, 0, none⟩)) (hy : a.eval y = .agg c') (hi : (P.info? ty).map (·.size) = some c'.size) (hs : c.size = c'.size) (h1 : c'.all (·.oneCell') = true)
    (h : wpList P ops Q rest (a.put op.dst undef) (w.alloc (.cells c' ty))) : wpList P ops Q (op :: rest) a (w.alloc (.cells c ty)) := by
  subst hn
  exact wpList_store_new hgd ty x y ho c c' hx hy hi hs h1 h
theorem callA_one (c : CallZ) : (callV c).toArray.all (·.oneCell') = true := by simp [callV, Value.oneCell']

/-- Rising, each behind its beginning, no moment twice. -/
def timeB : List CallZ → Int → List Int → Bool
  | [], _, _ => true
  | c :: r, last, S => if c.fr ≤ last ∨ c.to ≤ c.fr ∨ c.fr ∈ S ∨ c.to ∈ S then false else timeB r c.fr (c.to :: S)
theorem timeB_cons (c : CallZ) (r : List CallZ) (last : Int) (S : List Int) : timeB (c :: r) last S = if c.fr ≤ last ∨ c.to ≤ c.fr ∨ c.fr ∈ S ∨ c.to ∈ S then false else timeB r c.fr (c.to :: S) := rfl
def WfCalls (L : List CallZ) : Prop := ∀ c ∈ L, wf64 c.th ∧ wf64 c.pl ∧ wf64 c.fr ∧ wf64 c.to
theorem zeroBool (w : World) : (zeroValue 4).run Try.prog w = .ok (.bool false) w := by kernel_rfl
/-- A set of numbers, as a map. -/
def SetIs (w : World) (b n : Nat) (S : List Int) : Prop := ∃ M, MapF Try.prog 3 w b n M ∧ ∀ x, wf64 x → (M x).getD (.bool false) = .bool (decide (x ∈ S))
theorem SetIs.only {w w' : World} {b n : Nat} {S : List Int} {T : Nat → Prop} (h : SetIs w b n S) (ho : Only T w w') (hb : ¬ T b) : SetIs w' b n S := by
  obtain ⟨M, hM, hS⟩ := h
  exact ⟨M, hM.only ho hb, hS⟩
theorem SetIs.lt {w : World} {b n : Nat} {S : List Int} (h : SetIs w b n S) : b < w.heap.size := by obtain ⟨M, hM, _⟩ := h; exact hM.lt

structure TStand (w wr : World) (b k : Nat) (L : List CallZ) (last : Int) (S : List Int) : Prop where
  set : SetIs wr b k S
  eq : timeB L 0 [] = timeB (L.drop k) last S
  low : Below w.heap.size w wr
end Go.Proofs.Ythngehpmoiojfaa
