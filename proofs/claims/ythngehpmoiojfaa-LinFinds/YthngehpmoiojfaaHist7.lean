/- Layer 7 (package hist): calls, by their cells; open, Ahead, New. -/
import Derived.Test.YthngehpmoiojfaaProg
import Derived.Test.YthngehpmoiojfaaBlk
import Derived.Test.YthngehpmoiojfaaNums
import Derived.Test.YthngehpmoiojfaaMapF7
import Derived.Lib.Hide
import Derived.WalkKit
import Derived.Deep.MidRow
namespace Go.Proofs.Ythngehpmoiojfaa
open Go.RowKit

/-- An operation, an answer, a call. -/
structure OpZ where
  k : Int
  s : Int
  t : ByteArray
  p : ByteArray
  keep : Bool
instance : Inhabited OpZ := ⟨⟨0, 0, ByteArray.empty, ByteArray.empty, false⟩⟩
structure AnZ where
  e : Int
  a : Int
  b : Int
  t : ByteArray
  p : ByteArray
  kept : Bool
instance : Inhabited AnZ := ⟨⟨0, 0, 0, ByteArray.empty, ByteArray.empty, false⟩⟩
structure CallZ where
  th : Int
  pl : Int
  op : OpZ
  an : AnZ
  fr : Int
  to : Int
instance : Inhabited CallZ := ⟨⟨0, 0, default, default, 0, 0⟩⟩
def opV (o : OpZ) : List Value := [numV o.k, numV o.s, .string o.t, .string o.p, .bool o.keep]
def anV (a : AnZ) : List Value := [numV a.e, numV a.a, numV a.b, .string a.t, .string a.p, .bool a.kept]
def callV (c : CallZ) : List Value :=
  [numV c.th, numV c.pl, numV c.op.k, numV c.op.s, .string c.op.t, .string c.op.p, .bool c.op.keep, numV c.an.e, numV c.an.a, numV c.an.b, .string c.an.t, .string c.an.p, .bool c.an.kept, numV c.fr, numV c.to]
abbrev opA (o : OpZ) : Value := .agg (opV o).toArray
abbrev anA (a : AnZ) : Value := .agg (anV a).toArray
abbrev callA (c : CallZ) : Value := .agg (callV c).toArray
theorem callV_len (c : CallZ) : (callV c).length = 15 := rfl
theorem opV_len (c : OpZ) : (opV c).length = 5 := rfl
theorem anV_len (c : AnZ) : (anV c).length = 6 := rfl

theorem infoCall : (Try.prog.info? 34).map (fun i => (i.zero, i.size, i.bytes)) = some (some (callA default), 15, 152) := by kernel_rfl
theorem infoOp : (Try.prog.info? 27).map (fun i => (i.zero, i.size, i.bytes)) = some (some (opA default), 5, 56) := by kernel_rfl
theorem infoAn : (Try.prog.info? 32).map (fun i => (i.zero, i.size, i.bytes)) = some (some (anA default), 6, 64) := by kernel_rfl

theorem hist_Ahead (c d : CallZ) (w : World) : Calls Try.prog 36 #[callA c, callA d] w fun e w' => e = .returned (.bool (decide (c.to < d.fr))) ∧ w' = (w.alloc (.cells (callV c).toArray 34)).alloc (.cells (callV d).toArray 34) := by
  go_enter Try.func36, Try.ntmps36
  have hc : ((w.alloc (.cells (callV c).toArray 34)).alloc (.cells (callV d).toArray 34)).cell? ⟨w.heap.size, 14, none⟩ = some (numV c.to) := ((Blk.new (l := callV c)).alloc _).at (o := 14) rfl
  have hd : ((w.alloc (.cells (callV c).toArray 34)).alloc (.cells (callV d).toArray 34)).cell? ⟨w.heap.size + 1, 13, none⟩ = some (numV d.fr) := by
    have := (Blk.new (W := w.alloc (.cells (callV c).toArray 34)) (t := 34) (l := callV d)).at (o := 13) rfl
    simpa using this
  go_wp2
  go_ret
  exact ⟨rfl, rfl⟩
end Go.Proofs.Ythngehpmoiojfaa
