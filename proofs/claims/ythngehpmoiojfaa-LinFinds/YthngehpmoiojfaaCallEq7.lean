/- Layer 7: a call is equal to itself. -/
import Derived.Test.YthngehpmoiojfaaHist7
import Derived.Laws.StructEq
namespace Go.Proofs.Ythngehpmoiojfaa
open Go.RowKit

theorem eqF_nil {P : Program} {w : World} (d : Nat) (xs : Array Value) : (Op.eqFields d xs xs []).run P w = .ok true w := by simp [Op.eqFields]
theorem eqF_step {P : Program} {w : World} {d : Nat} {xs : Array Value} {f : Field} {fs : List Field} (v : Value) (hn : f.name ≠ "_") (hp : (part f.type xs f.offset).run P w = .ok v w) (he : (Op.equalIn d f.type v v).run P w = .ok true w) (h : (Op.eqFields d xs xs fs).run P w = .ok true w) :
    (Op.eqFields d xs xs (f :: fs)).run P w = .ok true w := by
  simp only [Op.eqFields, hn, ne_eq, not_false_eq_true, if_true, Sem.run_bind, hp, he, Result.andThen_ok, Bool.not_true, Bool.false_eq_true, if_false]
  exact h
theorem eqi {w : World} (d : Nat) (t : TypeId) (a : Int) (h : Try.prog.underlying t = some (.int .i64)) : (Op.equalIn (d + 1) t (numV a) (numV a)).run Try.prog w = .ok true w := by rw [run_equalIn_int w d t .i64 .i64 a a h]; simp
theorem eqb {w : World} (d : Nat) (a : Bool) : (Op.equalIn (d + 1) 4 (.bool a) (.bool a)).run Try.prog w = .ok true w := by rw [run_equalIn_bool' w d 4 a a Try.underlying4]; simp
theorem eqs {w : World} (d : Nat) (a : ByteArray) : (Op.equalIn (d + 1) 9 (.string a) (.string a)).run Try.prog w = .ok true w := by rw [run_equalIn_string w d 9 a a Try.underlying9]; simp
theorem eqOp {w : World} (d : Nat) (o : OpZ) : (Op.equalIn (d + 2) 27 (opA o) (opA o)).run Try.prog w = .ok true w := by
  rw [run_equalIn_struct w (d + 1) 27 _ _ (by kernel_rfl) (by kernel_rfl)]
  refine eqF_step (numV o.k) (by decide) (by kernel_rfl) (eqi d _ _ Try.underlying3) ?_
  refine eqF_step (numV o.s) (by decide) (by kernel_rfl) (eqi d _ _ Try.underlying3) ?_
  refine eqF_step (.string o.t) (by decide) (by kernel_rfl) (eqs d _) ?_
  refine eqF_step (.string o.p) (by decide) (by kernel_rfl) (eqs d _) ?_
  refine eqF_step (.bool o.keep) (by decide) (by kernel_rfl) (eqb d _) ?_
  exact eqF_nil _ _
theorem eqMsg {w : World} (d : Nat) (t p : ByteArray) (k : Bool) : (Op.equalIn (d + 2) 30 (.agg #[.string t, .string p, .bool k]) (.agg #[.string t, .string p, .bool k])).run Try.prog w = .ok true w := by
  rw [run_equalIn_struct w (d + 1) 30 _ _ (by kernel_rfl) (by kernel_rfl)]
  refine eqF_step (.string t) (by decide) (by kernel_rfl) (eqs d _) ?_
  refine eqF_step (.string p) (by decide) (by kernel_rfl) (eqs d _) ?_
  refine eqF_step (.bool k) (by decide) (by kernel_rfl) (eqb d _) ?_
  exact eqF_nil _ _
theorem eqAn {w : World} (d : Nat) (a : AnZ) : (Op.equalIn (d + 3) 32 (anA a) (anA a)).run Try.prog w = .ok true w := by
  rw [run_equalIn_struct w (d + 2) 32 _ _ (by kernel_rfl) (by kernel_rfl)]
  refine eqF_step (numV a.e) (by decide) (by kernel_rfl) (eqi (d + 1) _ _ Try.underlying28) ?_
  refine eqF_step (numV a.a) (by decide) (by kernel_rfl) (eqi (d + 1) _ _ Try.underlying3) ?_
  refine eqF_step (numV a.b) (by decide) (by kernel_rfl) (eqi (d + 1) _ _ Try.underlying3) ?_
  refine eqF_step (.agg #[.string a.t, .string a.p, .bool a.kept]) (by decide) (by kernel_rfl) (eqMsg d _ _ _) ?_
  exact eqF_nil _ _
theorem neq_call (c : CallZ) (w : World) : (binOp .neq 34 (callA c) (callA c)).run Try.prog w = .ok (.bool false) w := by
  rw [run_neq_struct, run_equalIn_struct w 9999 34 _ _ (by kernel_rfl) (by kernel_rfl)]
  have h : (Op.eqFields 9999 (callV c).toArray (callV c).toArray (Try.prog.fieldsOf 34).toList).run Try.prog w = .ok true w := by
    refine eqF_step (numV c.th) (by decide) (by kernel_rfl) (eqi 9998 _ _ Try.underlying3) ?_
    refine eqF_step (numV c.pl) (by decide) (by kernel_rfl) (eqi 9998 _ _ Try.underlying3) ?_
    refine eqF_step (opA c.op) (by decide) (by kernel_rfl) (eqOp 9997 _) ?_
    refine eqF_step (anA c.an) (by decide) (by kernel_rfl) (eqAn 9996 _) ?_
    refine eqF_step (numV c.fr) (by decide) (by kernel_rfl) (eqi 9998 _ _ Try.underlying3) ?_
    refine eqF_step (numV c.to) (by decide) (by kernel_rfl) (eqi 9998 _ _ Try.underlying3) ?_
    exact eqF_nil _ _
  rw [h]
  rfl

end Go.Proofs.Ythngehpmoiojfaa
