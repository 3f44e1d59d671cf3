/- Layer 8: whether two operations, or two answers, are equal. -/
import Derived.Test.YthngehpmoiojfaaCallEq7
import Derived.Test.YthngehpmoiojfaaLinPlain8
namespace Go.Proofs.Ythngehpmoiojfaa
open Go.RowKit

theorem eqG_nil {P : Program} {w : World} (d : Nat) (xs ys : Array Value) : (Op.eqFields d xs ys []).run P w = .ok true w := by simp [Op.eqFields]
theorem eqG_step {P : Program} {w : World} {d : Nat} {xs ys : Array Value} {f : Field} {fs : List Field} (v u : Value) (b c : Bool) (hn : f.name ≠ "_") (hp : (part f.type xs f.offset).run P w = .ok v w) (hq : (part f.type ys f.offset).run P w = .ok u w)
    (he : (Op.equalIn d f.type v u).run P w = .ok b w) (h : (Op.eqFields d xs ys fs).run P w = .ok c w) : (Op.eqFields d xs ys (f :: fs)).run P w = .ok (b && c) w := by
  simp only [Op.eqFields, hn, ne_eq, not_false_eq_true, if_true, Sem.run_bind, hp, hq, he, Result.andThen_ok]
  cases b
  · simp
  · simpa using h
theorem eqi2 {w : World} (d : Nat) (t : TypeId) (a b : Int) (h : Try.prog.underlying t = some (.int .i64)) : (Op.equalIn (d + 1) t (numV a) (numV b)).run Try.prog w = .ok (decide (a = b)) w := by
  rw [run_equalIn_int w d t .i64 .i64 a b h]
  simp
  try rfl
theorem eqb2 {w : World} (d : Nat) (a b : Bool) : (Op.equalIn (d + 1) 4 (.bool a) (.bool b)).run Try.prog w = .ok (decide (a = b)) w := by
  rw [run_equalIn_bool' w d 4 a b Try.underlying4]
  cases a <;> cases b <;> rfl
theorem eqs2 {w : World} (d : Nat) (a b : ByteArray) : (Op.equalIn (d + 1) 9 (.string a) (.string b)).run Try.prog w = .ok (decide (a = b)) w := by
  rw [run_equalIn_string w d 9 a b Try.underlying9, ByteArray.toList_eq, ByteArray.toList_eq]
  congr 1
  rw [Bool.eq_iff_iff, beq_iff_eq, decide_eq_true_eq]
  exact ⟨fun h => ByteArray.ext (Array.toList_inj.1 h), fun h => by rw [h]⟩
theorem eqOp2 {w : World} (d : Nat) (a b : OpZ) : (Op.equalIn (d + 2) 27 (opA a) (opA b)).run Try.prog w = .ok (decide (a = b)) w := by
  rw [run_equalIn_struct w (d + 1) 27 _ _ (by kernel_rfl) (by kernel_rfl)]
  have h : (Op.eqFields (d + 1) (opV a).toArray (opV b).toArray (Try.prog.fieldsOf 27).toList).run Try.prog w = .ok (decide (a.k = b.k) && (decide (a.s = b.s) && (decide (a.t = b.t) && (decide (a.p = b.p) && (decide (a.keep = b.keep) && true))))) w := by
    refine eqG_step (numV a.k) (numV b.k) _ _ (by decide) (by kernel_rfl) (by kernel_rfl) (eqi2 d _ _ _ Try.underlying3) ?_
    refine eqG_step (numV a.s) (numV b.s) _ _ (by decide) (by kernel_rfl) (by kernel_rfl) (eqi2 d _ _ _ Try.underlying3) ?_
    refine eqG_step (.string a.t) (.string b.t) _ _ (by decide) (by kernel_rfl) (by kernel_rfl) (eqs2 d _ _) ?_
    refine eqG_step (.string a.p) (.string b.p) _ _ (by decide) (by kernel_rfl) (by kernel_rfl) (eqs2 d _ _) ?_
    refine eqG_step (.bool a.keep) (.bool b.keep) _ _ (by decide) (by kernel_rfl) (by kernel_rfl) (eqb2 d _ _) ?_
    exact eqG_nil _ _ _
  rw [h]
  congr 1
  rw [Bool.eq_iff_iff]
  cases a; cases b
  simp only [Bool.and_eq_true, decide_eq_true_eq, and_true, OpZ.mk.injEq]
theorem eqMsg2 {w : World} (d : Nat) (t p : ByteArray) (k : Bool) (t' p' : ByteArray) (k' : Bool) : (Op.equalIn (d + 2) 30 (.agg #[.string t, .string p, .bool k]) (.agg #[.string t', .string p', .bool k'])).run Try.prog w = .ok (decide (t = t') && (decide (p = p') && (decide (k = k') && true))) w := by
  rw [run_equalIn_struct w (d + 1) 30 _ _ (by kernel_rfl) (by kernel_rfl)]
  refine eqG_step (.string t) (.string t') _ _ (by decide) (by kernel_rfl) (by kernel_rfl) (eqs2 d _ _) ?_
  refine eqG_step (.string p) (.string p') _ _ (by decide) (by kernel_rfl) (by kernel_rfl) (eqs2 d _ _) ?_
  refine eqG_step (.bool k) (.bool k') _ _ (by decide) (by kernel_rfl) (by kernel_rfl) (eqb2 d _ _) ?_
  exact eqG_nil _ _ _
theorem eqAn2 {w : World} (d : Nat) (a b : AnZ) : (Op.equalIn (d + 3) 32 (anA a) (anA b)).run Try.prog w = .ok (decide (a = b)) w := by
  rw [run_equalIn_struct w (d + 2) 32 _ _ (by kernel_rfl) (by kernel_rfl)]
  have h : (Op.eqFields (d + 2) (anV a).toArray (anV b).toArray (Try.prog.fieldsOf 32).toList).run Try.prog w = .ok (decide (a.e = b.e) && (decide (a.a = b.a) && (decide (a.b = b.b) && ((decide (a.t = b.t) && (decide (a.p = b.p) && (decide (a.kept = b.kept) && true))) && true)))) w := by
    refine eqG_step (numV a.e) (numV b.e) _ _ (by decide) (by kernel_rfl) (by kernel_rfl) (eqi2 (d + 1) _ _ _ Try.underlying28) ?_
    refine eqG_step (numV a.a) (numV b.a) _ _ (by decide) (by kernel_rfl) (by kernel_rfl) (eqi2 (d + 1) _ _ _ Try.underlying3) ?_
    refine eqG_step (numV a.b) (numV b.b) _ _ (by decide) (by kernel_rfl) (by kernel_rfl) (eqi2 (d + 1) _ _ _ Try.underlying3) ?_
    refine eqG_step (.agg #[.string a.t, .string a.p, .bool a.kept]) (.agg #[.string b.t, .string b.p, .bool b.kept]) _ _ (by decide) (by kernel_rfl) (by kernel_rfl) (eqMsg2 d _ _ _ _ _ _) ?_
    exact eqG_nil _ _ _
  rw [h]
  congr 1
  rw [Bool.eq_iff_iff]
  cases a; cases b
  simp only [Bool.and_eq_true, decide_eq_true_eq, and_true, AnZ.mk.injEq]
theorem eql_op (a b : OpZ) (w : World) : (binOp .eql 27 (opA a) (opA b)).run Try.prog w = .ok (.bool (decide (a = b))) w := by
  rw [run_eql_struct, eqOp2 9998]; rfl
theorem eql_an (a b : AnZ) (w : World) : (binOp .eql 32 (anA a) (anA b)).run Try.prog w = .ok (.bool (decide (a = b))) w := by
  rw [run_eql_struct, eqAn2 9997]; rfl
theorem neq_an (a b : AnZ) (w : World) : (binOp .neq 32 (anA a) (anA b)).run Try.prog w = .ok (.bool (!decide (a = b))) w := by
  rw [run_neq_struct, eqAn2 9997]; rfl

end Go.Proofs.Ythngehpmoiojfaa
