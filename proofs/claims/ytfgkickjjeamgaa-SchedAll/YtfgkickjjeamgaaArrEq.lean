/- Arrays of numbers, held against each other. -/
import Derived.Test.YtfgkickjjeamgaaProg
import Derived.Laws.StructEq
import Derived.ChangeKeysEq
import Derived.WalkKit
namespace Go.Proofs.Ytfgkickjjeamgaa
open Go.RowKit

theorem eqItems_same (w : World) (xs : Array Value) : ∀ is : List Nat, (∀ i ∈ is, ∃ k, xs[i]? = some (.int .i64 k)) → (Op.eqItems 9999 3 1 xs xs is).run Try.prog w = .ok true w
  | [], _ => by simp [Op.eqItems]
  | i :: is, h => by
    obtain ⟨k, hk⟩ := h i (by simp)
    have p1 := run_part_plain (P := Try.prog) w (e := 3) (by kernel_rfl) (xs := xs) (off := i) hk
    have p2 := run_equalIn_int (P := Try.prog) w 9998 3 .i64 .i64 k k Try.underlying3
    simp only [Op.eqItems, Sem.run_bind, Nat.mul_one, p1, p2, Result.andThen_ok, beq_self_eq_true, Bool.not_true, Bool.false_eq_true, if_false]
    exact eqItems_same w xs is (fun j hj => h j (by simp [hj]))
theorem neq_same {t : TypeId} {n : Nat} (hu : Try.prog.underlying t = some (.array n 3)) (w : World) (xs : Array Value) (h : ∀ i, i < n → ∃ k, xs[i]? = some (.int .i64 k)) : (binOp .neq t (.agg xs) (.agg xs)).run Try.prog w = .ok (.bool false) w := by
  obtain ⟨i0, hi⟩ := info_of_underlying (P := Try.prog) Try.underlying3
  have h1 := run_equalIn_array (P := Try.prog) w 9999 xs xs hu hi
  rw [show Try.prog.cellsOf 3 = 1 by kernel_rfl, eqItems_same w xs (List.range n) (fun i hi => h i (List.mem_range.1 hi))] at h1
  rw [run_neq_struct, h1]
  rfl
theorem neq_locks (a b c d : Int) (w : World) : (binOp .neq 27 (.agg #[.int .i64 a, .int .i64 b, .int .i64 c, .int .i64 d]) (.agg #[.int .i64 a, .int .i64 b, .int .i64 c, .int .i64 d])).run Try.prog w = .ok (.bool false) w :=
  neq_same (n := 4) Try.underlying27 w _ fun i hi => by
    match i, hi with
    | 0, _ => exact ⟨a, rfl⟩
    | 1, _ => exact ⟨b, rfl⟩
    | 2, _ => exact ⟨c, rfl⟩
    | 3, _ => exact ⟨d, rfl⟩
theorem neq_mark (a b c : Int) (w : World) : (binOp .neq 40 (.agg #[.int .i64 a, .int .i64 b, .int .i64 c]) (.agg #[.int .i64 a, .int .i64 b, .int .i64 c])).run Try.prog w = .ok (.bool false) w :=
  neq_same (n := 3) Try.underlying40 w _ fun i hi => by
    match i, hi with
    | 0, _ => exact ⟨a, rfl⟩
    | 1, _ => exact ⟨b, rfl⟩
    | 2, _ => exact ⟨c, rfl⟩

end Go.Proofs.Ytfgkickjjeamgaa
