/- Layer 5: the example; LockNone's walk; LockOne's walk. -/
import Derived.Test.YthhhbcjnihnlmaaHeld5
import Derived.BigQuiet
import Derived.Deep.LoopGhost
import Derived.Deep.QuietTactic
import Derived.IntWalk
namespace Go.Proofs.Ythhhbcjnihnlmaa
open Go.RowKit

theorem zeroLock (w : World) : LockAt 47 (w.alloc (.cells #[.int .i64 0, .int .i64 0, .int .i64 0] 47)) w.heap.size 0 [.int .i64 0, .int .i64 0, .int .i64 0] 0 0 0 := ⟨Blk.new, rfl, rfl, rfl⟩

theorem awake5 (w : World) : Calls Try.prog 6 #[] w fun e w' => e = .returned (.bool true) ∧ Below w.heap.size w w' := by
  have B0 := Lib.hid ((Below.refl w.heap.size w).alloc (Nat.le_refl _) (.cells #[.int .i64 0, .int .i64 0, .int .i64 0] 47))
  go_enter Try.func6, Try.ntmps6
  go_wp2_with fail
  refine (lock_Try 1 (zeroLock w) (by omega) (by omega) (by omega) (by omega)).mono ?_
  rintro e w1 ⟨he, a, ha, ha', ⟨l1, h1, _⟩, ho⟩
  rw [show tryB 0 1 = true from rfl] at he
  subst he
  rw [show tryO 0 1 = 1 from rfl, show tryC 0 1 0 = 1 from rfl] at h1
  have H1 := Lib.hid h1
  have O1 := Lib.hid ho
  clear h1 ho
  go_wp2_with fail
  refine (lock_Try 2 H1.out (by omega) (by omega) (by omega) (by omega)).mono ?_
  rintro e w2 ⟨he, a2, ha2, ha2', ⟨l2, h2, _⟩, ho⟩
  rw [show tryB 1 2 = false from rfl] at he
  subst he
  rw [show tryO 1 2 = 1 from rfl] at h2
  have H2 := Lib.hid h2
  have O2 := Lib.hid ho
  clear h2 ho
  go_wp2_with fail
  refine (lock_Owner H2.out).mono ?_
  rintro e w' ⟨rfl, rfl⟩
  go_wp2
  go_ret
  exact ⟨rfl, Only.below_step (by have := O1.out.size; simp at this; omega) (Only.below_step (by simp) B0.out O1.out (fun i hi e => by omega)) O2.out (fun i hi e => by omega)⟩

theorem none5 (i owner : Int) (w : World) : Calls Try.prog 5 #[.int .i64 i, .int .i64 owner] w fun e w' => e = .returned (.bool true) ∧ Below w.heap.size w w' := by
  go_enter Try.func5, Try.ntmps5
  go_wp2_with fail
  refine (awake5 w).mono ?_
  rintro e w1 ⟨rfl, hb⟩
  have B1 := Lib.hid hb
  clear hb
  go_wp2_with fail
  refine (lock_Try_nil owner w1).mono ?_
  rintro e w' ⟨rfl, rfl⟩
  go_wp2_with fail
  refine (lock_Free_nil owner w1).mono ?_
  rintro e w' ⟨rfl, rfl⟩
  go_wp2_with fail
  refine (lock_Owner_nil w1).mono ?_
  rintro e w' ⟨rfl, rfl⟩
  go_wp2_with fail
  refine (lock_Count_nil w1).mono ?_
  rintro e w' ⟨rfl, rfl⟩
  go_wp2_with fail
  refine (group_At_nil i w1).mono ?_
  rintro e w' ⟨rfl, rfl⟩
  go_wp2_with fail
  refine (group_Held_nil owner w1).mono ?_
  rintro e w' ⟨rfl, rfl⟩
  go_wp2_with fail
  refine (group_Len_nil w1).mono ?_
  rintro e w' ⟨rfl, rfl⟩
  go_wp2
  go_ret
  exact ⟨rfl, B1.out⟩

end Go.Proofs.Ythhhbcjnihnlmaa
