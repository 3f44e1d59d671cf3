/- Layer 7 (package hist): End of what there isn't, or of what ended. -/
import Derived.Test.YtjkabbabhfipbaaEndIs7
import Derived.BigCall
import Derived.BigGuard
namespace Go.Proofs.Ytjkabbabhfipbaa
open Go.RowKit

theorem log_End_nil (id : Int) (a : AnZ) (w : World) : Calls Try.prog 10 #[.pointer none, .int .i64 id, anA a] w fun e w' => e = .returned (.bool false) ∧ w' = w.alloc (.cells (anV a).toArray 36) := by
  go_enter Try.func10, Try.ntmps10
  go_wp2
  go_ret
  exact ⟨rfl, rfl⟩
theorem log_End_out {w : World} {base Bl now : Nat} {L : List CallZ} {cv mv : Value} (h : LogIs w base Bl L now cv mv) (id : Int) (hid : id < 1 ∨ (L.length : Int) < id) (a : AnZ) :
    Calls Try.prog 10 #[.pointer (some ⟨Bl, 0, none⟩), .int .i64 id, anA a] w fun e w' => e = .returned (.bool false) ∧ w' = w.alloc (.cells (anV a).toArray 36) := by
  obtain ⟨av, nv, rfl⟩ := own_form h.row
  have c0 := (h.blk.alloc (.cells (anV a).toArray 36)).at (o := 0) rfl
  clear h
  by_cases h1 : id < 1
  · clear hid
    go_enter Try.func10, Try.ntmps10
    go_wp2
    go_ret
    exact ⟨rfl, rfl⟩
  · have h2 : (L.length : Int) < id := by omega
    clear hid
    go_enter Try.func10, Try.ntmps10
    go_wp2
    go_ret
    exact ⟨rfl, rfl⟩
theorem log_End_twice {w : World} {base Bl now : Nat} {L : List CallZ} {cv mv : Value} (h : LogIs w base Bl L now cv mv) (i : Nat) {c : CallZ} (hc : L[i]? = some c) (hto : c.to ≠ 0) (hL : L.length ≤ 1000000) (a : AnZ) :
    Calls Try.prog 10 #[.pointer (some ⟨Bl, 0, none⟩), .int .i64 ((i : Int) + 1), anA a] w fun e w' => e = .returned (.bool false) ∧ Below w.heap.size w w' := by
  have hi : i < L.length := (List.getElem?_eq_some_iff.1 hc).1
  obtain ⟨av, nv, rfl⟩ := own_form h.row
  obtain ⟨g, rfl⟩ : ∃ g, av = some ⟨g, 0, none⟩ := by
    rcases h.row.2 with ⟨e, e2⟩ | ⟨g, cap, cur, e, _⟩
    · omega
    · cases e; exact ⟨g, rfl⟩
  have h1 := h.only ((Only.refl (fun _ => False) w).alloc (.cells (anV a).toArray 36)) (fun _ _ => id)
  have c0 := h1.blk.at (o := 0) rfl
  obtain ⟨k0, k1, k2, k3, k4, k5, k6, k7, k8, k9, k10, k11, k12, k13, k14⟩ := call_cells (call_there h1.row rfl rfl hc).1
  have hto1 : (c.to == 0) = false := by simpa using hto
  clear h h1 hc hto
  go_enter Try.func10, Try.ntmps10
  go_wp2_with fail
  refine (hist_open c _).mono ?_
  rintro e w' ⟨rfl, rfl⟩
  go_wp2
  go_ret
  exact ⟨rfl, ((Below.refl _ _).alloc (Nat.le_refl _) _).alloc (by simp) _⟩

end Go.Proofs.Ytjkabbabhfipbaa
