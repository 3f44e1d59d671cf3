/- Layer 7 (package hist): moments and places of a log. -/
import Derived.Test.YthngehpmoiojfaaHist7
import Derived.Defers
import Derived.BigQuiet
import Derived.Deep.QuietTactic
import Derived.BigRegion
namespace Go.Proofs.Ythngehpmoiojfaa
open Go.RowKit

theorem intKeyed : Maps.Keyed Try.prog 3 := Maps.int_keyed Try.underlying3
theorem zeroInt (w : World) : (zeroValue 3).run Try.prog w = .ok (.int .i64 0) w := by kernel_rfl
theorem mf7 : ∀ (fn : Fn) (first cap : Array Value) (w : World), (Instr.makeFunc fn first cap).run Try.prog w = .ok (.func fn first cap) w := fun _ _ _ _ => rfl

/-- How many calls of each thread began. -/
def BeganIs (w : World) (mv : Value) (n : Nat) (f : Int → Nat) : Prop :=
  (mv = .map none ∧ ∀ x, f x = 0) ∨ ∃ b M, mv = .map (some b) ∧ MapF Try.prog 3 w b n M ∧ ∀ x, wf64 x → (M x).getD (.int .i64 0) = .int .i64 (f x : Nat)
theorem BeganIs.only {w w' : World} {mv : Value} {n : Nat} {f : Int → Nat} {S : Nat → Prop} (h : BeganIs w mv n f) (ho : Only S w w') (hS : ∀ b, mv = .map (some b) → ¬ S b) : BeganIs w' mv n f := by
  rcases h with h | ⟨b, M, e, hM, hf⟩
  · exact .inl h
  · exact .inr ⟨b, M, e, hM.only ho (hS b e), hf⟩
theorem BeganIs.lt {w : World} {mv : Value} {n : Nat} {f : Int → Nat} (h : BeganIs w mv n f) {b : Nat} (e : mv = .map (some b)) : b < w.heap.size := by
  rcases h with ⟨h, _⟩ | ⟨b', M, e', hM, _⟩
  · rw [h] at e; cases e
  · rw [e'] at e; cases e; exact hM.lt
def upF (f : Int → Nat) (x : Int) : Int → Nat := fun y => if y = x then f y + 1 else f y
theorem began_up {w : World} {b n : Nat} {f : Int → Nat} {M : Int → Option Value} {th : Int} (hM : MapF Try.prog 3 w b (n + 1) (updM M th (.int .i64 ((f th : Int) + 1)))) (hf : ∀ x, wf64 x → (M x).getD (.int .i64 0) = .int .i64 (f x : Nat)) : BeganIs w (.map (some b)) (n + 1) (upF f th) := by
  refine .inr ⟨b, _, rfl, hM, fun x hx => ?_⟩
  unfold updM upF
  by_cases e : x = th
  · subst e; simp
  · simp only [if_neg e]; exact hf x hx
end Go.Proofs.Ythngehpmoiojfaa
