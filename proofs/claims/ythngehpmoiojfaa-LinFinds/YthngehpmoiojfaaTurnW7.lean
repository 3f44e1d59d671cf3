/- Layer 7 (package hist): inTurn's walk; Right. -/
import Derived.Test.YthngehpmoiojfaaTurn7
namespace Go.Proofs.Ythngehpmoiojfaa
open Go.RowKit

theorem hist_Ahead_b (c d : CallZ) (w : World) : Calls Try.prog 36 #[callA c, callA d] w fun e w' => e = .returned (.bool (decide (c.to < d.fr))) ∧ Below w.heap.size w w' :=
  (hist_Ahead c d w).mono fun _ _ ⟨h, hw⟩ => ⟨h, hw ▸ ((Below.refl _ _).alloc (Nat.le_refl _) _).alloc (by simp) _⟩
/-- Right, by both. -/
def rightH (L : List CallZ) : Bool := timeB L 0 [] && turnB L (fun _ => none)
end Go.Proofs.Ythngehpmoiojfaa
