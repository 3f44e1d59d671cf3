/-
  No cell of these rows narrows 'for every input' (looked for: loops, veiled, ifaces, maps, wideKeys, modest, calm, conditions, laid).
  DERIVED. THE GIVEN ROWS OF THIS SEAT. 4 by the template 'for every input the law returns true; each argument reads behind the call as it read before'; 0 by the template 'total and deterministic' (their statements: YtlfehhegkpoojaaTotals.lean).
  GIVEN WITH THE SEED: the statements are not yours to turn. If you find one false, say at which input.
  Laid BY PROGRAM, IN A SANDBOX (cutbox-rows.mjs): the forced cells as the released guide's own fill.sh prints them over the translation f3613b1ed7693e30… (all of the seat's roots in one cut). By AI agents, Wed Nov 11 2026. No macro, syntax, notation, axiom, sorry.
-/
import Derived.Test.YtlfehhegkpoojaaChecked
import GoSem.Claim
import GoSem.ClaimJoined
import GoSem.ClaimMapViews
import Derived.JoinedTies
import Derived.KernelRfl
namespace Go.Proofs.Ytlfehhegkpoojaa
/- THE CELL 'sum', in the pinned program and in every row, IS THE sha256 OF THE DUMP (.gsa) THAT YtlfehhegkpoojaaProg.lean LOADS. Nothing in Lean hashes anything: it is a label: what it is worth is what the hold of that sum in a sandbox is worth. -/
noncomputable def Try.pinned : Pinned := { name := "ytlfehhegkpoojaa", sum := "f3613b1ed7693e305c33b3eb103a58763f47196a611b43e26c04cde94f5201f9", checked := Try.checked }
namespace Rows
def none {H : Type} : Left H := { results := [], args := [] }

/-- 'bellmanlaw03.SetSets': WHATEVER THE INPUT: true; the input reads as it did. -/
def setSetsSpec : ChangeSpec := { name := "setSets", fn := fun _ => fun
  | [d1, d2, d3, d4] => { results := [.lit (.bool true)], args := [d1, d2, d3, d4] }
  | _ => none }
def setSetsRow : OpenClaim := { program := "ytlfehhegkpoojaa", sum := "f3613b1ed7693e305c33b3eb103a58763f47196a611b43e26c04cde94f5201f9", func := "bellman/bellmanlaw03.SetSets", spec := "setSets", unfollowed := true, recurses := true, apart := false }
def SetSetsSaid : Prop := setSetsRow.holds Try.pinned (OpenSpec.ofChange setSetsSpec)

/-- ITS FALSE NEIGHBOUR: 'it returns false'. Refute it at one input. -/
def setSetsWrong : ChangeSpec := { name := "setSets", fn := fun _ => fun
  | [d1, d2, d3, d4] => { results := [.lit (.bool false)], args := [d1, d2, d3, d4] }
  | _ => none }
def SetSetsWrongFalsely : Prop := setSetsRow.holds Try.pinned (OpenSpec.ofChange setSetsWrong)

/-- 'bellmanlaw03.SetMaps': WHATEVER THE INPUT: true; the input reads as it did. -/
def setMapsSpec : ChangeSpec := { name := "setMaps", fn := fun _ => fun
  | [d1, d2, d3] => { results := [.lit (.bool true)], args := [d1, d2, d3] }
  | _ => none }
def setMapsRow : OpenClaim := { program := "ytlfehhegkpoojaa", sum := "f3613b1ed7693e305c33b3eb103a58763f47196a611b43e26c04cde94f5201f9", func := "bellman/bellmanlaw03.SetMaps", spec := "setMaps", unfollowed := true, recurses := true, apart := false }
def SetMapsSaid : Prop := setMapsRow.holds Try.pinned (OpenSpec.ofChange setMapsSpec)

/-- ITS FALSE NEIGHBOUR: 'it returns false'. Refute it at one input. -/
def setMapsWrong : ChangeSpec := { name := "setMaps", fn := fun _ => fun
  | [d1, d2, d3] => { results := [.lit (.bool false)], args := [d1, d2, d3] }
  | _ => none }
def SetMapsWrongFalsely : Prop := setMapsRow.holds Try.pinned (OpenSpec.ofChange setMapsWrong)

/-- 'bellmanlaw03.SetOrder': WHATEVER THE INPUT: true; the input reads as it did. -/
def setOrderSpec : ChangeSpec := { name := "setOrder", fn := fun _ => fun
  | [d] => { results := [.lit (.bool true)], args := [d] }
  | _ => none }
def setOrderRow : OpenClaim := { program := "ytlfehhegkpoojaa", sum := "f3613b1ed7693e305c33b3eb103a58763f47196a611b43e26c04cde94f5201f9", func := "bellman/bellmanlaw03.SetOrder", spec := "setOrder", unfollowed := true, recurses := true, apart := false }
def SetOrderSaid : Prop := setOrderRow.holds Try.pinned (OpenSpec.ofChange setOrderSpec)

/-- ITS FALSE NEIGHBOUR: 'it returns false'. Refute it at one input. -/
def setOrderWrong : ChangeSpec := { name := "setOrder", fn := fun _ => fun
  | [d] => { results := [.lit (.bool false)], args := [d] }
  | _ => none }
def SetOrderWrongFalsely : Prop := setOrderRow.holds Try.pinned (OpenSpec.ofChange setOrderWrong)

/-- 'bellmanlaw03.SetJoins': WHATEVER THE INPUT: true; the input reads as it did. -/
def setJoinsSpec : ChangeSpec := { name := "setJoins", fn := fun _ => fun
  | [d1, d2, d3] => { results := [.lit (.bool true)], args := [d1, d2, d3] }
  | _ => none }
def setJoinsRow : OpenClaim := { program := "ytlfehhegkpoojaa", sum := "f3613b1ed7693e305c33b3eb103a58763f47196a611b43e26c04cde94f5201f9", func := "bellman/bellmanlaw03.SetJoins", spec := "setJoins", unfollowed := true, recurses := true, apart := false }
def SetJoinsSaid : Prop := setJoinsRow.holds Try.pinned (OpenSpec.ofChange setJoinsSpec)

/-- ITS FALSE NEIGHBOUR: 'it returns false'. Refute it at one input. -/
def setJoinsWrong : ChangeSpec := { name := "setJoins", fn := fun _ => fun
  | [d1, d2, d3] => { results := [.lit (.bool false)], args := [d1, d2, d3] }
  | _ => none }
def SetJoinsWrongFalsely : Prop := setJoinsRow.holds Try.pinned (OpenSpec.ofChange setJoinsWrong)

/- THE SECOND FORM. 'bulk': how many values and letters a reading holds, each counted each time it is reached (what is shared counts as often as it is met; a slice's spare places count too). A statement '..UptoSaid' is the law's where the arguments, and the package variables that the reading takes, are together of bulk at most 1048576: NARROWER than '..Said'. Prove '..Said' where nothing that the law and all that it calls make is longer than what came in: it says more and counts as full. Else prove '..UptoSaid'. A law counts once. -/
mutual
def uptoBulk {H : Type} : DataW H → Nat
  | .lit (.string bytes) => bytes.length + 1
  | .lit _ => 1
  | .nil => 1
  | .ptr d => uptoBulk d + 1
  | .slice elems spare => uptoBulkAll elems + uptoBulkAll spare + 1
  | .agg parts => uptoBulkAll parts + 1
  | .iface _ d => uptoBulk d + 1
  | .map entries => uptoBulkEntries entries + 1
  | .held _ => 1
def uptoBulkAll {H : Type} : List (DataW H) → Nat
  | [] => 0
  | d :: r => uptoBulk d + uptoBulkAll r
def uptoBulkEntries {H : Type} : List (Lit × DataW H) → Nat
  | [] => 0
  | x :: r => uptoBulkEntry x + uptoBulkEntries r
def uptoBulkEntry {H : Type} : Lit × DataW H → Nat
  | (.string bytes, d) => bytes.length + uptoBulk d + 1
  | (_, d) => uptoBulk d + 1
 end
def uptoSmall : (H : Type) → List (DataW H) → Bool := fun _ ds => decide (uptoBulkAll ds ≤ 1048576)
def OpenSpec.upto (s : _root_.Go.ChangeSpec) : _root_.Go.OpenSpec := { _root_.Go.OpenSpec.ofChange s with cond := some uptoSmall }

/-- 'bellmanlaw03.SetSets', WHERE WHAT IT READS IS OF BULK AT MOST 1048576: true; the input reads as it did. -/
def setSetsUptoRow : OpenClaim := { program := "ytlfehhegkpoojaa", sum := "f3613b1ed7693e305c33b3eb103a58763f47196a611b43e26c04cde94f5201f9", func := "bellman/bellmanlaw03.SetSets", spec := "setSets", unfollowed := true, recurses := true, apart := false, narrowed := true }
def SetSetsUptoSaid : Prop := setSetsUptoRow.holds Try.pinned (OpenSpec.upto setSetsSpec)

/-- 'bellmanlaw03.SetMaps', WHERE WHAT IT READS IS OF BULK AT MOST 1048576: true; the input reads as it did. -/
def setMapsUptoRow : OpenClaim := { program := "ytlfehhegkpoojaa", sum := "f3613b1ed7693e305c33b3eb103a58763f47196a611b43e26c04cde94f5201f9", func := "bellman/bellmanlaw03.SetMaps", spec := "setMaps", unfollowed := true, recurses := true, apart := false, narrowed := true }
def SetMapsUptoSaid : Prop := setMapsUptoRow.holds Try.pinned (OpenSpec.upto setMapsSpec)

/-- 'bellmanlaw03.SetOrder', WHERE WHAT IT READS IS OF BULK AT MOST 1048576: true; the input reads as it did. -/
def setOrderUptoRow : OpenClaim := { program := "ytlfehhegkpoojaa", sum := "f3613b1ed7693e305c33b3eb103a58763f47196a611b43e26c04cde94f5201f9", func := "bellman/bellmanlaw03.SetOrder", spec := "setOrder", unfollowed := true, recurses := true, apart := false, narrowed := true }
def SetOrderUptoSaid : Prop := setOrderUptoRow.holds Try.pinned (OpenSpec.upto setOrderSpec)

/-- 'bellmanlaw03.SetJoins', WHERE WHAT IT READS IS OF BULK AT MOST 1048576: true; the input reads as it did. -/
def setJoinsUptoRow : OpenClaim := { program := "ytlfehhegkpoojaa", sum := "f3613b1ed7693e305c33b3eb103a58763f47196a611b43e26c04cde94f5201f9", func := "bellman/bellmanlaw03.SetJoins", spec := "setJoins", unfollowed := true, recurses := true, apart := false, narrowed := true }
def SetJoinsUptoSaid : Prop := setJoinsUptoRow.holds Try.pinned (OpenSpec.upto setJoinsSpec)

end Rows
end Go.Proofs.Ytlfehhegkpoojaa
