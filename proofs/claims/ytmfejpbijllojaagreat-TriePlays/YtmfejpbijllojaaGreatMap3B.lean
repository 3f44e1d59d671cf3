/- What the program's layer 3 (package set) comes to at maps: Drop, Get, All. -/
import Derived.RangeFuncNested
import Derived.RangeFuncBound
import Derived.RangeFuncCalls
import Derived.RangeFuncLeaves
import Derived.RangeFuncBox
import Derived.Shelf.Abstract
import Derived.Shelf.RegionOpen
import Derived.OwnWalkIn
import Derived.TacticsInMore
import Derived.LoopNIn
import Derived.LoopIn
import Derived.IntWalk
import Derived.Test.YtmfejpbijllojaaGreatMap3
namespace Go.Proofs.YtmfejpbijllojaaGreat
open Go.RowKit Go.Shelf

/-- What Get tells. -/
def gotE (o : Option Int) : Value := .tuple #[.int .i64 (o.getD 0), .bool o.isSome]

abbrev encP (p : Ent) : Array Value := #[keyV p.1, .int .i64 p.2]
/-- A slice of entries that lies below n. -/
def LiesE (W : World) (n₀ : Nat) (v : Value) (E : List Ent) : Prop :=
  (v = .slice none 0 0 ∧ E = []) ∨ ∃ b off cap, v = .slice (some ⟨b, off, none⟩) E.length cap ∧ b < n₀ ∧ CellsAt W b off (E.flatMap encE)
theorem EntsIn.lies {W : World} {v : Value} {E : List Ent} (h : EntsIn W v E) : LiesE W W.heap.size v E := by
  rcases h.2 with ⟨hv, h0⟩ | ⟨b, off, cap, hv, _, hb, hc⟩
  · exact .inl ⟨hv, List.eq_nil_of_length_eq_zero h0⟩
  · exact .inr ⟨b, off, cap, hv, hb, hc⟩
theorem LiesE.below {W W' : World} {n₀ : Nat} {v : Value} {E : List Ent} (h : LiesE W n₀ v E) (hb : Below n₀ W W') : LiesE W' n₀ v E := by
  rcases h with h | ⟨b, off, cap, hv, hlt, hc⟩
  · exact .inl h
  · exact .inr ⟨b, off, cap, hv, hlt, hc.below hb hlt⟩
theorem LiesE.mono {W : World} {n₀ n₁ : Nat} {v : Value} {E : List Ent} (h : LiesE W n₀ v E) (hn : n₀ ≤ n₁) : LiesE W n₁ v E := by
  rcases h with h | ⟨b, off, cap, hv, hlt, hc⟩
  · exact .inl h
  · exact .inr ⟨b, off, cap, hv, by omega, hc⟩

end Go.Proofs.YtmfejpbijllojaaGreat
