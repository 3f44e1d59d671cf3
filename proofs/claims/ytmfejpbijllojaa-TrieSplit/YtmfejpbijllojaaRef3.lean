/- What the document's own answers of layer 3 on numbers (bellmanref03.With, Without; bellmanref01.Ints) come to. -/
import Derived.Test.YtmfejpbijllojaaProg
import Derived.Test.YtmfejpbijllojaaSearch3
import Derived.Test.YtmfejpbijllojaaRepl3
import Derived.Test.YtmfejpbijllojaaBase
import Derived.Test.YtmfejpbijllojaaIntsRef
import Derived.WalkKit
import Derived.IntWalk
import Derived.Lib.Hide
import Derived.Maps.AppendAt
import Derived.RangeFuncBox
import Derived.Deep.Draws
import Derived.Deep.AppendLies
import Derived.BigQuiet
namespace Go.Proofs.Ytmfejpbijllojaa
open Go.RowKit

/-- A slice that lies in a block made since. -/
def FreshV (n : Nat) (r : Value) : Prop := ∀ g off m c, r = .slice (some ⟨g, off, none⟩) m c → n ≤ g
theorem own_fresh {W : World} {B k n : Nat} {e : TypeId} {v : Value} {xs : List Value} (h : W.ownsRow B e k v n xs) : FreshV B v := fun g off m c he => by
  rcases h.2 with ⟨rfl, _⟩ | ⟨g', cap, cur, rfl, hB, _⟩
  · cases he
  · cases he; exact hB
theorem FreshV.mono {n m : Nat} {r : Value} (h : FreshV n r) (hm : m ≤ n) : FreshV m r := fun g off k c he => Nat.le_trans hm (h g off k c he)
/-- A slice of numbers in a block made since. -/
def NumsFr (n : Nat) (W : World) (r : Value) (L : List Int) : Prop := NumsIn W r L ∧ FreshV n r

/-- What is left of With, before and behind x. -/
def restZ (x : Int) (dn : Bool) (R : List Int) : List Int := if dn then woZ x R else withZ x R

end Go.Proofs.Ytmfejpbijllojaa
