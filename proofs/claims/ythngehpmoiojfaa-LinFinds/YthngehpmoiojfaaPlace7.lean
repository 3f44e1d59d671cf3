/- Layer 7 (package hist): the place of a call in its thread. -/
import Derived.Test.YthngehpmoiojfaaLog7
import Derived.Deep.Cut
namespace Go.Proofs.Ythngehpmoiojfaa
open Go.RowKit

end Go.Proofs.Ythngehpmoiojfaa
