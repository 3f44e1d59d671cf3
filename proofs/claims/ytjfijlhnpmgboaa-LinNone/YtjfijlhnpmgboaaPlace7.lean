/- Layer 7 (package hist): the place of a call in its thread. -/
import Derived.Test.YtjfijlhnpmgboaaLog7
import Derived.Deep.Cut
namespace Go.Proofs.Ytjfijlhnpmgboaa
open Go.RowKit

end Go.Proofs.Ytjfijlhnpmgboaa
