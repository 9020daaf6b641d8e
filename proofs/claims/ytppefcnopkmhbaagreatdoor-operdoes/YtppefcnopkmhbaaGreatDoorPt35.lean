/- Rtn9 -/
import Derived.Test.YtppefcnopkmhbaaGreatDoorPt30
namespace Go.Proofs.YtppefcnopkmhbaaGreatDoor
open Go.RowKit

set_option maxRecDepth 8000
end Go.Proofs.YtppefcnopkmhbaaGreatDoor
