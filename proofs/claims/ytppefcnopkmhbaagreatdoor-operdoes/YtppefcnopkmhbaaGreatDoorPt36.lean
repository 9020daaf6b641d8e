/- Ren9 -/
import Derived.Test.YtppefcnopkmhbaaGreatDoorPt35
import Derived.Test.YtppefcnopkmhbaaGreatDoorPt28
namespace Go.Proofs.YtppefcnopkmhbaaGreatDoor
open Go.RowKit

set_option maxRecDepth 8000
end Go.Proofs.YtppefcnopkmhbaaGreatDoor
