/- Ren9 -/
import Derived.Test.YtppefcnopkmhbaaGreatDoorPq29
import Derived.Test.YtppefcnopkmhbaaGreatDoorPq26
namespace Go.Proofs.YtppefcnopkmhbaaGreatDoor
open Go.RowKit

set_option maxRecDepth 8000
end Go.Proofs.YtppefcnopkmhbaaGreatDoor
