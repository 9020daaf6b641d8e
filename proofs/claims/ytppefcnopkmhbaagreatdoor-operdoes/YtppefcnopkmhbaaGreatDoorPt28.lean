/- Ent -/
import Derived.Test.YtppefcnopkmhbaaGreatDoorPt27
namespace Go.Proofs.YtppefcnopkmhbaaGreatDoor
open Go.RowKit

set_option maxRecDepth 8000
end Go.Proofs.YtppefcnopkmhbaaGreatDoor
