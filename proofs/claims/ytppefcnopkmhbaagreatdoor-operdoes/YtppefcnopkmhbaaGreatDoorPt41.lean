/- Rpu -/
import Derived.Test.YtppefcnopkmhbaaGreatDoorPt40
import Derived.Test.YtppefcnopkmhbaaGreatDoorPt14
import Derived.Test.YtppefcnopkmhbaaGreatDoorPt23
import Derived.Test.YtppefcnopkmhbaaGreatDoorPt20
namespace Go.Proofs.YtppefcnopkmhbaaGreatDoor
open Go.RowKit

set_option maxRecDepth 8000
end Go.Proofs.YtppefcnopkmhbaaGreatDoor
