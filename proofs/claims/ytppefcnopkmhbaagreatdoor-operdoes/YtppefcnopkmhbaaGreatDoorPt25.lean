/- Trn, Glu, Tlb -/
import Derived.Test.YtppefcnopkmhbaaGreatDoorPt24
import Derived.Laws.EntriesVeiled
import Derived.Test.YtppefcnopkmhbaaGreatDoorPt09
import Derived.Shelf.Strings.SlTrimAscii
import Derived.Shelf.Bytes.SlTrim
namespace Go.Proofs.YtppefcnopkmhbaaGreatDoor
open Go.RowKit

set_option maxRecDepth 8000
end Go.Proofs.YtppefcnopkmhbaaGreatDoor

namespace Go.Proofs.YtppefcnopkmhbaaGreatDoor
open Go.RowKit

set_option maxRecDepth 8000
end Go.Proofs.YtppefcnopkmhbaaGreatDoor

namespace Go.Proofs.YtppefcnopkmhbaaGreatDoor
open Go.RowKit

set_option maxRecDepth 8000
end Go.Proofs.YtppefcnopkmhbaaGreatDoor
