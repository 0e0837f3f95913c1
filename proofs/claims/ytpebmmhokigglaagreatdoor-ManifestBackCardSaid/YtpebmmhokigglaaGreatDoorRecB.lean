/- Slices of records: an append of a whole row of them. Nothing of the program. -/
import Derived.Test.YtpebmmhokigglaaGreatDoorQj
import Derived.Deep.Upon
namespace Go.Proofs.YtpebmmhokigglaaGreatDoor
open Go.RowKit

end Go.Proofs.YtpebmmhokigglaaGreatDoor
