/- holdfastnum's Is. -/
import Derived.Test.YteknibaappcgmaaGreatDoorDaP
namespace Go.Proofs.YteknibaappcgmaaGreatDoor
open Go.RowKit

end Go.Proofs.YteknibaappcgmaaGreatDoor
