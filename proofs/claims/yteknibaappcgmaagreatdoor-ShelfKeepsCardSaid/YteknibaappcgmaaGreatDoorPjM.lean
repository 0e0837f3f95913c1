/- Projections, as the document says them: numbers and lists; nothing of the program. -/
import Derived.Test.YteknibaappcgmaaGreatDoorEnP
import Derived.Test.YteknibaappcgmaaGreatDoorCqQ
import Derived.Lib.SlicesCompact
namespace Go.Proofs.YteknibaappcgmaaGreatDoor

end Go.Proofs.YteknibaappcgmaaGreatDoor
