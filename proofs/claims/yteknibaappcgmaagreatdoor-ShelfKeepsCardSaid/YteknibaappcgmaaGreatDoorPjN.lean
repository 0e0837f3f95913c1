/- What follows a projection, as the document says it: numbers and lists; nothing of the program. -/
import Derived.Test.YteknibaappcgmaaGreatDoorPjM
namespace Go.Proofs.YteknibaappcgmaaGreatDoor

end Go.Proofs.YteknibaappcgmaaGreatDoor
