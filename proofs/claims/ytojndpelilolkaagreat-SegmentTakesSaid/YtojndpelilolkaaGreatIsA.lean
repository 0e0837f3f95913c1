/- holdfastnum's Is. -/
import Derived.Test.YtojndpelilolkaaGreatDaP
namespace Go.Proofs.YtojndpelilolkaaGreat
open Go.RowKit

end Go.Proofs.YtojndpelilolkaaGreat
