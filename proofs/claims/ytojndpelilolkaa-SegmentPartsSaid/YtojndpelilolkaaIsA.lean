/- holdfastnum's Is. -/
import Derived.Test.YtojndpelilolkaaDaP
namespace Go.Proofs.Ytojndpelilolkaa
open Go.RowKit

end Go.Proofs.Ytojndpelilolkaa
