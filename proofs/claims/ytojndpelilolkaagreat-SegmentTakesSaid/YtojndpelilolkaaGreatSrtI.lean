/- Nothing to be laid at this seat. -/
import Derived.Shelf.SlIterI.Nil
import Derived.Shelf.SortM.Plain
import Derived.Shelf.SortM.SortNone
import Derived.Test.YtojndpelilolkaaGreatBase
import Derived.Test.YtojndpelilolkaaGreatUmP
namespace Go.Proofs.YtojndpelilolkaaGreat
end Go.Proofs.YtojndpelilolkaaGreat
