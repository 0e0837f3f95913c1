/- Nothing to be laid at this seat. -/
import Derived.Shelf.SlIterI.Nil
import Derived.Shelf.SortM.Plain
import Derived.Shelf.SortM.SortNone
import Derived.Test.YtojndpelilolkaaBase
import Derived.Test.YtojndpelilolkaaUmP
namespace Go.Proofs.Ytojndpelilolkaa
end Go.Proofs.Ytojndpelilolkaa
