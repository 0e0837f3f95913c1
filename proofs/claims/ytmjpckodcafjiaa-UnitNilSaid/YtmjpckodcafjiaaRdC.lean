/- The contracts of many, Within, Fixed and Text. -/
import Derived.Test.YtmjpckodcafjiaaRdB
namespace Go.Proofs.Ytmjpckodcafjiaa
open Go.RowKit

end Go.Proofs.Ytmjpckodcafjiaa
