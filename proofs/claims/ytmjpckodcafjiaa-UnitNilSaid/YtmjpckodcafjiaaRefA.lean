/- The contracts of the document's own bytes (the reference package), and of the comparison of bytes. -/
import Derived.Test.YtmjpckodcafjiaaPutA
namespace Go.Proofs.Ytmjpckodcafjiaa
open Go.RowKit

theorem U64.int {n : Nat} (h : U64 n) : (n : Int) ≤ 18446744073709551615 := by unfold U64 at h; omega

end Go.Proofs.Ytmjpckodcafjiaa
