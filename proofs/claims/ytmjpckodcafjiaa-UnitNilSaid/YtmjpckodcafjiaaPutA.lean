/- The contracts of what puts numbers: putGroups, bytes.Clone, Put, PutText, PutList. -/
import Derived.Test.YtmjpckodcafjiaaRows
import Derived.Test.YtmjpckodcafjiaaBase
import Derived.Test.YtmjpckodcafjiaaEnc
import Derived.Test.YtmjpckodcafjiaaCloneA
import Derived.WalkSpells
namespace Go.Proofs.Ytmjpckodcafjiaa
open Go.RowKit

/-- One number, in a row that the call has just made. -/
theorem reads_lit (w : World) (k : IntKind) (e : TypeId) (n : Nat) : Reads (w.alloc (.cells #[.int k (n : Int)] e)) k (.slice (some ⟨w.heap.size, 0, none⟩) 1 1) [n] := reads_new w k e n

theorem u64_of_le {n : Nat} (h : n ≤ 100000000000000) : U64 n := by unfold U64; omega

end Go.Proofs.Ytmjpckodcafjiaa
