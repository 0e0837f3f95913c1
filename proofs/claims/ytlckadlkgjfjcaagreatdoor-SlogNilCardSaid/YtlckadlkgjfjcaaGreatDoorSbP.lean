/- A shelf's objects' names: the document's own Name and number. · A shelf's objects' names: the document's own Name. -/
import Derived.Test.YtlckadlkgjfjcaaGreatDoorDaP
namespace Go.Proofs.YtlckadlkgjfjcaaGreatDoor
open Go.RowKit

theorem size_nmS (n : Nm) : ByteArray.size ⟨n.toArray⟩ = n.length := by simp [ByteArray.size]
end Go.Proofs.YtlckadlkgjfjcaaGreatDoor

namespace Go.Proofs.YtlckadlkgjfjcaaGreatDoor
open Go.RowKit

theorem nm_append (a b : Nm) : (ByteArray.mk a.toArray) ++ (ByteArray.mk b.toArray) = ⟨(a ++ b).toArray⟩ := by
  apply ByteArray.ext
  apply Array.toList_inj.1
  simp
end Go.Proofs.YtlckadlkgjfjcaaGreatDoor
