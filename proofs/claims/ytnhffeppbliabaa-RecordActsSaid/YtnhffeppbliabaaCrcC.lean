/- The fixed fact at the head of the crc statements: the chapter's example. -/
import Derived.Test.YtnhffeppbliabaaCrcP
import Derived.Test.YtnhffeppbliabaaByteA
import Derived.Lib.SlBytesConst
namespace Go.Proofs.Ytnhffeppbliabaa
open Go.RowKit

def nine : List Nat := [49, 50, 51, 52, 53, 54, 55, 56, 57]
/-- A row of a text that is written out. -/
theorem reads_mark (w : World) (e : TypeId) (k : IntKind) (l : List Nat) (cs : Array Value) (fr : Nat × Nat) (hc : cs.toList = vals k l) (hm : l.length ≤ maxLen) :
    Reads (w.alloc (.cells cs e fr)) k (.slice (some ⟨w.heap.size, 0, none⟩) l.length l.length) l :=
  ⟨_, _, rfl, Nat.le_refl _, hm, by simp, .inr ⟨w.heap.size, 0, rfl, by simp, fun i hi => by
    rw [Nat.zero_add, World.cell?_alloc_mark, ← Array.getElem?_toList, hc, vals_get k l i hi]⟩⟩

theorem nine_sum : crcx 0 nine = 3808858755 := by decide +kernel

end Go.Proofs.Ytnhffeppbliabaa
