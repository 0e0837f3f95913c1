/- The contracts of the document's own cells: Check, May, Bytes, common. · The contracts of the document's own cells: common, Document, fail, Bytes. · Rows of the document's own cells; an append of one; a string's head. -/
import Derived.Test.YteknibaappcgmaaGreatDoorDaP
import Derived.Test.YteknibaappcgmaaGreatDoorEnP
import Derived.Test.YteknibaappcgmaaGreatDoorRrP
import Derived.Laws.StructEq
import Derived.Laws.BytesArg
namespace Go.Proofs.YteknibaappcgmaaGreatDoor
open Go.RowKit

/-- Bytes as a string. -/
def S8 (l : List Nat) : ByteArray := strOfNums (l.map (fun n : Nat => (n : Int)))
/-- A cell's error by its number. -/
def chk (k : Int) (n : Nat) : Nat := if k < 0 ∨ 3 < k then 1 else if 64 < n then 3 else if k ≠ 1 ∧ 0 < n then 2 else 0

end Go.Proofs.YteknibaappcgmaaGreatDoor

namespace Go.Proofs.YteknibaappcgmaaGreatDoor
open Go.RowKit

end Go.Proofs.YteknibaappcgmaaGreatDoor

namespace Go.Proofs.YteknibaappcgmaaGreatDoor
open Go.RowKit

/-- A cell's values. -/
def cval (c : CC) : List Value := [.int .i64 (c.1 : Int), .string (S8 c.2)]
/-- Cells' values, one behind the other. -/
def cvals (l : List CC) : List Value := l.flatMap cval
/-- A row of cells of the call's own. -/
def OwnsC (w : World) (base : Nat) (v : Value) (l : List CC) : Prop := w.ownsRow base 98 2 v l.length (cvals l)

end Go.Proofs.YteknibaappcgmaaGreatDoor
