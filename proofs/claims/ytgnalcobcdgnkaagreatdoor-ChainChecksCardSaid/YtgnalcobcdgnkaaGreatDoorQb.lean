/- The contracts of the document's own cells: Check, May, Bytes, common. · The contracts of the document's own cells: common, Document, fail, Bytes. · Rows of the document's own cells; an append of one; a string's head. · Acts as they are recorded: which there are. -/
import Derived.Test.YtgnalcobcdgnkaaGreatDoorDaP
import Derived.Test.YtgnalcobcdgnkaaGreatDoorEnP
import Derived.Test.YtgnalcobcdgnkaaGreatDoorRrP
import Derived.Laws.StructEq
import Derived.Laws.BytesArg
import Derived.BigQuiet
namespace Go.Proofs.YtgnalcobcdgnkaaGreatDoor
open Go.RowKit

end Go.Proofs.YtgnalcobcdgnkaaGreatDoor

namespace Go.Proofs.YtgnalcobcdgnkaaGreatDoor
open Go.RowKit

end Go.Proofs.YtgnalcobcdgnkaaGreatDoor

namespace Go.Proofs.YtgnalcobcdgnkaaGreatDoor
open Go.RowKit

end Go.Proofs.YtgnalcobcdgnkaaGreatDoor

namespace Go.Proofs.YtgnalcobcdgnkaaGreatDoor
open Go.RowKit

def rmost (k : Int) : Int := if k = 2 ∨ k = 3 then 1048575 else 1048576
/-- An error's number of an act. -/
def rchk (k e a : Int) (n : Nat) : Nat :=
  if k < 1 ∨ 5 < k ∨ e < 0 ∨ 1099511627776 < e ∨ a < 0 ∨ rmost k < a then 1 else if 64 < n then 3 else if a ≠ 0 ∧ k = 1 ∨ 0 < n ∧ k ≠ 2 then 2 else 0
end Go.Proofs.YtgnalcobcdgnkaaGreatDoor
