/- Package manifest: Find; what Find finds of a right manifest. -/
import Derived.Test.YtgnalcobcdgnkaaDoorQe
namespace Go.Proofs.YtgnalcobcdgnkaaDoor
open Go.RowKit

abbrev p0 : PT := (0, 0, 0, [])
/-- Whether an address is one of a part's. -/
def inP (p : PT) (x : Int) : Prop := p.1 ≤ x ∧ x < p.1 + p.2.1
instance (p : PT) (x : Int) : Decidable (inP p x) := by unfold inP; exact inferInstance
end Go.Proofs.YtgnalcobcdgnkaaDoor
