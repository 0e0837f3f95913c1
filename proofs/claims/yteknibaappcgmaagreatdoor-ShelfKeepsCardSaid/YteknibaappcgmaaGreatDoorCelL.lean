/- May is an order: the mathematics; cells written out as a slice. -/
import Derived.Test.YteknibaappcgmaaGreatDoorUvQ
namespace Go.Proofs.YteknibaappcgmaaGreatDoor
open Go.RowKit

theorem same_iff {k1 k2 : Int} {d1 d2 : List Nat} : sameC k1 d1 k2 d2 = true ↔ k1 = k2 ∧ d1 = d2 := by simp [sameC]
end Go.Proofs.YteknibaappcgmaaGreatDoor
