/- An append of one record, at a step of a region that draws its order. -/
import Derived.Test.YtgnalcobcdgnkaaGreatDoorDbP
import Derived.Deep.RegionHeldLaw
import Derived.Deep.AppendLies
namespace Go.Proofs.YtgnalcobcdgnkaaGreatDoor
open Go.RowKit

theorem RecOwn.alloc {w : World} {base : Nat} {e : TypeId} {k : Nat} {v : Value} {rows : List (List Value)} (h : RecOwn w base e k v rows) (o : Obj) : RecOwn (w.alloc o) base e k v rows :=
  h.keep fun _ hj => Below.heap_alloc _ _ _ (h.block hj).2.1
theorem RecOwn.drew {w : World} {base : Nat} {e : TypeId} {k : Nat} {v : Value} {rows : List (List Value)} (h : RecOwn w base e k v rows) : RecOwn w.drew base e k v rows := h

end Go.Proofs.YtgnalcobcdgnkaaGreatDoor
