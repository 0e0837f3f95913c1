/- Package segment: At, Same. -/
import Derived.Test.YtojndpelilolkaaGreatSgC
namespace Go.Proofs.YtojndpelilolkaaGreat
open Go.RowKit

theorem sameC_iff (k1 k2 : Int) (d1 d2 : List Nat) : sameC k1 d1 k2 d2 = true ↔ (k1, d1) = (k2, d2) := by
  unfold sameC
  simp
theorem take_eq_next {a b : List IC} {k : Nat} (h : a.take k = b.take k) (ha : k < a.length) (hb : k < b.length) (h2 : a.getD k (0, []) = b.getD k (0, [])) : a.take (k + 1) = b.take (k + 1) := by
  rw [take_snocI a k ha, take_snocI b k hb, h, h2]

/-- Are two segments the same? -/
def sgSame (f1 : Int) (a : List IC) (f2 : Int) (b : List IC) : Bool := decide (f1 = f2) && decide (a = b)

/-- What At answers. -/
def SgAtPost (f a : Int) (cs : List IC) (w : World) (e : Ending) (w' : World) : Prop :=
  ∃ (p : Int) (k : Int) (v : Value) (d : List Nat), p = wrap64 (a - f) ∧ e = .returned (.tuple #[.agg #[.int .i64 k, v], .bool (decide (0 ≤ p ∧ p < (cs.length : Int)))]) ∧ Reads w' .u8 v d ∧
    (0 ≤ p ∧ p < (cs.length : Int) → cs.getD p.toNat (0, []) = (k, d)) ∧ Below w.heap.size w w'

end Go.Proofs.YtojndpelilolkaaGreat
