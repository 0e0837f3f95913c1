/- Acts as they are recorded: their bytes. · The contract of the document's own Bytes of a cell. · A region that draws its order, walked by hand under a condition on the world. · Acts as they are recorded: the document's own bytes; an act as the document's. · The contract of a number's size: math/bits.Len64, and Size. · The contracts of package frame's Take, All, Prefix, One and Size. -/
import Derived.Test.YtgnalcobcdgnkaaGreatDoorQb
import Derived.Test.YtgnalcobcdgnkaaGreatDoorFbP
import Derived.Test.YtgnalcobcdgnkaaGreatDoorQa
import Derived.Lib.AtoiErrMem
import Derived.Test.YtgnalcobcdgnkaaGreatDoorBase
import Derived.OrdersHeld
import Derived.Laws.Rows
import Derived.Laws.AppendOwnNone
import Derived.Deep.RegionLaw
import Derived.Deep.RegionHeld3
import Derived.Test.YtgnalcobcdgnkaaGreatDoorRows
import Derived.WalkSpells
namespace Go.Proofs.YtgnalcobcdgnkaaGreatDoor
open Go.RowKit

end Go.Proofs.YtgnalcobcdgnkaaGreatDoor

namespace Go.Proofs.YtgnalcobcdgnkaaGreatDoor
open Go.RowKit

end Go.Proofs.YtgnalcobcdgnkaaGreatDoor

namespace Go.Proofs.YtgnalcobcdgnkaaGreatDoor
open Go.RowKit

section
variable {P : Program} {md : Region.Mode} {ops : Array Oper} {Q : Exit → Act → World → Prop} {S : World → Prop}

theorem Owns.keep {w w' : World} {base : Nat} {e : TypeId} {k : IntKind} {v : Value} {l : List Nat} (h : Owns w base e k v l) (hb : Below w.heap.size w w') : Owns w' base e k v l := by
  unfold Owns World.ownsRow at *
  obtain ⟨hl, h | ⟨g, cap, cur, hv, hbg, hg, r⟩⟩ := h
  · exact ⟨hl, .inl h⟩
  · exact ⟨hl, .inr ⟨g, cap, cur, hv, hbg, (hb.block g (Array.getElem?_eq_some_iff.1 hg).1).trans hg, r⟩⟩

end

end Go.Proofs.YtgnalcobcdgnkaaGreatDoor

namespace Go.Proofs.YtgnalcobcdgnkaaGreatDoor
open Go.RowKit

end Go.Proofs.YtgnalcobcdgnkaaGreatDoor

namespace Go.Proofs.YtgnalcobcdgnkaaGreatDoor
open Go.RowKit
set_option linter.unusedVariables false

/-- r is the number of n's bits. -/
def BL (n r : Nat) : Prop := n < 2 ^ r ∧ (r = 0 ∨ 2 ^ (r - 1) ≤ n)

theorem BL.up {n s j t : Nat} (h : BL j t) (h1 : 2 ^ s * j ≤ n) (h2 : n < 2 ^ s * (j + 1)) (h0 : s = 0 ∨ 1 ≤ j) : BL n (s + t) := by
  obtain ⟨a, b⟩ := h
  rcases h0 with rfl | h0
  · simp only [Nat.pow_zero, Nat.one_mul, Nat.zero_add] at *
    obtain rfl : n = j := by omega
    exact ⟨a, b⟩
  · have ht : t ≠ 0 := by rintro rfl; simp at a; omega
    refine ⟨?_, .inr ?_⟩
    · rw [Nat.pow_add]
      exact Nat.lt_of_lt_of_le h2 (Nat.mul_le_mul_left _ (by omega))
    · rcases b with b | b
      · exact absurd b ht
      · rw [show s + t - 1 = s + (t - 1) from by omega, Nat.pow_add]
        exact Nat.le_trans (Nat.mul_le_mul_left _ b) h1

end Go.Proofs.YtgnalcobcdgnkaaGreatDoor

namespace Go.Proofs.YtgnalcobcdgnkaaGreatDoor
open Go.RowKit

/-- What the program's One answers: the text, the error's number. -/
def FO (b t : List Nat) (c : Nat) : Prop := ∃ t1 s1 c1, FT b t1 s1 c1 ∧ if c1 ≠ 0 then t = [] ∧ c = c1 else if s1 < b.length then t = [] ∧ c = 2 else t = t1 ∧ c = 0

end Go.Proofs.YtgnalcobcdgnkaaGreatDoor
