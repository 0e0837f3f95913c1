/- The contracts of the document's own reader: fail, End, Number. · The contracts of the document's own reader: Within, count, Fixed. · The contracts of the document's own reader: count, Fixed. · The contracts of the document's own reader: TextOf, ListOf. -/
import Derived.Test.YtgnalcobcdgnkaaGreatDoorRdP
import Derived.Deep.RegionHeld3
import Derived.Deep.DrawnRows
import Derived.RegionTactic
namespace Go.Proofs.YtgnalcobcdgnkaaGreatDoor
open Go.RowKit

/-- A slice that reads, its cells in a block below B. -/
def RdU (w : World) (B : Nat) (v : Value) (l : List Nat) : Prop := Reads w .u8 v l ∧ ∃ ao n cap, v = .slice ao n cap ∧ (cap = 0 ∨ ∃ b off, ao = some ⟨b, off, none⟩ ∧ b < B)
theorem RdU.reads {w : World} {B : Nat} {v : Value} {l : List Nat} (h : RdU w B v l) : Reads w .u8 v l := h.1
theorem RdU.below {w w' : World} {B : Nat} {v : Value} {l : List Nat} (h : RdU w B v l) (hb : Below B w w') : RdU w' B v l := by
  refine ⟨?_, h.2⟩
  obtain ⟨⟨ao, cap, rfl, h1, h2, h3, h4⟩, h5⟩ := h
  refine ⟨ao, cap, rfl, h1, h2, h3, ?_⟩
  rcases h4 with h4 | ⟨b, off, rfl, hlt, hc⟩
  · exact .inl h4
  · by_cases hl : l = []
    · exact .inl hl
    · obtain ⟨ao', n', cap', hv, h6⟩ := h5
      simp only [Value.slice.injEq] at hv
      obtain ⟨rfl, rfl, rfl⟩ := hv
      rcases h6 with h6 | ⟨b', off', ha, hB⟩
      · have := List.length_pos_iff.2 hl; omega
      · simp only [Option.some.injEq, Addr.mk.injEq, and_true] at ha
        obtain ⟨rfl, rfl⟩ := ha
        exact .inr ⟨b, off, rfl, Nat.lt_of_lt_of_le hlt hb.size, fun i hi => (hb.cell (p := ⟨b, off + i, none⟩) hB).trans (hc i hi)⟩
theorem RdU.nil (w : World) (B : Nat) (ao : Option Addr) : RdU w B (.slice ao 0 0) [] := ⟨⟨ao, 0, rfl, by simp, by simp [maxLen], fun _ => rfl, .inl rfl⟩, _, _, _, rfl, .inl rfl⟩

end Go.Proofs.YtgnalcobcdgnkaaGreatDoor

namespace Go.Proofs.YtgnalcobcdgnkaaGreatDoor
open Go.RowKit

end Go.Proofs.YtgnalcobcdgnkaaGreatDoor

namespace Go.Proofs.YtgnalcobcdgnkaaGreatDoor
open Go.RowKit

end Go.Proofs.YtgnalcobcdgnkaaGreatDoor

namespace Go.Proofs.YtgnalcobcdgnkaaGreatDoor
open Go.RowKit

end Go.Proofs.YtgnalcobcdgnkaaGreatDoor
