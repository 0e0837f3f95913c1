/- The contracts of Fixed and Text. -/
import Derived.Test.YtmjpckodcafjiaaRdC
import Derived.StillTailTactics
namespace Go.Proofs.Ytmjpckodcafjiaa
open Go.RowKit

/-- What is cut out of the row. -/
theorem part_reads {w : World} {g cap place many : Nat} {row : List Nat} (h : Reads w .u8 (.slice (some ⟨g, 0, none⟩) row.length cap) row) (hp : place < cap) (hle : place + many ≤ row.length) :
    Reads w .u8 (.slice (some ⟨g, place, none⟩) many (cap - place)) ((row.drop place).take many) := by
  obtain ⟨ao, cap', hv, h1, h2, h3, h4⟩ := h
  simp only [Value.slice.injEq, true_and] at hv
  obtain ⟨rfl, rfl⟩ := hv
  have hl : ((row.drop place).take many).length = many := by rw [List.length_take, List.length_drop]; omega
  refine ⟨_, cap - place, by rw [hl], by omega, by omega, by simp, ?_⟩
  rcases h4 with rfl | ⟨b, off, ha, hb, hc⟩
  · left; simp
  · simp only [Option.some.injEq, Addr.mk.injEq, and_true] at ha
    obtain ⟨rfl, rfl⟩ := ha
    refine .inr ⟨g, place, rfl, hb, fun i hi => ?_⟩
    rw [hl] at hi
    have := hc (place + i) (by omega)
    rw [Nat.zero_add] at this
    rw [this]
    simp [List.getD, hi]

theorem grown_drew (w : World) (row : Option Nat) : w.grownBy w.drew row := ⟨rfl, rfl, rfl, Nat.le_refl _, fun _ _ _ => rfl⟩
theorem grown_of_below {w w' : World} (h : Below w.heap.size w w') (row : Option Nat) : w.grownBy w' row := ⟨h.os, h.tape, h.output, h.size, fun k hk _ => h.block k hk⟩

end Go.Proofs.Ytmjpckodcafjiaa
