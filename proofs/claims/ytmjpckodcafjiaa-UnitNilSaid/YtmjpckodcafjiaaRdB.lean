/- The contracts of New, End and Number. -/
import Derived.Test.YtmjpckodcafjiaaRdA
import Derived.Test.YtmjpckodcafjiaaNumR
namespace Go.Proofs.Ytmjpckodcafjiaa
open Go.RowKit

theorem errV_neq (c : Nat) (w : World) : (binOp .neq 28 (errV c) .nilIface).run Try.prog w = .ok (.bool (decide (c ≠ 0))) w := by
  by_cases h : c = 0
  · subst h; exact run_neq_nil_nil (P := Try.prog) w 28 (by kernel_rfl)
  · rw [errV_pos h, decide_eq_true h]; exact run_neq_held_nil (P := Try.prog) w 28 _ _ (by kernel_rfl)

/-- The error at a reader's end. -/
def endC (left c : Nat) : Nat := if c ≠ 0 then c else if left = 0 then 0 else 2

theorem taken_ex (b : List Nat) : ∃ n k ok, Taken b n k (ok = true) := by
  by_cases h : ∃ n, U64 n ∧ enc n <+: b
  · obtain ⟨n, h1, h2⟩ := h
    exact ⟨n, _, true, .inl ⟨rfl, h1, h2, rfl⟩⟩
  · exact ⟨0, 0, false, .inr ⟨by simp, rfl, rfl, fun m hm hp => h ⟨m, hm, hp⟩⟩⟩

/-- What is left of the row, as the walk cuts it. -/
theorem rest_reads {w : World} {g cap place : Nat} {row : List Nat} (h : Reads w .u8 (.slice (some ⟨g, 0, none⟩) row.length cap) row) (hp : place < cap) (hle : place ≤ row.length) :
    Reads w .u8 (.slice (some ⟨g, place, none⟩) (row.length - place) (cap - place)) (row.drop place) := by
  obtain ⟨ao, cap', hv, h1, h2, h3, h4⟩ := h
  simp only [Value.slice.injEq, true_and] at hv
  obtain ⟨rfl, rfl⟩ := hv
  have hl : (row.drop place).length = row.length - place := by simp
  refine ⟨_, cap - place, by rw [hl], by omega, by omega, by simp, ?_⟩
  rcases h4 with rfl | ⟨b, off, ha, hb, hc⟩
  · left; simp
  · simp only [Option.some.injEq, Addr.mk.injEq, and_true] at ha
    obtain ⟨rfl, rfl⟩ := ha
    refine .inr ⟨g, place, rfl, hb, fun i hi => ?_⟩
    rw [hl] at hi
    have := hc (place + i) (by omega)
    rw [Nat.zero_add] at this
    rw [this]
    simp [List.getD]

end Go.Proofs.Ytmjpckodcafjiaa
