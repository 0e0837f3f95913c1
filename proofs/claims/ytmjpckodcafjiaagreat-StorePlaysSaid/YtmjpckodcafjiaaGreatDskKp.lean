/- DiskKeeps, walked. -/
import Derived.Test.YtmjpckodcafjiaaGreatDskZ
import Derived.Test.YtmjpckodcafjiaaGreatDskSy
import Derived.Maps.RangeWalk
namespace Go.Proofs.YtmjpckodcafjiaaGreat
open Go.RowKit

theorem dwrite_named {d : DS} {n : Nm} {b : List Nat} (h : (dwrite d n b).2 = 0) : named n = true := by
  unfold dwrite at h
  split at h
  · rename_i h2; exact absurd h h2
  · split at h
    · cases h
    · rename_i h2; simpa using h2
theorem named_short {n : Nm} (h : named n = true) : n.length ≤ 24 := by
  unfold named at h
  simp only [Bool.and_eq_true, decide_eq_true_eq] at h
  exact h.1.2
theorem dwrite_shown {d : DS} {n : Nm} {b : List Nat} : ((dwrite d n b).2 = 0 ∧ (dwrite d n b).1.shown = fput d.shown n b) ∨ ((dwrite d n b).2 ≠ 0 ∧ (dwrite d n b).1.shown = d.shown) := by
  obtain ⟨h1, h | h⟩ := dwrite_keeps d n b
  · refine .inl ⟨h.1, ?_⟩
    unfold DS.shown
    rw [h1, h.2, shownOf_snoc]
    unfold capply
    rw [if_pos rfl]
  · exact .inr ⟨h.1, by unfold DS.shown; rw [h1, h.2]⟩

end Go.Proofs.YtmjpckodcafjiaaGreat
