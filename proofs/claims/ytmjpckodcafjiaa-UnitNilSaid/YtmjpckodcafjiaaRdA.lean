/- A reader in memory, and the contracts of New, Err, Fail, Left, End. -/
import Derived.Test.YtmjpckodcafjiaaTakeB
import Derived.Test.YtmjpckodcafjiaaNumA
import Derived.Test.YtmjpckodcafjiaaCloneA
import Derived.WideLaws
namespace Go.Proofs.Ytmjpckodcafjiaa
open Go.RowKit

section
variable {w : World} {p : Nat} {rv : Value} {row : List Nat} {place c : Nat}
end

theorem grown_set (w : World) (p i : Nat) (v : Value) : w.grownBy (w.setCell ⟨p, i, none⟩ v) (some p) :=
  ⟨rfl, rfl, rfl, by simp, fun k _ hk => heap_setCell_other w ⟨p, i, none⟩ k _ (fun e => hk (by simp [e]))⟩
theorem grown_drewN (w : World) (n : Nat) (row : Option Nat) : w.grownBy (w.drewN n) row := ⟨rfl, rfl, rfl, Nat.le_refl _, fun _ _ _ => rfl⟩

/-- What is owned is nil and nothing, or begins at a block's head. -/
theorem Owns.form {w : World} {base : Nat} {e : TypeId} {k : IntKind} {v : Value} {l : List Nat} (h : Owns w base e k v l) :
    (v = .slice none 0 0 ∧ l = []) ∨ ∃ g cap, v = .slice (some ⟨g, 0, none⟩) l.length cap ∧ l.length ≤ cap ∧ cap ≤ maxLen ∧ ∀ i, i < l.length → w.cell? ⟨g, i, none⟩ = some (.int k ((l.getD i 0 : Nat) : Int)) := by
  have h0 := h
  unfold Owns at h0
  rcases h.2 with ⟨rfl, hn⟩ | ⟨g, cap, cur, rfl, hb, hg, hnc, hm, hs, ht⟩
  · exact .inl ⟨rfl, List.length_eq_zero_iff.1 hn⟩
  · exact .inr ⟨g, cap, rfl, hnc, hm, fun i hi => by rw [h0.cellAt i (by omega), vals_get k l i hi]⟩

/-- A world and draws. -/
def Drawn (w : World) (r : Value) (e : Ending) (w' : World) : Prop := e = .returned r ∧ ∃ n, w' = w.drewN n

end Go.Proofs.Ytmjpckodcafjiaa
