/- A reader in memory, and the contracts of New, Err, Fail, Left, End. · The contracts of New, End and Number. · The contracts of many, Within, Fixed and Text. · The contracts of Fixed and Text. · The contracts of Text and List. -/
import Derived.Test.YtgnalcobcdgnkaaGreatDoorQa
import Derived.Test.YtgnalcobcdgnkaaGreatDoorDaP
import Derived.WideLaws
import Derived.Test.YtgnalcobcdgnkaaGreatDoorEnP
import Derived.StillTailTactics
namespace Go.Proofs.YtgnalcobcdgnkaaGreatDoor
open Go.RowKit

section
variable {w : World} {p : Nat} {rv : Value} {row : List Nat} {place c : Nat}
end

end Go.Proofs.YtgnalcobcdgnkaaGreatDoor

namespace Go.Proofs.YtgnalcobcdgnkaaGreatDoor
open Go.RowKit

/-- The error at a reader's end. -/
def endC (left c : Nat) : Nat := if c ≠ 0 then c else if left = 0 then 0 else 2

end Go.Proofs.YtgnalcobcdgnkaaGreatDoor

namespace Go.Proofs.YtgnalcobcdgnkaaGreatDoor
open Go.RowKit

end Go.Proofs.YtgnalcobcdgnkaaGreatDoor

namespace Go.Proofs.YtgnalcobcdgnkaaGreatDoor
open Go.RowKit

end Go.Proofs.YtgnalcobcdgnkaaGreatDoor

namespace Go.Proofs.YtgnalcobcdgnkaaGreatDoor
open Go.RowKit

/-- Numbers taken, one by one. -/
def RunRel (rest : List Nat) (c m : Nat) (out rest' : List Nat) (c' : Nat) : Prop :=
  (c ≠ 0 ∧ out = [] ∧ rest' = rest ∧ c' = c) ∨
  (c = 0 ∧ ∃ acc : List Nat, acc.length = m ∧ (∀ x ∈ acc, U64 x) ∧ rest = encs acc ++ rest' ∧ out = acc ∧ c' = 0) ∨
  (c = 0 ∧ ∃ acc : List Nat, acc.length < m ∧ (∀ x ∈ acc, U64 x) ∧ rest = encs acc ++ rest' ∧ (∀ k, U64 k → ¬ enc k <+: rest') ∧ out = [] ∧ c' = 2)

theorem encs_cancel : ∀ (a b : List Nat) (r s : List Nat), a.length = b.length → encs a ++ r = encs b ++ s → a = b ∧ r = s := by
  intro a
  induction a with
  | nil => intro b r s hl h; obtain rfl : b = [] := List.length_eq_zero_iff.1 hl.symm; exact ⟨rfl, by simpa [encs] using h⟩
  | cons x a ih =>
    intro b r s hl h
    cases b with
    | nil => simp at hl
    | cons y b =>
      have e1 : encs (x :: a) ++ r = enc x ++ (encs a ++ r) := by simp [encs]
      have e2 : encs (y :: b) ++ s = enc y ++ (encs b ++ s) := by simp [encs]
      rw [e1, e2] at h
      have h1 : enc x <+: enc x ++ (encs a ++ r) := List.prefix_append _ _
      have h2 : enc y <+: enc x ++ (encs a ++ r) := ⟨_, h.symm⟩
      obtain rfl := enc_prefix_unique h1 h2
      obtain ⟨e3, e4⟩ := ih b r s (by simpa using hl) (List.append_cancel_left h)
      exact ⟨by rw [e3], e4⟩

/-- Fewer numbers that end where no number's bytes stand, and more of them, don't go together. -/
theorem encs_stop {a b r s : List Nat} (hl : a.length < b.length) (hb : ∀ x ∈ b, U64 x) (h : encs a ++ r = encs b ++ s) (hr : ∀ k, U64 k → ¬ enc k <+: r) : False := by
  have hd : 0 < (b.drop a.length).length := by simp; omega
  have he : encs b = encs (b.take a.length) ++ encs (b.drop a.length) := by
    unfold encs; rw [← List.flatMap_append, List.take_append_drop]
  rw [he, List.append_assoc] at h
  obtain ⟨_, h2⟩ := encs_cancel a (b.take a.length) r _ (by simp; omega) h
  cases hdb : b.drop a.length with
  | nil => rw [hdb] at hd; simp at hd
  | cons y t =>
    rw [hdb] at h2
    have hy : y ∈ b := List.mem_of_mem_drop (i := a.length) (by rw [hdb]; simp)
    exact hr y (hb y hy) ⟨encs t ++ s, by rw [h2]; simp [encs]⟩

theorem RunRel.unique {rest : List Nat} {c m : Nat} {o o' r r' : List Nat} {d d' : Nat} (h : RunRel rest c m o r d) (h' : RunRel rest c m o' r' d') : o = o' ∧ r = r' ∧ d = d' := by
  rcases h with ⟨a1, a2, a3, a4⟩ | ⟨a1, x, a2, a3, a4, a5, a6⟩ | ⟨a1, x, a2, a3, a4, a5, a6, a7⟩ <;> rcases h' with ⟨b1, b2, b3, b4⟩ | ⟨b1, y, b2, b3, b4, b5, b6⟩ | ⟨b1, y, b2, b3, b4, b5, b6, b7⟩
  · exact ⟨by rw [a2, b2], by rw [a3, b3], by rw [a4, b4]⟩
  · exact absurd b1 a1
  · exact absurd b1 a1
  · exact absurd a1 b1
  · obtain ⟨e1, e2⟩ := encs_cancel x y _ _ (by omega) (a4.symm.trans b4)
    exact ⟨by rw [a5, b5, e1], e2, by rw [a6, b6]⟩
  · exact (encs_stop (by omega) a3 (b4.symm.trans a4) b5).elim
  · exact absurd a1 b1
  · exact (encs_stop (by omega) b3 (a4.symm.trans b4) a5).elim
  · rcases Nat.lt_trichotomy x.length y.length with hl | hl | hl
    · exact (encs_stop hl b3 (a4.symm.trans b4) a5).elim
    · obtain ⟨e1, e2⟩ := encs_cancel x y _ _ hl (a4.symm.trans b4)
      exact ⟨by rw [a6, b6], e2, by rw [a7, b7]⟩
    · exact (encs_stop hl a3 (b4.symm.trans a4) b5).elim

end Go.Proofs.YtgnalcobcdgnkaaGreatDoor
