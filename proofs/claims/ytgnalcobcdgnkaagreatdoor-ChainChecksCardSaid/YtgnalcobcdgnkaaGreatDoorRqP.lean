/- Acts as they are recorded: taken by the program. · Acts as they are recorded: Take; what is alive. · Acts as they are recorded: what is alive; a kind's word. · Acts that came in. · Acts as they are recorded: there and back, the mathematics. · The contracts of package cell's Check, Same, May, Copy, Later, Word. · The contracts of package cell's Copy, Later, Word. · Slices of cells; the law's own Long. -/
import Derived.Test.YtgnalcobcdgnkaaGreatDoorRaP
import Derived.Test.YtgnalcobcdgnkaaGreatDoorRdP
import Derived.Test.YtgnalcobcdgnkaaGreatDoorDaP
import Derived.ProofKit
import Derived.Deep.Slices
import Derived.Deep.Grids
import Derived.ChangeSame
namespace Go.Proofs.YtgnalcobcdgnkaaGreatDoor
open Go.RowKit

/-- What an act's text begins with: what is taken, what is left, an error's number. -/
def TAct (rest : List Nat) (k e a : Nat) (d rest' : List Nat) (c' : Nat) : Prop :=
  ∃ n1 r1 c1 n2 r2 c2 r3 c3, NumRel rest 0 n1 r1 c1 ∧ k = withinR n1 5 ∧ NumRel r1 (if k < 1 then (if withinC n1 c1 5 = 0 then 1 else withinC n1 c1 5) else withinC n1 c1 5) n2 r2 c2 ∧ e = withinR n2 1099511627776 ∧
    (if k = 1 then a = 0 ∧ r3 = r2 ∧ c3 = withinC n2 c2 1099511627776 else ∃ n3 c4, NumRel r2 (withinC n2 c2 1099511627776) n3 r3 c4 ∧ a = withinR n3 1048576 ∧ c3 = withinC n3 c4 1048576) ∧
    (if k = 2 then ∃ n4 r4 c5, NumRel r3 c3 n4 r4 c5 ∧ FixRel r4 (manyC n4 c5 64) (manyR n4 64 : Nat) d rest' c' else d = [] ∧ rest' = r3 ∧ c' = c3)
theorem TAct.unique {rest : List Nat} {k e a k' e' a' : Nat} {d d' r r' : List Nat} {c c' : Nat} (h : TAct rest k e a d r c) (h' : TAct rest k' e' a' d' r' c') : k = k' ∧ e = e' ∧ a = a' ∧ d = d' ∧ r = r' ∧ c = c' := by
  obtain ⟨n1, r1, c1, n2, r2, c2, r3, c3, p1, rfl, p2, rfl, p3, p4⟩ := h
  obtain ⟨m1, s1, b1, m2, s2, b2, s3, b3, q1, rfl, q2, rfl, q3, q4⟩ := h'
  obtain ⟨rfl, rfl, rfl⟩ := p1.unique q1
  obtain ⟨rfl, rfl, rfl⟩ := p2.unique q2
  obtain ⟨rfl, rfl, rfl⟩ : a = a' ∧ r3 = s3 ∧ c3 = b3 := by
    by_cases h1 : withinR n1 5 = 1
    · rw [if_pos h1] at p3 q3
      exact ⟨p3.1.trans q3.1.symm, p3.2.1.trans q3.2.1.symm, p3.2.2.trans q3.2.2.symm⟩
    · rw [if_neg h1] at p3 q3
      obtain ⟨n3, c4, x1, x2, x3⟩ := p3
      obtain ⟨m3, b4, y1, y2, y3⟩ := q3
      obtain ⟨rfl, rfl, rfl⟩ := x1.unique y1
      exact ⟨x2.trans y2.symm, rfl, x3.trans y3.symm⟩
  obtain ⟨rfl, rfl, rfl⟩ : d = d' ∧ r = r' ∧ c = c' := by
    by_cases h2 : withinR n1 5 = 2
    · rw [if_pos h2] at p4 q4
      obtain ⟨n4, r4, c5, x1, x2⟩ := p4
      obtain ⟨m4, s4, b5, y1, y2⟩ := q4
      obtain ⟨rfl, rfl, rfl⟩ := x1.unique y1
      exact x2.unique y2
    · rw [if_neg h2] at p4 q4
      exact ⟨p4.1.trans q4.1.symm, p4.2.1.trans q4.2.1.symm, p4.2.2.trans q4.2.2.symm⟩
  exact ⟨rfl, rfl, rfl, rfl, rfl, rfl⟩

section
variable {w W W' : World} {p : Nat} {rv : Value} {row : List Nat} {place c place' c' : Nat}
end
end Go.Proofs.YtgnalcobcdgnkaaGreatDoor

namespace Go.Proofs.YtgnalcobcdgnkaaGreatDoor
open Go.RowKit

/-- What the program's Take answers: the act, an error's number. -/
def RTake (b : List Nat) (k e a : Nat) (d : List Nat) (c : Nat) : Prop :=
  ∃ t c0, FO b t c0 ∧ if c0 ≠ 0 then k = 0 ∧ e = 0 ∧ a = 0 ∧ d = [] ∧ c = c0 else
    ∃ k1 e1 a1 d1 r1 c1, TAct t k1 e1 a1 d1 r1 c1 ∧
      if endC r1.length c1 ≠ 0 then k = 0 ∧ e = 0 ∧ a = 0 ∧ d = [] ∧ c = endC r1.length c1
      else if rchk k1 e1 a1 d1.length ≠ 0 then k = 0 ∧ e = 0 ∧ a = 0 ∧ d = [] ∧ c = rchk k1 e1 a1 d1.length else k = k1 ∧ e = e1 ∧ a = a1 ∧ d = d1 ∧ c = 0
end Go.Proofs.YtgnalcobcdgnkaaGreatDoor

namespace Go.Proofs.YtgnalcobcdgnkaaGreatDoor
open Go.RowKit

end Go.Proofs.YtgnalcobcdgnkaaGreatDoor

namespace Go.Proofs.YtgnalcobcdgnkaaGreatDoor
open Go.RowKit Go.ChangeShapes Go.WideShapes Go.Deep

section
variable {H : Type} {enc : TypeId × Value → H} {P : Program} {w : World} {base : Nat} {spare : Nat → Bool} {held : Bool}
end
end Go.Proofs.YtgnalcobcdgnkaaGreatDoor

namespace Go.Proofs.YtgnalcobcdgnkaaGreatDoor
open Go.RowKit

theorem FO.unique {b t t' : List Nat} {c c' : Nat} (h : FO b t c) (h' : FO b t' c') : t = t' ∧ c = c' := by
  obtain ⟨t1, s1, c1, hft, hif⟩ := h
  obtain ⟨t2, s2, c2, hft2, hif2⟩ := h'
  obtain ⟨rfl, rfl, rfl⟩ := hft.unique hft2
  split at hif
  · rename_i h1
    rw [if_pos h1] at hif2
    exact ⟨hif.1.trans hif2.1.symm, hif.2.trans hif2.2.symm⟩
  · rename_i h1
    rw [if_neg h1] at hif2
    split at hif
    · rename_i h2
      rw [if_pos h2] at hif2
      exact ⟨hif.1.trans hif2.1.symm, hif.2.trans hif2.2.symm⟩
    · rename_i h2
      rw [if_neg h2] at hif2
      exact ⟨hif.1.trans hif2.1.symm, hif.2.trans hif2.2.symm⟩
theorem RTake.unique {b : List Nat} {k e a k' e' a' c c' : Nat} {d d' : List Nat} (h : RTake b k e a d c) (h' : RTake b k' e' a' d' c') : k = k' ∧ e = e' ∧ a = a' ∧ d = d' ∧ c = c' := by
  obtain ⟨t, c0, hfo, hif⟩ := h
  obtain ⟨t', c0', hfo', hif'⟩ := h'
  obtain ⟨rfl, rfl⟩ := hfo.unique hfo'
  split at hif
  · rename_i h1
    rw [if_pos h1] at hif'
    obtain ⟨rfl, rfl, rfl, rfl, rfl⟩ := hif
    obtain ⟨rfl, rfl, rfl, rfl, rfl⟩ := hif'
    exact ⟨rfl, rfl, rfl, rfl, rfl⟩
  · rename_i h1
    rw [if_neg h1] at hif'
    obtain ⟨k1, e1, a1, d1, r1, c1, hta, hif⟩ := hif
    obtain ⟨k2, e2, a2, d2, r2, c2, hta', hif'⟩ := hif'
    obtain ⟨rfl, rfl, rfl, rfl, rfl, rfl⟩ := hta.unique hta'
    split at hif
    · rename_i h2
      rw [if_pos h2] at hif'
      obtain ⟨rfl, rfl, rfl, rfl, rfl⟩ := hif
      obtain ⟨rfl, rfl, rfl, rfl, rfl⟩ := hif'
      exact ⟨rfl, rfl, rfl, rfl, rfl⟩
    · rename_i h2
      rw [if_neg h2] at hif'
      split at hif
      · rename_i h3
        rw [if_pos h3] at hif'
        obtain ⟨rfl, rfl, rfl, rfl, rfl⟩ := hif
        obtain ⟨rfl, rfl, rfl, rfl, rfl⟩ := hif'
        exact ⟨rfl, rfl, rfl, rfl, rfl⟩
      · rename_i h3
        rw [if_neg h3] at hif'
        obtain ⟨rfl, rfl, rfl, rfl, rfl⟩ := hif
        obtain ⟨rfl, rfl, rfl, rfl, rfl⟩ := hif'
        exact ⟨rfl, rfl, rfl, rfl, rfl⟩
/-- A reader's errors stay. -/
theorem NumRel.err {rest r : List Nat} {c n c' : Nat} (h : NumRel rest c n r c') (hc : c' = 0) : c = 0 ∧ U64 n ∧ rest = enc n ++ r := by
  rcases h with ⟨h1, _, _, h4⟩ | ⟨h1, h2, h3, _⟩ | ⟨_, _, _, h4, _⟩
  · omega
  · exact ⟨h1, h2, h3⟩
  · omega
theorem withinC_err {n c most : Nat} (h : withinC n c most = 0) : c = 0 ∧ n ≤ most ∧ withinR n most = n := by
  unfold withinC at h
  split at h
  · split at h
    · cases h
    · omega
  · rename_i h1
    exact ⟨h, by omega, (within_good (c := c) h1).1⟩
/-- Bytes that are one frame alone. -/
theorem ft_whole {b t : List Nat} {s : Nat} (h : FT b t s 0) (hs : ¬ s < b.length) : b = fr t := by
  rcases h with ⟨h1, _⟩ | ⟨n, hn, ⟨r, hp⟩, h⟩
  · cases h1
  · rcases h with ⟨h1, _⟩ | ⟨h1, _⟩ | ⟨h1, _⟩ | ⟨_, h2, h3, h4, h5, h6⟩
    · cases h1
    · cases h1
    · cases h1
    · have hlr : r.length = n + 4 := by
        have := congrArg List.length hp
        simp at this
        omega
      have ht : b.take ((enc n).length + n) = enc n ++ r.take n := by rw [← hp, List.take_length_add_append]
      have hd : b.drop ((enc n).length + n) = r.drop n := by rw [← hp, List.drop_length_add_append]
      have htt : t = r.take n := by rw [h2, ht, List.drop_left]
      have htl : t.length = n := by rw [htt, List.length_take]; omega
      have hfb : fbody t = b.take ((enc n).length + n) := by
        unfold fbody
        rw [htl, ht, htt]
      have h4' : (b.drop ((enc n).length + n)).take 4 = b.drop ((enc n).length + n) := by
        rw [hd, List.take_of_length_le (by rw [List.length_drop]; omega)]
      unfold fr
      rw [hfb, h6, h4', List.take_append_drop]
end Go.Proofs.YtgnalcobcdgnkaaGreatDoor
