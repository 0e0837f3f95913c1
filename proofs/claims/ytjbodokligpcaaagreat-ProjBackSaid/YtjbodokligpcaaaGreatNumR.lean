/- What a reader takes, as relations over what is left and the error; nothing of the program. -/
import Derived.Test.YtjbodokligpcaaaGreatEnc
namespace Go.Proofs.YtjbodokligpcaaaGreat

/-- What a number taken does to what is left, and to the error. -/
def NumRel (rest : List Nat) (c n : Nat) (rest' : List Nat) (c' : Nat) : Prop :=
  (c ≠ 0 ∧ n = 0 ∧ rest' = rest ∧ c' = c) ∨ (c = 0 ∧ U64 n ∧ rest = enc n ++ rest' ∧ c' = 0) ∨ (c = 0 ∧ n = 0 ∧ rest' = rest ∧ c' = 2 ∧ ∀ m, U64 m → ¬ enc m <+: rest)

theorem NumRel.unique {rest : List Nat} {c n n' : Nat} {r r' : List Nat} {d d' : Nat} (h : NumRel rest c n r d) (h' : NumRel rest c n' r' d') : n = n' ∧ r = r' ∧ d = d' := by
  rcases h with ⟨a1, a2, a3, a4⟩ | ⟨a1, a2, a3, a4⟩ | ⟨a1, a2, a3, a4, a5⟩ <;> rcases h' with ⟨b1, b2, b3, b4⟩ | ⟨b1, b2, b3, b4⟩ | ⟨b1, b2, b3, b4, b5⟩
  · exact ⟨by rw [a2, b2], by rw [a3, b3], by rw [a4, b4]⟩
  · exact absurd b1 a1
  · exact absurd b1 a1
  · exact absurd a1 b1
  · have h1 : enc n <+: rest := ⟨r, a3.symm⟩
    have h2 : enc n' <+: rest := ⟨r', b3.symm⟩
    obtain rfl := enc_prefix_unique h1 h2
    rw [a3] at b3
    exact ⟨rfl, List.append_cancel_left b3, by rw [a4, b4]⟩
  · exact absurd ⟨r, a3.symm⟩ (b5 _ a2)
  · exact absurd a1 b1
  · exact absurd ⟨r', b3.symm⟩ (a5 _ b2)
  · exact ⟨by rw [a2, b2], by rw [a3, b3], by rw [a4, b4]⟩

theorem NumRel.u64 {rest : List Nat} {c n : Nat} {r : List Nat} {d : Nat} (h : NumRel rest c n r d) : U64 n := by
  rcases h with ⟨_, rfl, _⟩ | ⟨_, a2, _⟩ | ⟨_, rfl, _⟩
  · exact (by decide : 0 < 18446744073709551616)
  · exact a2
  · exact (by decide : 0 < 18446744073709551616)

theorem NumRel.len {rest : List Nat} {c n : Nat} {r : List Nat} {d : Nat} (h : NumRel rest c n r d) : r.length ≤ rest.length := by
  rcases h with ⟨_, _, rfl, _⟩ | ⟨_, _, rfl, _⟩ | ⟨_, _, rfl, _⟩
  · exact Nat.le_refl _
  · simp
  · exact Nat.le_refl _

/-- How many follow, and the error then. -/
def manyR (n : Nat) (most : Int) : Nat := if most < 0 ∨ most < (n : Int) then 0 else n
def manyC (n c : Nat) (most : Int) : Nat := if most < 0 ∨ most < (n : Int) then (if c = 0 then 3 else c) else c
theorem many_bad {n c : Nat} {most : Int} (h : most < 0 ∨ most < (n : Int)) : manyR n most = 0 ∧ manyC n c most = (if c = 0 then 3 else c) := ⟨if_pos h, if_pos h⟩
theorem many_good {n c : Nat} {most : Int} (h : ¬ (most < 0 ∨ most < (n : Int))) : manyR n most = n ∧ manyC n c most = c := ⟨if_neg h, if_neg h⟩

/-- A number within bounds, and the error then. -/
def withinR (n most : Nat) : Nat := if most < n ∨ 4611686018427387904 < n then 0 else n
def withinC (n c most : Nat) : Nat := if most < n ∨ 4611686018427387904 < n then (if c = 0 then 1 else c) else c
theorem within_bad {n c most : Nat} (h : most < n ∨ 4611686018427387904 < n) : withinR n most = 0 ∧ withinC n c most = (if c = 0 then 1 else c) := ⟨if_pos h, if_pos h⟩
theorem within_good {n c most : Nat} (h : ¬ (most < n ∨ 4611686018427387904 < n)) : withinR n most = n ∧ withinC n c most = c := ⟨if_neg h, if_neg h⟩

/-- So many bytes taken. -/
def FixRel (rest : List Nat) (c : Nat) (many : Int) (out rest' : List Nat) (c' : Nat) : Prop :=
  (c ≠ 0 ∧ out = [] ∧ rest' = rest ∧ c' = c) ∨ (c = 0 ∧ (many < 0 ∨ (rest.length : Int) < many) ∧ out = [] ∧ rest' = rest ∧ c' = 2) ∨
  (c = 0 ∧ 0 ≤ many ∧ many ≤ (rest.length : Int) ∧ out = rest.take many.toNat ∧ rest' = rest.drop many.toNat ∧ c' = 0)

theorem FixRel.unique {rest : List Nat} {c : Nat} {many : Int} {o o' r r' : List Nat} {d d' : Nat} (h : FixRel rest c many o r d) (h' : FixRel rest c many o' r' d') : o = o' ∧ r = r' ∧ d = d' := by
  rcases h with ⟨a1, a2, a3, a4⟩ | ⟨a1, a2, a3, a4, a5⟩ | ⟨a1, a2, a3, a4, a5, a6⟩ <;> rcases h' with ⟨b1, b2, b3, b4⟩ | ⟨b1, b2, b3, b4, b5⟩ | ⟨b1, b2, b3, b4, b5, b6⟩
  · exact ⟨by rw [a2, b2], by rw [a3, b3], by rw [a4, b4]⟩
  · exact absurd b1 a1
  · exact absurd b1 a1
  · exact absurd a1 b1
  · exact ⟨by rw [a3, b3], by rw [a4, b4], by rw [a5, b5]⟩
  · omega
  · exact absurd a1 b1
  · omega
  · exact ⟨by rw [a4, b4], by rw [a5, b5], by rw [a6, b6]⟩

end Go.Proofs.YtjbodokligpcaaaGreat
