/- Acts as they are recorded: which there are. -/
import Derived.Test.YtpebmmhokigglaaDaP
import Derived.Test.YtpebmmhokigglaaCaP
import Derived.BigQuiet
namespace Go.Proofs.Ytpebmmhokigglaa
open Go.RowKit

/-- An act. -/
structure RA where
  kind : Int
  epoch : Int
  addr : Int
  data : List Nat
def rmost (k : Int) : Int := if k = 2 ∨ k = 3 then 1048575 else 1048576
/-- An error's number of an act. -/
def rchk (k e a : Int) (n : Nat) : Nat :=
  if k < 1 ∨ 5 < k ∨ e < 0 ∨ 1099511627776 < e ∨ a < 0 ∨ rmost k < a then 1 else if 64 < n then 3 else if a ≠ 0 ∧ k = 1 ∨ 0 < n ∧ k ≠ 2 then 2 else 0
theorem rchk_zero {k e a : Int} {n : Nat} (h : rchk k e a n = 0) : 1 ≤ k ∧ k ≤ 5 ∧ 0 ≤ e ∧ e ≤ 1099511627776 ∧ 0 ≤ a ∧ a ≤ 1048576 ∧ n ≤ 64 ∧ (k = 1 → a = 0) ∧ (k ≠ 2 → n = 0) ∧ a ≤ rmost k := by
  unfold rchk at h
  split at h
  · cases h
  · split at h
    · cases h
    · split at h
      · cases h
      · have : rmost k ≤ 1048576 := by unfold rmost; split <;> decide
        omega

end Go.Proofs.Ytpebmmhokigglaa
