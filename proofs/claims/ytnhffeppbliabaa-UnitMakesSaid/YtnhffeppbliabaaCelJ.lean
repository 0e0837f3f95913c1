/- The contract of package cell's Put; the fixed fact at the head of the cell statements. -/
import Derived.Test.YtnhffeppbliabaaCelI
import Derived.Test.YtnhffeppbliabaaPutA
import Derived.Test.YtnhffeppbliabaaGrowA
namespace Go.Proofs.Ytnhffeppbliabaa
open Go.RowKit

theorem reads_none (w : World) (k : IntKind) : Reads w k (.slice none 0 0) [] := ⟨none, 0, rfl, by simp, by simp [maxLen], by simp, .inl rfl⟩

/-- What Put answers. -/
def CPut (b : List Nat) (k : Int) (d : List Nat) (w : World) (e : Ending) (w' : World) : Prop :=
  ∃ v' out, e = .returned (.tuple #[v', errV (chk k d.length)]) ∧ Owns w' w.heap.size 5 .u8 v' out ∧ out = (if chk k d.length = 0 then b ++ cbytes (k.toNat, d) else []) ∧ Below w.heap.size w w'

theorem cbytes_pos (c : CC) : 0 < (cbytes c).length := by
  unfold cbytes
  split
  · rw [List.length_append]; have := enc_pos 1; omega
  · exact enc_pos _

end Go.Proofs.Ytnhffeppbliabaa
