/- The contract of the document's own Bytes of a cell. -/
import Derived.Test.YtnhffeppbliabaaCelC
import Derived.Test.YtnhffeppbliabaaRefA
import Derived.Lib.AtoiErrMem
namespace Go.Proofs.Ytnhffeppbliabaa
open Go.RowKit

/-- What a string's bytes are as a new row. -/
theorem bytesWorld_reads (w : World) (e : TypeId) (d : List Nat) (hd : ∀ y ∈ d, y < 256) (hl : d.length ≤ maxLen) :
    Reads (Lib.bytesWorld w e (S8 d)) .u8 (.slice (some ⟨w.heap.size, 0, none⟩) (S8 d).size (grownCap w (S8 d).size 0 e)) d := by
  refine ⟨some ⟨w.heap.size, 0, none⟩, grownCap w (S8 d).size 0 e, ?_, ?_, ?_, ?_, .inr ⟨w.heap.size, 0, rfl, by rw [Lib.bytesWorld_size]; omega, fun i hi => ?_⟩⟩
  · rw [S8_size]
  · have := grownCap_ge w (S8 d).size 0 e
    rw [S8_size] at this ⊢
    exact this
  · exact grownCap_le_maxLen _ _ _ _ (by rw [S8_size]; exact hl)
  · intro h
    cases h
  rw [Nat.zero_add, Lib.bytesWorld_cell _ _ _ _ (by rw [S8_size]; exact hi), S8_list]
  have hy : d.getD i 0 < 256 := by
    rw [show d.getD i 0 = d[i] by simp [List.getD, hi]]
    exact hd _ (List.getElem_mem hi)
  have : (((d.map (fun n : Nat => (n : Int))).map (fun n : Int => UInt8.ofNat n.toNat)).getD i 0).toNat = d.getD i 0 := by
    simp [List.getD, hi] at hy ⊢
    omega
  rw [this]

/-- A literal of one byte. -/
theorem owns_one8 (w : World) (base : Nat) (e : TypeId) (n : Nat) (hb : base ≤ w.heap.size) : Owns (w.alloc (.cells #[.int .u8 (n : Int)] e)) base e .u8 (.slice (some ⟨w.heap.size, 0, none⟩) 1 1) [n] :=
  World.ownsRow_lit w #[.int .u8 (n : Int)] 1 hb (by simp [maxLen]) rfl

end Go.Proofs.Ytnhffeppbliabaa
