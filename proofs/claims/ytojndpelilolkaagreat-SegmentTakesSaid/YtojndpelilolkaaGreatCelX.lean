/- The contract of the document's own Run: the walk. -/
import Derived.Test.YtojndpelilolkaaGreatCelW
namespace Go.Proofs.YtojndpelilolkaaGreat
open Go.RowKit

theorem rbytes_len {run : List CC} (hl : run.length ≤ 64) (hok : ∀ c ∈ run, okC c) : (rbytes run).length ≤ 6410 := by
  have h1 := items_len _ run [] rfl hl hok
  have h2 := enc_len10 (n := run.length) (by unfold U64; omega)
  unfold rbytes
  rw [List.length_append]
  omega

theorem lit_two (wr : World) (o : Obj) (q m kk : Nat) : Reads (((wr.alloc o).drewN q).alloc (.cells #[.int .u8 (m : Int), .int .u8 (kk : Int)] 5)) .u8 (.slice (some ⟨wr.heap.size + 1, 0, none⟩) 2 2) [m, kk] := by
  have h := reads_marked ((wr.alloc o).drewN q) 5 .u8 [m, kk] #[.int .u8 (m : Int), .int .u8 (kk : Int)] (0, 0) rfl (by simp [maxLen])
  have e : ((wr.alloc o).drewN q).heap.size = wr.heap.size + 1 := by show (wr.alloc o).heap.size = _; simp
  rw [e] at h
  exact h

end Go.Proofs.YtojndpelilolkaaGreat
