/- CellChecks: what its walks share. -/
import Derived.Test.YtdaeplhoonmipaaCelY
import Derived.Test.YtdaeplhoonmipaaCelF
import Derived.Test.YtdaeplhoonmipaaExtB
import Derived.Test.YtdaeplhoonmipaaHeldA
import Derived.Test.YtdaeplhoonmipaaCelQ
namespace Go.Proofs.Ytdaeplhoonmipaa
open Go.RowKit

theorem Try.infoCell2 : (Try.prog.info? 24).map (·.size) = some 2 := by kernel_rfl
theorem Try.infoRef2 : (Try.prog.info? 29).map (·.size) = some 2 := by kernel_rfl

theorem cbytes_byte {c : CC} (h : okC c) : ∀ y ∈ cbytes c, y < 256 := by
  obtain ⟨h3, h64, _, h8⟩ := h
  unfold cbytes
  split
  · exact app_byte (enc_u64 (by unfold U64; omega)) (app_byte (enc_u64 (by unfold U64; omega)) h8)
  · exact enc_u64 (by unfold U64; omega)
theorem cbytes_len {c : CC} (h : okC c) : (cbytes c).length ≤ 100 := by
  obtain ⟨h3, h64, _, _⟩ := h
  unfold cbytes
  have e1 := enc_len10 (n := 1) (by unfold U64; omega)
  have e2 := enc_len10 (n := c.2.length) (by unfold U64; omega)
  have e3 := enc_len10 (n := c.1) (by unfold U64; omega)
  split
  · rw [List.length_append, List.length_append]; omega
  · omega

end Go.Proofs.Ytdaeplhoonmipaa
