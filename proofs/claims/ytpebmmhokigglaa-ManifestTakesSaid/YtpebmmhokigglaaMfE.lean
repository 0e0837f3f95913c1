/- alive of law 15. -/
import Derived.Test.YtpebmmhokigglaaMfD
namespace Go.Proofs.Ytpebmmhokigglaa
open Go.RowKit

theorem alive_mf : mchk mf0 = 0 ∧ (fr (mtext mf0)).length = 42 ∧ (fr (mtext mf0)).getD 0 0 = 37 ∧ (fr (mtext mf0)).getD 37 0 = 0 := by decide +kernel
/-- The value of no manifest. -/
theorem mf0_row : (mfRow mf0 (.slice none 0 0)).toArray = #[.int .i64 0, .int .i64 0, .int .i64 0, .int .i64 0, .int .u8 0, .int .u8 0, .int .u8 0, .int .u8 0, .int .u8 0, .int .u8 0, .int .u8 0, .int .u8 0, .int .u8 0, .int .u8 0, .int .u8 0, .int .u8 0, .int .u8 0, .int .u8 0, .int .u8 0, .int .u8 0, .int .u8 0, .int .u8 0, .int .u8 0, .int .u8 0, .int .u8 0, .int .u8 0, .int .u8 0, .int .u8 0, .int .u8 0, .int .u8 0, .int .u8 0, .int .u8 0, .int .u8 0, .int .u8 0, .int .u8 0, .int .u8 0, .slice none 0 0] := by rfl

set_option maxHeartbeats 2000000 in
set_option maxRecDepth 100000 in
theorem alive15_any (w : World) : Calls Try.prog 5 #[] w fun e w' => e = .returned (.bool true) ∧ Below w.heap.size w w' := by
  have hp := mput_any mf0 (.slice none 0 0) w (fun _ => True) (ps_nil _ _) dg_zero
  rw [mf0_row] at hp
  have HP := Lib.hid hp
  clear hp
  go_enter Try.func5, Try.ntmps5
  go_wp2_with fail
  refine HP.out.mono ?_
  rintro e w1 ⟨hb1, ⟨_, v1, rfl, ho1⟩ | ⟨hne, _⟩⟩
  rotate_left
  · exact absurd alive_mf.1 hne
  have HB1 := Lib.hid hb1
  obtain ⟨ao, cap, hv, l1, m1, _⟩ := ho1.reads.val
  rw [alive_mf.2.1] at hv
  subst hv
  obtain ⟨b, off, rfl, hbl, hc⟩ := ho1.reads.at (i := 0) (by rw [alive_mf.2.1]; decide)
  have e0 := hc 0 (by rw [alive_mf.2.1]; decide)
  have e1 := hc 37 (by rw [alive_mf.2.1]; decide)
  rw [alive_mf.2.2.1, Nat.add_zero] at e0
  rw [alive_mf.2.2.2] at e1
  clear hb1 ho1 hc l1 m1
  go_wp2
  go_ret
  exact ⟨rfl, HB1.out⟩

end Go.Proofs.Ytpebmmhokigglaa
