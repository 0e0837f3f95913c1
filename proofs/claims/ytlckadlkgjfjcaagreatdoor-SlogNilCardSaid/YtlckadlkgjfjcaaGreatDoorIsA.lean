/- holdfastnum's Is. -/
import Derived.Test.YtlckadlkgjfjcaaGreatDoorDaP
namespace Go.Proofs.YtlckadlkgjfjcaaGreatDoor
open Go.RowKit

set_option maxHeartbeats 400000 in
set_option maxRecDepth 100000 in
theorem is_any (c : Nat) (w : World) : Calls Tryz.prog 9 #[errV c, .int .i64 (c : Int)] w fun e w' => e = .returned (.bool true) ∧ w = w' := by
  go_enter Tryz.func9, Tryz.ntmps9
  go_wp2_with fail
  refine (num_any c w).mono ?_
  rintro e w' ⟨rfl, rfl⟩
  go_wp2
  go_ret
  exact ⟨rfl, rfl⟩


end Go.Proofs.YtlckadlkgjfjcaaGreatDoor
