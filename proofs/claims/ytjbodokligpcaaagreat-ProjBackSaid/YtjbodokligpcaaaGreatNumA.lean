/- Errors by their number: holdfastnum's Num. -/
import Derived.Test.YtjbodokligpcaaaGreatByteA
namespace Go.Proofs.YtjbodokligpcaaaGreat
open Go.RowKit

/-- An error as a value: none at 0. -/
def errV (c : Nat) : Value := if c = 0 then .nilIface else .iface 68 (.int .i64 (c : Int))
theorem errV_zero : errV 0 = .nilIface := rfl
theorem errV_pos {c : Nat} (h : c ≠ 0) : errV c = .iface 68 (.int .i64 (c : Int)) := if_neg h

set_option maxHeartbeats 400000 in
set_option maxRecDepth 100000 in
theorem num_nil (w : World) : Calls Tryz.prog 11 #[.nilIface] w fun e w' => e = .returned (.int .i64 0) ∧ w = w' := by
  go_enter Tryz.func11, Tryz.ntmps11
  go_wp2
  go_ret
  exact ⟨rfl, rfl⟩

theorem assert_yes (W : World) (v : Value) : (Instr.typeAssert (.iface 68 v) 29 68 true).run Tryz.prog W = .ok (.tuple #[v, .bool true]) W := by kernel_rfl

set_option maxHeartbeats 400000 in
set_option maxRecDepth 100000 in
theorem num_err (c : Int) (hc : c ≠ 0) (w : World) : Calls Tryz.prog 11 #[.iface 68 (.int .i64 c)] w fun e w' => e = .returned (.int .i64 c) ∧ w = w' := by
  have t1 : (c != 0) = true := by rw [bne_iff_ne]; exact hc
  have hy := fun W => assert_yes W (.int .i64 c)
  go_enter Tryz.func11, Tryz.ntmps11
  go_wp2
  go_ret
  exact ⟨rfl, rfl⟩

theorem num_any (c : Nat) (w : World) : Calls Tryz.prog 11 #[errV c] w fun e w' => e = .returned (.int .i64 (c : Int)) ∧ w = w' := by
  by_cases h : c = 0
  · subst h; exact num_nil w
  · rw [errV_pos h]; exact num_err (c : Int) (by omega) w

end Go.Proofs.YtjbodokligpcaaaGreat
