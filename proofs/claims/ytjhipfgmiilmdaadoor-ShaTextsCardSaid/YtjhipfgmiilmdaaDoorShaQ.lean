/- The program's turn of a word. -/
import Derived.Test.YtjhipfgmiilmdaaDoorShaC
namespace Go.Proofs.YtjhipfgmiilmdaaDoor
open Go.RowKit

theorem low31 : ∀ k : Nat, k < 32 → 0 < k → bits .and .u64 (IntKind.u64.wrap (-(k : Int))) 31 = 32 - (k : Int) := by decide +kernel

set_option maxHeartbeats 400000 in
set_option maxRecDepth 100000 in
theorem pturn_any (x k : Nat) (w : World) (hx : W32 x) (h0 : 0 < k) (h1 : k < 32) :
    Calls Tryd.prog 36 #[.int .u32 (x : Int), .int .i64 (k : Int)] w fun e w' => e = .returned (.int .u32 ((rot x k : Nat) : Int)) ∧ w = w' := by
  have h1i : (k : Int) < 32 := by omega
  have h0i : (0 : Int) < k := by omega
  have hlow := low31 k h1 h0
  have hm : (32 : Int) - (32 - (k : Int)) = k := by omega
  go_enter Tryd.func36, Tryd.ntmps36
  go_wp2
  go_ret
  refine ⟨ret_int ?_, rfl⟩
  have e1 : (x : Int) / 2 ^ k = ((x / 2 ^ k : Nat) : Int) := by push_cast; rfl
  have e2 : (x : Int) * 2 ^ (32 - k) % 4294967296 = ((x * 2 ^ (32 - k) % 4294967296 : Nat) : Int) := by rw [Int.natCast_emod, Int.natCast_mul, Int.natCast_pow]; rfl
  rw [e1, e2, u32_or_nat _ _ (Nat.mod_lt _ (by decide)) (Nat.lt_of_le_of_lt (Nat.div_le_self _ _) hx), Nat.or_comm]
  rfl

theorem pturn_lit (x k : Nat) (ki : Int) (hk : ki = k) (w : World) (hx : W32 x) (h0 : 0 < k) (h1 : k < 32) :
    Calls Tryd.prog 36 #[.int .u32 (x : Int), .int .i64 ki] w fun e w' => e = .returned (.int .u32 ((rot x k : Nat) : Int)) ∧ w' = w := by
  subst hk
  exact (pturn_any x k w hx h0 h1).mono fun e w' h => ⟨h.1, h.2.symm⟩

end Go.Proofs.YtjhipfgmiilmdaaDoor
