/- bytes.Clone. -/
import Derived.Test.YtjbodokligpcaaaGreatByteA
namespace Go.Proofs.YtjbodokligpcaaaGreat
open Go.RowKit

set_option maxHeartbeats 400000 in
set_option maxRecDepth 100000 in
theorem clone_any (v : Value) (xs : List Nat) (w : World) (hr : Reads w .u8 v xs) (hx : xs.length ≤ 100000000000000) :
    Calls Tryz.prog 47 #[v] w fun e w' => ∃ v', e = .returned v' ∧ Owns w' w.heap.size 5 .u8 v' xs ∧ Below w.heap.size w w' := by
  have heq := fun w a n c n' c' => Lib.run_eql_slice_nil (P := Tryz.prog) w 22 5 a n c n' c' Tryz.underlying22
  obtain ⟨ao, cap, rfl, h1, h2, h3⟩ := hr.val
  cases ao with
  | none =>
    obtain rfl := h3 rfl
    obtain rfl : xs = [] := List.length_eq_zero_iff.1 (by omega)
    go_enter Tryz.func47, Tryz.ntmps47
    go_wp2
    go_ret
    exact ⟨_, rfl, owns_nil _ _ _ _, Below.refl _ _⟩
  | some ad =>
    go_enter Tryz.func47, Tryz.ntmps47
    go_wp2_with (at_builtin; go_must (refine wpList_app _ rfl _ _ 22 rfl w.heap.size 5 (.int .u8 0) 1 Tryz.underlying22 Tryz.info5 rfl .u8 _ [] rfl (owns_empty w w.heap.size 5 .u8 (Nat.le_refl _)) _ xs rfl (hr.below ((Below.refl _ _).alloc (Nat.le_refl _) _) (Nat.le_refl _)) (by decide) ?c1 ?c3 ?_))
    case c1 => (try simp); omega
    case c3 => simp
    intro v' w1 ho hg
    go_wp2
    go_ret
    exact ⟨_, rfl, ho, ((Below.refl _ _).alloc (Nat.le_refl _) _).grown hg (by simp) (fun j hj => by simp [Value.ownBlock] at hj; omega)⟩

end Go.Proofs.YtjbodokligpcaaaGreat
