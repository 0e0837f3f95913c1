/- The head of a slice of slices of bytes. -/
import Derived.Test.YtlnmbgaicdlnmaaByteA
namespace Go.Proofs.Ytlnmbgaicdlnmaa
open Go.RowKit

set_option maxRecDepth 100000 in
/-- The head of a slice of slices, nil or not. -/
theorem slice_headT (w : World) (a : Option Addr) (n c m : Nat) (h : m ≤ c) : (Instr.slice 40 (.slice a n c) none (some (.int .i64 (m : Int))) none).run Try.prog w = .ok (.slice a m c) w := by
  rw [run_slice_h w 40 a n c (by kernel_rfl) .i64 (m : Int) (by omega) (by omega)]
  have hs : (sizeOf (Try.prog.elem 40)).run Try.prog w = .ok 1 w := by kernel_rfl
  rw [hs]
  simp only [Result.andThen, sliced]
  congr 1
  have : (a.map fun x => x.add (0 * 1)) = a := by cases a <;> simp [Addr.add]
  rw [this]
  simp

end Go.Proofs.Ytlnmbgaicdlnmaa
