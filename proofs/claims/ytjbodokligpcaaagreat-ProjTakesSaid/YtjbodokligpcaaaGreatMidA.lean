/- A slice's middle. -/
import Derived.Test.YtjbodokligpcaaaGreatByteA
namespace Go.Proofs.YtjbodokligpcaaaGreat
open Go.RowKit

set_option maxRecDepth 100000 in
/-- A slice's middle. -/
theorem slice_mid (w : World) (a : Option Addr) (n c m h : Nat) (hm : m ≤ h) (hc : h ≤ c) : (Instr.slice 22 (.slice a n c) (some (.int .i64 (m : Int))) (some (.int .i64 (h : Int))) none).run Tryz.prog w = .ok (.slice (if c = m then a else a.map fun x => x.add m) (h - m) (c - m)) w := by
  rw [run_slice_lh w 22 a n c (by kernel_rfl) .i64 .i64 (m : Int) (h : Int) (by omega) (by omega) (by omega)]
  have hs : (sizeOf (Tryz.prog.elem 22)).run Tryz.prog w = .ok 1 w := by kernel_rfl
  rw [hs]
  simp only [Result.andThen, sliced, Int.toNat_natCast, Nat.mul_one]
theorem Reads.mid {w : World} {k : IntKind} {ao : Option Addr} {n cap : Nat} {l : List Nat} (h : Reads w k (.slice ao n cap) l) {m j : Nat} (hm : m ≤ j) (hj : j ≤ l.length) : Reads w k (.slice (if cap = m then ao else ao.map fun x => x.add m) (j - m) (cap - m)) ((l.take j).drop m) :=
  (h.head hj).tail (by rw [List.length_take]; omega)

end Go.Proofs.YtjbodokligpcaaaGreat
