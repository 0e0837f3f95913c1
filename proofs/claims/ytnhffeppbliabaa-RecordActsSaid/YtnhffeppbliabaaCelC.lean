/- Rows of the document's own cells; an append of one; a string's head. -/
import Derived.Test.YtnhffeppbliabaaCelB
namespace Go.Proofs.Ytnhffeppbliabaa
open Go.RowKit

/-- A cell's values. -/
def cval (c : CC) : List Value := [.int .i64 (c.1 : Int), .string (S8 c.2)]
/-- Cells' values, one behind the other. -/
def cvals (l : List CC) : List Value := l.flatMap cval
theorem cvals_length (l : List CC) : (cvals l).length = l.length * 2 := by
  induction l with
  | nil => rfl
  | cons c l ih => show (cval c ++ cvals l).length = _; rw [List.length_append, ih, List.length_cons]; simp [cval]; omega
theorem cvals_append (a b : List CC) : cvals (a ++ b) = cvals a ++ cvals b := by simp [cvals]
theorem cvals_one (c : CC) : cvals [c] = cval c := by simp [cvals]

theorem Try.infoC : (Try.prog.info? 82).map (fun i => (i.zero, i.size, i.bytes)) = some (some (.agg #[.int .i64 0, .string { data := #[] }]), 2, 24) := by kernel_rfl

/-- A row of cells of the call's own. -/
def OwnsC (w : World) (base : Nat) (v : Value) (l : List CC) : Prop := w.ownsRow base 82 2 v l.length (cvals l)

theorem S8_nil : S8 [] = { data := #[] } := rfl

theorem S8_list (l : List Nat) : (S8 l).data.toList = (l.map (fun n : Nat => (n : Int))).map (fun n : Int => UInt8.ofNat n.toNat) := strOfNums_data _
theorem S8_ext {s : ByteArray} {l : List Nat} (h : s.data.toList = (S8 l).data.toList) : s = S8 l := ByteArray.ext (Array.toList_inj.1 h)
theorem S8_take (l : List Nat) (n : Nat) : (S8 l).extract 0 n = S8 (l.take n) := by
  apply S8_ext
  rw [S8_list, ByteArray.data_extract, Array.toList_extract, S8_list]
  simp [List.extract, List.map_take]
theorem S8_drop (l : List Nat) (n : Nat) : (S8 l).extract n (S8 l).size = S8 (l.drop n) := by
  apply S8_ext
  rw [S8_list, ByteArray.data_extract, Array.toList_extract, S8_list, S8_size]
  simp only [List.extract, List.map_drop]
  rw [List.take_of_length_le (by simp)]
theorem S8_app (a b : List Nat) : S8 a ++ S8 b = S8 (a ++ b) := by
  apply S8_ext
  rw [ByteArray.data_append, Array.toList_append]
  simp only [S8_list, List.map_append]

/-- A string's head. -/
theorem slice_S8 (l : List Nat) (n : Nat) (hn : n ≤ l.length) (w : World) : (Instr.slice 9 (.string (S8 l)) none (some (.int .u64 (n : Int))) none).run Try.prog w = .ok (.string (S8 (l.take n))) w := by
  rw [run_slice_string_h w 9 (S8 l) Try.underlying9 .u64 (n : Int) (by omega) (by rw [S8_size]; omega)]
  rw [Int.toNat_natCast, S8_take l n]

end Go.Proofs.Ytnhffeppbliabaa
