/- The contracts of the document's own cells: Check, May, Bytes, common. · The contracts of the document's own cells: common, Document, fail, Bytes. · Rows of the document's own cells; an append of one; a string's head. -/
import Derived.Test.YtpebmmhokigglaaDaP
import Derived.Test.YtpebmmhokigglaaEnP
import Derived.Test.YtpebmmhokigglaaRrP
import Derived.Laws.StructEq
import Derived.Laws.BytesArg
namespace Go.Proofs.Ytpebmmhokigglaa
open Go.RowKit

/-- Bytes as a string. -/
def S8 (l : List Nat) : ByteArray := strOfNums (l.map (fun n : Nat => (n : Int)))
theorem S8_size (l : List Nat) : (S8 l).size = l.length := by unfold S8; rw [strOfNums_size, List.length_map]

/-- A cell's error by its number. -/
def chk (k : Int) (n : Nat) : Nat := if k < 0 ∨ 3 < k then 1 else if 64 < n then 3 else if k ≠ 1 ∧ 0 < n then 2 else 0

/-- May one become another? -/
def mayI (k1 : Int) (s1 : ByteArray) (k2 : Int) (s2 : ByteArray) : Bool :=
  if chk k1 s1.size ≠ 0 then false else if chk k2 s2.size ≠ 0 then false else (k1 == k2 && s1.toList == s2.toList) || k1 == 0 || ((k1 == 1 || k1 == 2) && k2 == 3)

end Go.Proofs.Ytpebmmhokigglaa

namespace Go.Proofs.Ytpebmmhokigglaa
open Go.RowKit

theorem S8_at (l : List Nat) (i : Nat) (hi : i < l.length) (hb : ∀ y ∈ l, y < 256) : ((S8 l)[i]'(by rw [S8_size]; exact hi)).toNat = l.getD i 0 := by
  have h1 : (S8 l).data.toList = (l.map (fun n : Nat => (n : Int))).map (fun n : Int => UInt8.ofNat n.toNat) := strOfNums_data _
  have h2 : ((S8 l)[i]'(by rw [S8_size]; exact hi)) = (S8 l).data.toList[i]'(by rw [h1]; simpa using hi) := by
    show (S8 l).data[i]'_ = _
    simp
  rw [h2]
  simp only [h1, List.getElem_map]
  have hy : l[i] < 256 := hb _ (List.getElem_mem hi)
  rw [List.getD_eq_getElem?_getD, List.getElem?_eq_getElem hi]
  simp [Nat.mod_eq_of_lt hy]

theorem run_S8 (l : List Nat) (i : Nat) (hi : i < l.length) (hb : ∀ y ∈ l, y < 256) (w : World) : (Instr.index 9 (.string (S8 l)) (.int .i64 (i : Int))).run Try.prog w = .ok (.int .u8 ((l.getD i 0 : Nat) : Int)) w := by
  rw [run_index_string w 9 _ .i64 (i : Int) Try.underlying9, dif_pos ⟨by omega, by rw [S8_size]; omega⟩]
  have := S8_at l i hi hb
  simp only [Int.toNat_natCast]
  rw [this]

theorem com_step {a b : List Nat} {k : Nat} (ha : k < a.length) (h : a.take k = b.take k) (hp : ¬ (b.length ≤ k) ∧ a.getD k 0 = b.getD k 0) : a.take (k + 1) = b.take (k + 1) := by
  rw [take_snoc a k ha, take_snoc b k (by omega), h, hp.2]

end Go.Proofs.Ytpebmmhokigglaa

namespace Go.Proofs.Ytpebmmhokigglaa
open Go.RowKit

/-- A cell's values. -/
def cval (c : CC) : List Value := [.int .i64 (c.1 : Int), .string (S8 c.2)]
/-- Cells' values, one behind the other. -/
def cvals (l : List CC) : List Value := l.flatMap cval
theorem cvals_length (l : List CC) : (cvals l).length = l.length * 2 := by
  induction l with
  | nil => rfl
  | cons c l ih => show (cval c ++ cvals l).length = _; rw [List.length_append, ih, List.length_cons]; simp [cval]; omega
theorem cvals_append (a b : List CC) : cvals (a ++ b) = cvals a ++ cvals b := by simp [cvals]
theorem cvals_one (c : CC) : cvals [c] = cval c := by simp [cvals]

theorem S8_nil : S8 [] = { data := #[] } := rfl

theorem S8_list (l : List Nat) : (S8 l).data.toList = (l.map (fun n : Nat => (n : Int))).map (fun n : Int => UInt8.ofNat n.toNat) := strOfNums_data _
theorem S8_ext {s : ByteArray} {l : List Nat} (h : s.data.toList = (S8 l).data.toList) : s = S8 l := ByteArray.ext (Array.toList_inj.1 h)
theorem S8_take (l : List Nat) (n : Nat) : (S8 l).extract 0 n = S8 (l.take n) := by
  apply S8_ext
  rw [S8_list, ByteArray.data_extract, Array.toList_extract, S8_list]
  simp [List.extract, List.map_take]
theorem S8_drop (l : List Nat) (n : Nat) : (S8 l).extract n (S8 l).size = S8 (l.drop n) := by
  apply S8_ext
  rw [S8_list, ByteArray.data_extract, Array.toList_extract, S8_list, S8_size]
  simp only [List.extract, List.map_drop]
  rw [List.take_of_length_le (by simp)]
theorem S8_app (a b : List Nat) : S8 a ++ S8 b = S8 (a ++ b) := by
  apply S8_ext
  rw [ByteArray.data_append, Array.toList_append]
  simp only [S8_list, List.map_append]

/-- A string's head. -/
theorem slice_S8 (l : List Nat) (n : Nat) (hn : n ≤ l.length) (w : World) : (Instr.slice 9 (.string (S8 l)) none (some (.int .u64 (n : Int))) none).run Try.prog w = .ok (.string (S8 (l.take n))) w := by
  rw [run_slice_string_h w 9 (S8 l) Try.underlying9 .u64 (n : Int) (by omega) (by rw [S8_size]; omega)]
  rw [Int.toNat_natCast, S8_take l n]

end Go.Proofs.Ytpebmmhokigglaa
