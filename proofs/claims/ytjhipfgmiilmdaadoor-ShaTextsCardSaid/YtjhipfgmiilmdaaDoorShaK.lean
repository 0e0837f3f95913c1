/- The program's sign values. -/
import Derived.Test.YtjhipfgmiilmdaaDoorShaZ
import Derived.Lib.Bytealg
namespace Go.Proofs.YtjhipfgmiilmdaaDoor
open Go.RowKit

/-- What a sign stands for, 16 if it is none. -/
def hv (c : Nat) : Nat := if 48 ≤ c ∧ c ≤ 57 then c - 48 else if 97 ≤ c ∧ c ≤ 102 then c - 87 else 16
def hvI (c : Nat) : Int := if hv c < 16 then (hv c : Int) else -1
theorem hv_at : ∀ c : Nat, c < 256 → Lib.indexByte (ByteArray.mk #[48, 49, 50, 51, 52, 53, 54, 55, 56, 57, 97, 98, 99, 100, 101, 102]).data.toList (((c : Nat) : Int).toNat.toUInt8) = hvI c := by decide +kernel

set_option maxRecDepth 100000 in
theorem strlite_any (s : ByteArray) (c : Int) (w : World) :
    Calls Tryd.prog 39 #[.string s, .int .u8 c] w fun e w' => e = .returned (.int .i64 (Lib.indexByte s.data.toList c.toNat.toUInt8)) ∧ w = w' := by
  go_enter Tryd.func39, Tryd.ntmps39
  go_wp2
  rw [run_callFunc_extern Tryd.func40 (by kernel_rfl) (by kernel_rfl) (by kernel_rfl) (e := Extern.BytealgIndexByte.indexByte) (by kernel_rfl), Lib.run_indexByteString]
  simp only [Result.andThen]
  rw [Oper.upon_value]
  go_wp2
  go_ret
  exact ⟨rfl, rfl⟩

theorem strIndex_any (s : ByteArray) (c : Int) (w : World) :
    Calls Tryd.prog 37 #[.string s, .int .u8 c] w fun e w' => e = .returned (.int .i64 (Lib.indexByte s.data.toList c.toNat.toUInt8)) ∧ w = w' := by
  go_enter Tryd.func37, Tryd.ntmps37
  go_wp2_with fail
  refine (strlite_any s c w).mono ?_
  rintro e _ ⟨rfl, rfl⟩
  go_wp2
  go_ret
  exact ⟨rfl, rfl⟩

theorem value_any (c : Nat) (hc : c < 256) (w : World) :
    Calls Tryd.prog 32 #[.int .u8 ((c : Nat) : Int)] w fun e w' => e = .returned (.int .i64 (hvI c)) ∧ w = w' := by
  have h1 := hv_at c hc
  go_enter Tryd.func32, Tryd.ntmps32
  go_wp2_with fail
  refine (strIndex_any _ _ w).mono ?_
  rintro e _ ⟨rfl, rfl⟩
  rw [h1]
  go_wp2
  go_ret
  exact ⟨rfl, rfl⟩

/-- The sign of a text at a place. -/
def chr (s : ByteArray) (i : Nat) : Nat := (s.data.toList.getD i 0).toNat
theorem chr_lt (s : ByteArray) (i : Nat) : chr s i < 256 := by unfold chr; exact UInt8.toNat_lt _
theorem run_chr (s : ByteArray) (i : Nat) (hi : i < s.size) (w : World) : (Instr.index 9 (.string s) (.int .i64 (i : Int))).run Tryd.prog w = .ok (.int .u8 ((chr s i : Nat) : Int)) w := by
  rw [run_index_string w 9 _ .i64 (i : Int) Tryd.underlying9, dif_pos ⟨by omega, by omega⟩]
  have hlt : i < s.data.toList.length := by rw [Array.length_toList]; exact hi
  have h : s.data.toList.getD i 0 = s[i] := by
    rw [List.getD, List.getElem?_eq_getElem hlt]
    rfl
  simp only [Int.toNat_natCast, chr, h]

end Go.Proofs.YtjhipfgmiilmdaaDoor
