/- The contract of the document's own Run. -/
import Derived.Test.YtojndpelilolkaaCelV
import Derived.Test.YtojndpelilolkaaUvQ
import Derived.Test.YtojndpelilolkaaPrA
import Derived.Lib.AppendStr
namespace Go.Proofs.Ytojndpelilolkaa
open Go.RowKit

theorem strCells_S8 (l : List Nat) (h : ∀ y ∈ l, y < 256) : Lib.strCells (S8 l) = vals .u8 l := by
  unfold Lib.strCells
  rw [S8_list, List.map_map, List.map_map]
  unfold vals
  refine List.map_congr_left fun y hy => ?_
  have := h y hy
  simp [Nat.mod_eq_of_lt this]

/-- A string's tail. -/
theorem slice_S8l (l : List Nat) (n : Nat) (hn : n ≤ l.length) (w : World) : (Instr.slice 9 (.string (S8 l)) (some (.int .i64 (n : Int))) none none).run Try.prog w = .ok (.string (S8 (l.drop n))) w := by
  rw [run_slice_string_l w 9 (S8 l) Try.underlying9 .i64 (n : Int) (by omega) (by rw [S8_size]; omega)]
  rw [Int.toNat_natCast, S8_drop l n]

/-- What is left of a run behind a cell of a kind: no more cells of its row. -/
def aft (p : Option Nat) (rest : List CC) : List CC :=
  match p with
  | none => rest
  | some k => if k = 1 then rest else rest.drop (lead k rest)
theorem aft_other {p : Option Nat} {k : Nat} {d : List Nat} {r : List CC} (h : p = some k → k = 1) : aft p ((k, d) :: r) = (k, d) :: r := by
  unfold aft
  match p, h with
  | none, _ => rfl
  | some j, h =>
    simp only
    by_cases hj : j = 1
    · rw [if_pos hj]
    · rw [if_neg hj]
      have : lead j ((k, d) :: r) = 0 := by
        unfold lead
        rw [if_neg]
        rintro rfl
        exact hj (h rfl)
      rw [this]
      rfl
theorem aft_same {k : Nat} {d : List Nat} {r : List CC} (hk : k ≠ 1) : aft (some k) ((k, d) :: r) = aft (some k) r := by
  unfold aft
  simp only
  rw [if_neg hk, if_neg hk]
  have : lead k ((k, d) :: r) = lead k r + 1 := by
    conv => lhs; unfold lead
    rw [if_pos rfl]
  rw [this, List.drop_succ_cons]

theorem drop_cons (run : List CC) (i : Nat) (h : i < run.length) : run.drop i = run.getD i (0, []) :: run.drop (i + 1) := by
  rw [List.drop_eq_getElem_cons h]
  simp [List.getD, h]
theorem getD_drop (run : List CC) (i j : Nat) : (run.drop i).getD j (0, []) = run.getD (i + j) (0, []) := by
  rw [List.getD_eq_getElem?_getD, List.getElem?_drop, ← List.getD_eq_getElem?_getD]

theorem ditem_eq {last d : List Nat} (hd : d.length ≤ 64) : ditem last d = [0, d.length, com d last] ++ d.drop (com d last) := by
  have := com_le_left d last
  unfold ditem
  rw [enc_small (n := 0) (by omega), enc_small (n := d.length) (by omega), enc_small (n := com d last) (by omega)]
  rfl

/-- The kind of the cell ahead. -/
def prevK (run : List CC) (i : Nat) : Option Nat := if i = 0 then none else some (run.getD (i - 1) (0, [])).1

end Go.Proofs.Ytojndpelilolkaa
