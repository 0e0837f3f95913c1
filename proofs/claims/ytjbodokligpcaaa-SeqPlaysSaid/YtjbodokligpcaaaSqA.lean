/- Package seq: the sequencer, as the document says it, and as the program does it. -/
import Derived.Test.YtjbodokligpcaaaRows
import Derived.Test.YtjbodokligpcaaaBase
import Derived.Test.YtjbodokligpcaaaNumA
import Derived.WalkKit
import Derived.Lib.Hide
import Derived.Laws.LoneSync
import Derived.RegionCalls
import Derived.ChangeAlike
namespace Go.Proofs.Ytjbodokligpcaaa
open Go.RowKit

/-- A sequencer: its epoch, the next address. -/
structure QS where
  epoch : Int
  next : Int
def qcur (S : QS) (e : Int) : Nat := if e < S.epoch then 6 else if S.epoch < e then 7 else 0
def qtakeC (S : QS) (e many : Int) : Nat := if many < 1 ∨ 64 < many then 1 else if qcur S e ≠ 0 then qcur S e else if 1048576 < S.next + many then 5 else 0
def qtakeS (S : QS) (e many : Int) : QS := if qtakeC S e many = 0 then ⟨S.epoch, S.next + many⟩ else S
def qtakeN (S : QS) (e many : Int) : Int := if qtakeC S e many = 0 then S.next else 0
def qraiseC (S : QS) (e n : Int) : Nat := if n < 0 ∨ 1048576 < n then 1 else qcur S e
def qraiseS (S : QS) (e n : Int) : QS := if qraiseC S e n = 0 then (if S.next < n then ⟨S.epoch, n⟩ else S) else S
def qsetC (S : QS) (e n : Int) : Nat := if e < 0 ∨ 1099511627776 < e ∨ n < 0 ∨ 1048576 < n then 1 else if e ≤ S.epoch then 6 else 0
def qsetS (S : QS) (e n : Int) : QS := if qsetC S e n = 0 then ⟨e, n⟩ else S
def qtailN (S : QS) (e : Int) : Int := if qcur S e = 0 then S.next else 0
/-- What a sequencer may be. -/
def QOk (S : QS) : Prop := 0 ≤ S.epoch ∧ S.epoch ≤ 1099511627776 ∧ 0 ≤ S.next ∧ S.next ≤ 1048576
theorem qok_zero : QOk ⟨0, 0⟩ := ⟨by decide, by decide, by decide, by decide⟩
theorem qtake_ok {S : QS} (h : QOk S) (e many : Int) : QOk (qtakeS S e many) := by
  unfold qtakeS
  split
  · rename_i h1
    unfold qtakeC at h1
    obtain ⟨a, b, c, d⟩ := h
    repeat' split at h1
    all_goals (first | omega | skip)
    all_goals exact ⟨a, b, by simp only; omega, by simp only; omega⟩
  · exact h
theorem qraise_ok {S : QS} (h : QOk S) (e n : Int) : QOk (qraiseS S e n) := by
  unfold qraiseS
  obtain ⟨a, b, c, d⟩ := h
  split
  · rename_i h1
    unfold qraiseC at h1
    split at h1
    · omega
    · split
      · exact ⟨a, b, by simp only; omega, by simp only; omega⟩
      · exact ⟨a, b, c, d⟩
  · exact ⟨a, b, c, d⟩
theorem qset_ok {S : QS} (h : QOk S) (e n : Int) : QOk (qsetS S e n) := by
  unfold qsetS
  split
  · rename_i h1
    unfold qsetC at h1
    repeat' split at h1
    all_goals (first | omega | skip)
    exact ⟨by simp only; omega, by simp only; omega, by simp only; omega, by simp only; omega⟩
  · exact h

/-- The sequencer at a block. -/
structure Sq (w : World) (b : Nat) (S : QS) : Prop where
  blk : w.heap[b]? = some (.cells #[.int .i64 S.epoch, .int .i64 S.next] 57 (0, 0))
theorem Sq.lt {w : World} {b : Nat} {S : QS} (h : Sq w b S) : b < w.heap.size := (Array.getElem?_eq_some_iff.1 h.blk).1
theorem Sq.c0 {w : World} {b : Nat} {S : QS} (h : Sq w b S) : w.cell? ⟨b, 0, none⟩ = some (.int .i64 S.epoch) := by rw [cell_of_row w b 0 _ _ _ h.blk]; rfl
theorem Sq.c1 {w : World} {b : Nat} {S : QS} (h : Sq w b S) : w.cell? ⟨b, 1, none⟩ = some (.int .i64 S.next) := by rw [cell_of_row w b 1 _ _ _ h.blk]; rfl
theorem Sq.fz {w : World} {b : Nat} {S : QS} (h : Sq w b S) (i : Nat) : w.frozen? ⟨b, i, none⟩ = false := frozen_of_row w b i _ _ h.blk
theorem Sq.set0 {w : World} {b : Nat} {S : QS} (h : Sq w b S) (x : Int) : Sq (w.setCell ⟨b, 0, none⟩ (.int .i64 x)) b ⟨x, S.next⟩ := ⟨by simpa using heap_setCell_same w b 0 _ _ (.int .i64 x) h.blk⟩
theorem Sq.set1 {w : World} {b : Nat} {S : QS} (h : Sq w b S) (x : Int) : Sq (w.setCell ⟨b, 1, none⟩ (.int .i64 x)) b ⟨S.epoch, x⟩ := ⟨by simpa using heap_setCell_same w b 1 _ _ (.int .i64 x) h.blk⟩
theorem Sq.low {w w' : World} {b B : Nat} {S : QS} (h : Sq w b S) (hb : Below B w w') (hB : b < B) : Sq w' b S := ⟨(hb.block b hB).trans h.blk⟩
theorem Sq.old {w w' : World} {b : Nat} {S : QS} (h : Sq w b S) (hb : Below w.heap.size w w') : Sq w' b S := h.low hb h.lt
theorem Sq.other {w : World} {b : Nat} {S : QS} (h : Sq w b S) {q : Nat} (hq : b ≠ q) (i : Nat) (x : Value) : Sq (w.setCell ⟨q, i, none⟩ x) b S := ⟨(heap_setCell_other w ⟨q, i, none⟩ b x hq).trans h.blk⟩
theorem sq_grown (w : World) (p i : Nat) (v : Value) : w.grownBy (w.setCell ⟨p, i, none⟩ v) (some p) :=
  ⟨rfl, rfl, rfl, by simp, fun j _ hj => heap_setCell_other w ⟨p, i, none⟩ j _ (fun e => hj (by rw [e]))⟩

theorem aload_any (a : Addr) (x : Int) (w : World) (hc : w.cell? a = some (.int .i64 x)) :
    Calls Try.prog 21 #[.pointer (some a)] w fun e w' => e = .returned (.int .i64 x) ∧ w = w' := by
  have hl := run_call_load (P := Try.prog) Try.func24 (by kernel_rfl) (by kernel_rfl) (by kernel_rfl) .i64 (by kernel_rfl) hc
  go_enter Try.func21, Try.ntmps21
  go_wp2
  go_ret
  exact ⟨rfl, rfl⟩
theorem acas_any (a : Addr) (x y : Int) (w : World) (hc : w.cell? a = some (.int .i64 x)) (hz : w.frozen? a = false) :
    Calls Try.prog 22 #[.pointer (some a), .int .i64 x, .int .i64 y] w fun e w' => e = .returned (.bool true) ∧ w' = w.setCell a (.int .i64 y) := by
  have hl := run_call_cas_hit (P := Try.prog) Try.func25 (by kernel_rfl) (by kernel_rfl) (by kernel_rfl) .i64 (by kernel_rfl) (y := y) hc hz
  go_enter Try.func22, Try.ntmps22
  go_wp2
  go_ret
  exact ⟨rfl, rfl⟩
theorem astore_any (a : Addr) (u : Value) (y : Int) (w : World) (hc : w.cell? a = some u) (hz : w.frozen? a = false) :
    Calls Try.prog 23 #[.pointer (some a), .int .i64 y] w fun e w' => e = .returned (.tuple #[]) ∧ w' = w.setCell a (.int .i64 y) := by
  have hl := run_call_store (P := Try.prog) Try.func26 (by kernel_rfl) (by kernel_rfl) (by kernel_rfl) (by kernel_rfl) (k := .i64) (y := y) hc hz
  go_enter Try.func23, Try.ntmps23
  go_wp2
  first | go_end0 | (simp only [Exit.inBlock, Exit.then]; refine bodyPost_ret (results_none rfl _ _ _) rfl ?_)
  exact ⟨rfl, rfl⟩

/-- The program's within. -/
def qwith (n a b : Int) : Bool := decide (a ≤ n) && decide (n ≤ b)
theorem qwithin_any (n a b : Int) (w : World) : Calls Try.prog 19 #[.int .i64 n, .int .i64 a, .int .i64 b] w fun e w' => e = .returned (.bool (qwith n a b)) ∧ w = w' := by
  by_cases h1 : a ≤ n
  · have h2 : qwith n a b = decide (n ≤ b) := by unfold qwith; rw [decide_eq_true h1, Bool.true_and]
    rw [h2]
    clear h2
    go_enter Try.func19, Try.ntmps19
    go_wp2
    go_ret
    exact ⟨rfl, rfl⟩
  · have h2 : qwith n a b = false := by unfold qwith; rw [decide_eq_false h1, Bool.false_and]
    rw [h2]
    clear h2
    go_enter Try.func19, Try.ntmps19
    go_wp2
    go_ret
    exact ⟨rfl, rfl⟩
theorem qasked_any {w : World} {b : Nat} {S : QS} (h : Sq w b S) (e : Int) : Calls Try.prog 20 #[.pointer (some ⟨b, 0, none⟩), .int .i64 e] w fun r w' => r = .returned (errV (qcur S e)) ∧ w = w' := by
  have c0 := h.c0
  unfold qcur
  by_cases h1 : e < S.epoch
  · rw [if_pos h1]
    go_enter Try.func20, Try.ntmps20
    go_wp2
    go_ret
    exact ⟨rfl, rfl⟩
  · rw [if_neg h1]
    by_cases h2 : S.epoch < e
    · rw [if_pos h2]
      go_enter Try.func20, Try.ntmps20
      go_wp2
      go_ret
      exact ⟨rfl, rfl⟩
    · rw [if_neg h2]
      go_enter Try.func20, Try.ntmps20
      go_wp2
      go_ret
      exact ⟨rfl, rfl⟩

end Go.Proofs.Ytjbodokligpcaaa
