/- Package seq: the sequencer, as the document says it, and as the program does it. · Package seq: the sequencer's calls, by the program. · Package seq: Raise, Set, Tail, Epoch, by the program; what a nil one does. -/
import Derived.Test.YtlckadlkgjfjcaaGreatDoorRows
import Derived.Test.YtlckadlkgjfjcaaGreatDoorBase
import Derived.Test.YtlckadlkgjfjcaaGreatDoorDaP
import Derived.WalkKit
import Derived.Lib.Hide
import Derived.Laws.LoneSync
import Derived.RegionCalls
import Derived.ChangeAlike
import Derived.StillTailTactics
import Derived.Deep.QuietTactic
import Derived.Deep.RegionHeld3
namespace Go.Proofs.YtlckadlkgjfjcaaGreatDoor
open Go.RowKit

/-- A sequencer: its epoch, the next address. -/
structure QS where
  epoch : Int
  next : Int
def qcur (S : QS) (e : Int) : Nat := if e < S.epoch then 6 else if S.epoch < e then 7 else 0
def qtakeC (S : QS) (e many : Int) : Nat := if many < 1 ∨ 64 < many then 1 else if qcur S e ≠ 0 then qcur S e else if 1048576 < S.next + many then 5 else 0
def qtakeS (S : QS) (e many : Int) : QS := if qtakeC S e many = 0 then ⟨S.epoch, S.next + many⟩ else S
def qtakeN (S : QS) (e many : Int) : Int := if qtakeC S e many = 0 then S.next else 0
def qsetC (S : QS) (e n : Int) : Nat := if e < 0 ∨ 1099511627776 < e ∨ n < 0 ∨ 1048576 < n then 1 else if e ≤ S.epoch then 6 else 0
def qsetS (S : QS) (e n : Int) : QS := if qsetC S e n = 0 then ⟨e, n⟩ else S
/-- What a sequencer may be. -/
def QOk (S : QS) : Prop := 0 ≤ S.epoch ∧ S.epoch ≤ 1099511627776 ∧ 0 ≤ S.next ∧ S.next ≤ 1048576
/-- The sequencer at a block. -/
structure Sq (w : World) (b : Nat) (S : QS) : Prop where
  blk : w.heap[b]? = some (.cells #[.int .i64 S.epoch, .int .i64 S.next] 112 (0, 0))
theorem Sq.lt {w : World} {b : Nat} {S : QS} (h : Sq w b S) : b < w.heap.size := (Array.getElem?_eq_some_iff.1 h.blk).1
theorem Sq.c0 {w : World} {b : Nat} {S : QS} (h : Sq w b S) : w.cell? ⟨b, 0, none⟩ = some (.int .i64 S.epoch) := by rw [cell_of_row w b 0 _ _ _ h.blk]; rfl
theorem Sq.c1 {w : World} {b : Nat} {S : QS} (h : Sq w b S) : w.cell? ⟨b, 1, none⟩ = some (.int .i64 S.next) := by rw [cell_of_row w b 1 _ _ _ h.blk]; rfl
theorem Sq.fz {w : World} {b : Nat} {S : QS} (h : Sq w b S) (i : Nat) : w.frozen? ⟨b, i, none⟩ = false := frozen_of_row w b i _ _ h.blk
theorem Sq.set0 {w : World} {b : Nat} {S : QS} (h : Sq w b S) (x : Int) : Sq (w.setCell ⟨b, 0, none⟩ (.int .i64 x)) b ⟨x, S.next⟩ := ⟨by simpa using heap_setCell_same w b 0 _ _ (.int .i64 x) h.blk⟩
theorem Sq.set1 {w : World} {b : Nat} {S : QS} (h : Sq w b S) (x : Int) : Sq (w.setCell ⟨b, 1, none⟩ (.int .i64 x)) b ⟨S.epoch, x⟩ := ⟨by simpa using heap_setCell_same w b 1 _ _ (.int .i64 x) h.blk⟩
theorem Sq.low {w w' : World} {b B : Nat} {S : QS} (h : Sq w b S) (hb : Below B w w') (hB : b < B) : Sq w' b S := ⟨(hb.block b hB).trans h.blk⟩
theorem Sq.old {w w' : World} {b : Nat} {S : QS} (h : Sq w b S) (hb : Below w.heap.size w w') : Sq w' b S := h.low hb h.lt
theorem Sq.other {w : World} {b : Nat} {S : QS} (h : Sq w b S) {q : Nat} (hq : b ≠ q) (i : Nat) (x : Value) : Sq (w.setCell ⟨q, i, none⟩ x) b S := ⟨(heap_setCell_other w ⟨q, i, none⟩ b x hq).trans h.blk⟩
theorem sq_grown (w : World) (p i : Nat) (v : Value) : w.grownBy (w.setCell ⟨p, i, none⟩ v) (some p) :=
  ⟨rfl, rfl, rfl, by simp, fun j _ hj => heap_setCell_other w ⟨p, i, none⟩ j _ (fun e => hj (by rw [e]))⟩

theorem aload_any (a : Addr) (x : Int) (w : World) (hc : w.cell? a = some (.int .i64 x)) :
    Calls Tryz.prog 65 #[.pointer (some a)] w fun e w' => e = .returned (.int .i64 x) ∧ w = w' := by
  have hl := run_call_load (P := Tryz.prog) Tryz.func111 (by kernel_rfl) (by kernel_rfl) (by kernel_rfl) .i64 (by kernel_rfl) hc
  go_enter Tryz.func65, Tryz.ntmps65
  go_wp2
  go_ret
  exact ⟨rfl, rfl⟩
theorem acas_any (a : Addr) (x y : Int) (w : World) (hc : w.cell? a = some (.int .i64 x)) (hz : w.frozen? a = false) :
    Calls Tryz.prog 66 #[.pointer (some a), .int .i64 x, .int .i64 y] w fun e w' => e = .returned (.bool true) ∧ w' = w.setCell a (.int .i64 y) := by
  have hl := run_call_cas_hit (P := Tryz.prog) Tryz.func112 (by kernel_rfl) (by kernel_rfl) (by kernel_rfl) .i64 (by kernel_rfl) (y := y) hc hz
  go_enter Tryz.func66, Tryz.ntmps66
  go_wp2
  go_ret
  exact ⟨rfl, rfl⟩
theorem astore_any (a : Addr) (u : Value) (y : Int) (w : World) (hc : w.cell? a = some u) (hz : w.frozen? a = false) :
    Calls Tryz.prog 120 #[.pointer (some a), .int .i64 y] w fun e w' => e = .returned (.tuple #[]) ∧ w' = w.setCell a (.int .i64 y) := by
  have hl := run_call_store (P := Tryz.prog) Tryz.func172 (by kernel_rfl) (by kernel_rfl) (by kernel_rfl) (by kernel_rfl) (k := .i64) (y := y) hc hz
  go_enter Tryz.func120, Tryz.ntmps120
  go_wp2
  first | go_end0 | (simp only [Exit.inBlock, Exit.then]; refine bodyPost_ret (results_none rfl _ _ _) rfl ?_)
  exact ⟨rfl, rfl⟩

/-- The program's within. -/
def qwith (n a b : Int) : Bool := decide (a ≤ n) && decide (n ≤ b)
theorem qwithin_any (n a b : Int) (w : World) : Calls Tryz.prog 63 #[.int .i64 n, .int .i64 a, .int .i64 b] w fun e w' => e = .returned (.bool (qwith n a b)) ∧ w = w' := by
  by_cases h1 : a ≤ n
  · have h2 : qwith n a b = decide (n ≤ b) := by unfold qwith; rw [decide_eq_true h1, Bool.true_and]
    rw [h2]
    clear h2
    go_enter Tryz.func63, Tryz.ntmps63
    go_wp2
    go_ret
    exact ⟨rfl, rfl⟩
  · have h2 : qwith n a b = false := by unfold qwith; rw [decide_eq_false h1, Bool.false_and]
    rw [h2]
    clear h2
    go_enter Tryz.func63, Tryz.ntmps63
    go_wp2
    go_ret
    exact ⟨rfl, rfl⟩
theorem qasked_any {w : World} {b : Nat} {S : QS} (h : Sq w b S) (e : Int) : Calls Tryz.prog 64 #[.pointer (some ⟨b, 0, none⟩), .int .i64 e] w fun r w' => r = .returned (errV (qcur S e)) ∧ w = w' := by
  have c0 := h.c0
  unfold qcur
  by_cases h1 : e < S.epoch
  · rw [if_pos h1]
    go_enter Tryz.func64, Tryz.ntmps64
    go_wp2
    go_ret
    exact ⟨rfl, rfl⟩
  · rw [if_neg h1]
    by_cases h2 : S.epoch < e
    · rw [if_pos h2]
      go_enter Tryz.func64, Tryz.ntmps64
      go_wp2
      go_ret
      exact ⟨rfl, rfl⟩
    · rw [if_neg h2]
      go_enter Tryz.func64, Tryz.ntmps64
      go_wp2
      go_ret
      exact ⟨rfl, rfl⟩

end Go.Proofs.YtlckadlkgjfjcaaGreatDoor

namespace Go.Proofs.YtlckadlkgjfjcaaGreatDoor
open Go.RowKit

theorem qwith_iff {n a b : Int} : qwith n a b = true ↔ a ≤ n ∧ n ≤ b := by unfold qwith; rw [Bool.and_eq_true, decide_eq_true_iff, decide_eq_true_iff]
theorem qwith_no {n a b : Int} (h : ¬ (a ≤ n ∧ n ≤ b)) : qwith n a b = false := Bool.eq_false_iff.2 fun h2 => h (qwith_iff.1 h2)

theorem qnew_any (w : World) : Calls Tryz.prog 61 #[] w fun e w' => e = .returned (.pointer (some ⟨w.heap.size, 0, none⟩)) ∧ Sq w' w.heap.size ⟨0, 0⟩ ∧ Below w.heap.size w w' := by
  go_enter Tryz.func61, Tryz.ntmps61
  go_wp2
  go_ret
  exact ⟨rfl, ⟨heap_alloc_new _ _⟩, (Below.refl _ _).alloc (Nat.le_refl _) _⟩

set_option maxHeartbeats 1000000 in
set_option maxRecDepth 100000 in
theorem qtake_any {w : World} {b : Nat} {S : QS} (h : Sq w b S) (hk : QOk S) (e many : Int) : Calls Tryz.prog 24 #[.pointer (some ⟨b, 0, none⟩), .int .i64 e, .int .i64 many] w
    fun r w' => r = .returned (.tuple #[.int .i64 (qtakeN S e many), errV (qtakeC S e many)]) ∧ Sq w' b (qtakeS S e many) ∧ w.grownBy w' (some b) := by
  have HK := Lib.hid hk
  have H := Lib.hid h
  have c1 := h.c1
  have f1 := h.fz 1
  have HWI := Lib.hid (qwithin_any many 1 64 w)
  have HAS := Lib.hid (qasked_any h e)
  clear h hk
  by_cases g1 : 1 ≤ many ∧ many ≤ 64
  rotate_left
  · have HC : Hid (qtakeC S e many = 1) := Lib.hid (by unfold qtakeC; rw [if_pos (by omega)])
    rw [qwith_no g1] at HWI
    clear g1
    go_enter Tryz.func24, Tryz.ntmps24
    go_wp2_with fail
    refine HWI.out.mono ?_
    rintro r w1 ⟨rfl, rfl⟩
    go_wp2
    go_ret2
    unfold qtakeN qtakeS
    rw [HC.out, if_neg (by decide), if_neg (by decide)]
    exact ⟨rfl, H.out, World.grownBy.refl _ _⟩
  rw [qwith_iff.2 g1] at HWI
  by_cases g2 : qcur S e = 0
  rotate_left
  · have HC : Hid (qtakeC S e many = qcur S e ∧ qcur S e ≠ 0) := Lib.hid ⟨by unfold qtakeC; rw [if_neg (by omega), if_pos g2], g2⟩
    obtain ⟨c, hc⟩ : ∃ c, c = qcur S e := ⟨_, rfl⟩
    rw [← hc] at HC HAS
    rw [errV_pos (by rw [hc]; exact g2)] at HAS
    clear g1 g2 hc
    go_enter Tryz.func24, Tryz.ntmps24
    go_wp2_with fail
    refine HWI.out.mono ?_
    rintro r w1 ⟨rfl, rfl⟩
    go_wp2_with fail
    refine HAS.out.mono ?_
    rintro r w1 ⟨rfl, rfl⟩
    go_wp2
    go_ret2
    unfold qtakeN qtakeS
    rw [HC.out.1, if_neg HC.out.2, if_neg HC.out.2, errV_pos HC.out.2]
    exact ⟨rfl, H.out, World.grownBy.refl _ _⟩
  rw [g2, errV_zero] at HAS
  have HLD := Lib.hid (aload_any ⟨b, 1, none⟩ S.next w c1)
  have HCS := Lib.hid (acas_any ⟨b, 1, none⟩ S.next (S.next + many) w c1 f1)
  obtain ⟨k0, k1, k2, k3⟩ := HK.out
  by_cases g3 : S.next + many > 1048576
  · have HC : Hid (qtakeC S e many = 5) := Lib.hid (by unfold qtakeC; rw [if_neg (by omega), if_neg (by simp [g2]), if_pos (by omega)])
    clear g2
    go_enter Tryz.func24, Tryz.ntmps24
    go_wp2_with fail
    refine HWI.out.mono ?_
    rintro r w1 ⟨rfl, rfl⟩
    go_wp2_with fail
    refine HAS.out.mono ?_
    rintro r w1 ⟨rfl, rfl⟩
    go_wp2_with fail
    go_loopw [] (fun wr => wr = w) (fun _ => 0)
    case atStart => rfl
    case round =>
      subst hrel
      go_wp2_with fail
      refine HLD.out.mono ?_
      rintro r w1 ⟨rfl, rfl⟩
      go_wp2
      go_ret2
      unfold qtakeN qtakeS
      rw [HC.out, if_neg (by decide), if_neg (by decide)]
      exact ⟨rfl, H.out, World.grownBy.refl _ _⟩
  · have HC : Hid (qtakeC S e many = 0) := Lib.hid (by unfold qtakeC; rw [if_neg (by omega), if_neg (by simp [g2]), if_neg (by omega)])
    have hsum : wrap64 (S.next + many) = S.next + many := by simp only [wrap64]; omega
    clear g2
    go_enter Tryz.func24, Tryz.ntmps24
    go_wp2_with fail
    refine HWI.out.mono ?_
    rintro r w1 ⟨rfl, rfl⟩
    go_wp2_with fail
    refine HAS.out.mono ?_
    rintro r w1 ⟨rfl, rfl⟩
    go_wp2_with fail
    go_loopw [] (fun wr => wr = w) (fun _ => 0)
    case atStart => rfl
    case round =>
      subst hrel
      go_wp2_with fail
      refine HLD.out.mono ?_
      rintro r w1 ⟨rfl, rfl⟩
      go_wp2_with fail
      refine HCS.out.mono ?_
      rintro r w1 ⟨rfl, rfl⟩
      go_wp2
      go_ret2
      unfold qtakeN qtakeS
      rw [HC.out, if_pos rfl, if_pos rfl]
      exact ⟨rfl, H.out.set1 _, sq_grown _ _ _ _⟩

end Go.Proofs.YtlckadlkgjfjcaaGreatDoor

namespace Go.Proofs.YtlckadlkgjfjcaaGreatDoor
open Go.RowKit

set_option maxHeartbeats 1000000 in
set_option maxRecDepth 100000 in
theorem qset_any {w : World} {b : Nat} {S : QS} (h : Sq w b S) (e n : Int) : Calls Tryz.prog 78 #[.pointer (some ⟨b, 0, none⟩), .int .i64 e, .int .i64 n] w
    fun r w' => r = .returned (errV (qsetC S e n)) ∧ Sq w' b (qsetS S e n) ∧ w.grownBy w' (some b) := by
  have H := Lib.hid h
  have c0 := h.c0
  have f0 := h.fz 0
  have HW1 := Lib.hid (qwithin_any e 0 1099511627776 w)
  have HW2 := Lib.hid (qwithin_any n 0 1048576 w)
  have HST := Lib.hid (astore_any ⟨b, 1, none⟩ _ n _ (h.set0 e).c1 ((h.set0 e).fz 1))
  clear h
  by_cases g1 : 0 ≤ e ∧ e ≤ 1099511627776
  rotate_left
  · have HC : Hid (qsetC S e n = 1) := Lib.hid (by unfold qsetC; rw [if_pos (by omega)])
    rw [qwith_no g1] at HW1
    clear g1
    go_enter Tryz.func78, Tryz.ntmps78
    go_wp2_with fail
    refine HW1.out.mono ?_
    rintro r w1 ⟨rfl, rfl⟩
    go_wp2
    go_ret
    unfold qsetS
    rw [HC.out, if_neg (by decide)]
    exact ⟨rfl, H.out, World.grownBy.refl _ _⟩
  rw [qwith_iff.2 g1] at HW1
  by_cases g2 : 0 ≤ n ∧ n ≤ 1048576
  rotate_left
  · have HC : Hid (qsetC S e n = 1) := Lib.hid (by unfold qsetC; rw [if_pos (by omega)])
    rw [qwith_no g2] at HW2
    clear g1 g2
    go_enter Tryz.func78, Tryz.ntmps78
    go_wp2_with fail
    refine HW1.out.mono ?_
    rintro r w1 ⟨rfl, rfl⟩
    go_wp2_with fail
    refine HW2.out.mono ?_
    rintro r w1 ⟨rfl, rfl⟩
    go_wp2
    go_ret
    unfold qsetS
    rw [HC.out, if_neg (by decide)]
    exact ⟨rfl, H.out, World.grownBy.refl _ _⟩
  rw [qwith_iff.2 g2] at HW2
  by_cases g3 : e ≤ S.epoch
  · have HC : Hid (qsetC S e n = 6) := Lib.hid (by unfold qsetC; rw [if_neg (by omega), if_pos g3])
    go_enter Tryz.func78, Tryz.ntmps78
    go_wp2_with fail
    refine HW1.out.mono ?_
    rintro r w1 ⟨rfl, rfl⟩
    go_wp2_with fail
    refine HW2.out.mono ?_
    rintro r w1 ⟨rfl, rfl⟩
    go_wp2
    go_ret
    unfold qsetS
    rw [HC.out, if_neg (by decide)]
    exact ⟨rfl, H.out, World.grownBy.refl _ _⟩
  · have HC : Hid (qsetC S e n = 0) := Lib.hid (by unfold qsetC; rw [if_neg (by omega), if_neg g3])
    go_enter Tryz.func78, Tryz.ntmps78
    go_wp2_with fail
    refine HW1.out.mono ?_
    rintro r w1 ⟨rfl, rfl⟩
    go_wp2_with fail
    refine HW2.out.mono ?_
    rintro r w1 ⟨rfl, rfl⟩
    go_wp2_with fail
    refine HST.out.mono ?_
    rintro r w1 ⟨rfl, rfl⟩
    go_wp2
    go_ret
    unfold qsetS
    rw [HC.out, if_pos rfl]
    exact ⟨rfl, (H.out.set0 e).set1 n, grownBy_trans (sq_grown _ _ _ _) (sq_grown _ _ _ _) fun j hj _ => hj⟩

end Go.Proofs.YtlckadlkgjfjcaaGreatDoor
