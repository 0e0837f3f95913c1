/- alive of law 14; the document's Put. -/
import Derived.Test.YtojndpelilolkaaGreatSgP
import Derived.Deep.RegionHeldLaw
namespace Go.Proofs.YtojndpelilolkaaGreat
open Go.RowKit

theorem alive_seg : sgC 3 [((2 : Int), [])] = 0 ∧ (fr (sgtext 3 [((2 : Int), [])])).length = 9 ∧ (fr (sgtext 3 [((2 : Int), [])])).take 5 = [4, 3, 1, 1, 2] := by decide +kernel
theorem cells_one (w : World) (k : Int) : CellsAt (w.alloc (.cells #[.int .i64 k, .slice none 0 0] 44)) (fun _ => True) (.slice (some ⟨w.heap.size, 0, none⟩) 1 1) [(k, [])] := by
  refine ⟨_, 1, rfl, Nat.le_refl _, by simp [maxLen], by simp, .inr ⟨w.heap.size, 0, rfl, by simp, trivial, fun i hi => ?_⟩⟩
  obtain rfl : i = 0 := by simpa using hi
  obtain ⟨c0, c1, _, _⟩ := blk2 (heap_alloc_new w (.cells #[.int .i64 k, .slice none 0 0] 44))
  exact ⟨_, c0, c1, (reads_none _ _).at'.mono fun _ _ _ => trivial⟩

set_option maxHeartbeats 1000000 in
set_option maxRecDepth 100000 in
theorem alive14_any (w : World) : Calls Tryz.prog 4 #[] w fun e w' => e = .returned (.bool true) ∧ Below w.heap.size w w' := by
  have HP := Lib.hid (sgput_any 3 _ [((2 : Int), [])] _ (fun _ => True) (cells_one w 2) (by simp))
  have HB1 : Hid (Below w.heap.size w (w.alloc (.cells #[.int .i64 2, .slice none 0 0] 44))) := Lib.hid ((Below.refl _ _).alloc (Nat.le_refl _) _)
  go_enter Tryz.func4, Tryz.ntmps4
  go_wp2_with fail
  refine HP.out.mono ?_
  rintro e w1 ⟨hb1, ⟨_, v1, rfl, ho1⟩ | ⟨hne, _⟩⟩
  rotate_left
  · exact absurd alive_seg.1 hne
  have HB2 := Lib.hid (HB1.out.trans (hb1.mono HB1.out.size))
  have HR := Lib.hid ho1.reads
  obtain ⟨ao, cap, rfl, l1, _, _⟩ := ho1.reads.val
  rw [alive_seg.2.1] at l1
  have l1' : (5 : Int) ≤ (cap : Int) := by omega
  have hr5 := HR.out.head (m := 5) (by rw [alive_seg.2.1]; decide)
  rw [alive_seg.2.2] at hr5
  have hcv : (convert 22 9 (.slice ao 5 cap)).run Tryz.prog w1 = .ok (.string (strOfNums (([4, 3, 1, 1, 2] : List Nat).map (fun n : Nat => (n : Int))))) w1 := conv_reads _ _ w1 hr5
  rw [show strOfNums (([4, 3, 1, 1, 2] : List Nat).map (fun n : Nat => (n : Int))) = { data := #[4, 3, 1, 1, 2] } from rfl] at hcv
  rw [alive_seg.2.1]
  have hsl := fun W => slice_head W ao 9 cap 5 (by omega)
  clear hb1 ho1 hr5
  go_wp2
  go_ret
  exact ⟨rfl, HB2.out⟩

end Go.Proofs.YtojndpelilolkaaGreat
