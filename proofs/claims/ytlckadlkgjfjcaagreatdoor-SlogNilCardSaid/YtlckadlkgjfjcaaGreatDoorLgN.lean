/- Layer 13: what a nil cluster answers. -/
import Derived.Test.YtlckadlkgjfjcaaGreatDoorUnP
namespace Go.Proofs.YtlckadlkgjfjcaaGreatDoor
open Go.RowKit

abbrev nilC : Value := .pointer none

set_option maxRecDepth 100000 in
theorem ltakes_nil (a b : Int) (w : World) : Calls Tryz.prog 28 #[nilC, .int .i64 a, .int .i64 b] w fun r w' => r = .returned err4 ∧ w' = w := by
  go_enter Tryz.func28, Tryz.ntmps28
  go_wp2
  go_ret
  exact ⟨rfl, rfl⟩
set_option maxRecDepth 100000 in
theorem lat_nil (a : Int) (w : World) : Calls Tryz.prog 48 #[nilC, .int .i64 a] w fun r w' => r = .returned (.tuple #[.pointer none, err4]) ∧ w' = w := by
  go_enter Tryz.func48, Tryz.ntmps48
  go_wp2
  go_ret2
  exact ⟨rfl, rfl⟩
set_option maxRecDepth 100000 in
theorem lappend_nil (v : Value) (w : World) : Calls Tryz.prog 6 #[nilC, v] w fun r w' => r = .returned (.tuple #[.int .i64 0, err4]) ∧ w' = w := by
  go_enter Tryz.func6, Tryz.ntmps6
  go_wp2
  go_ret2
  exact ⟨rfl, rfl⟩
set_option maxRecDepth 100000 in
theorem ltail_nil (w : World) : Calls Tryz.prog 8 #[nilC] w fun r w' => r = .returned (.tuple #[.int .i64 0, err4]) ∧ w' = w := by
  go_enter Tryz.func8, Tryz.ntmps8
  go_wp2
  go_ret2
  exact ⟨rfl, rfl⟩
set_option maxRecDepth 100000 in
theorem lread_nil (a : Int) (w : World) : Calls Tryz.prog 7 #[nilC, .int .i64 a] w fun r w' => r = .returned (.tuple #[.agg #[.int .i64 0, .slice none 0 0], err4]) ∧ Below w.heap.size w w' := by
  have HT := Lib.hid (fun W => ltakes_nil a 1048575 W)
  obtain ⟨W1, hW1⟩ : ∃ W1, W1 = w.alloc (.cells #[.int .i64 0, .slice none 0 0] 24) := ⟨_, rfl⟩
  have hb1 : Below w.heap.size w W1 := by rw [hW1]; exact (Below.refl _ _).alloc (Nat.le_refl _) _
  have HB1 := Lib.hid hb1
  have hx : W1.heap[w.heap.size]? = some (.cells #[.int .i64 0, .slice none 0 0] 24 (0, 0)) := by rw [hW1]; exact heap_alloc_new _ _
  obtain ⟨b0, b1, b2, b3⟩ := blk2 hx
  have HW1 := Lib.hid hW1
  clear hW1 hb1
  go_enter Tryz.func7, Tryz.ntmps7
  go_wp2_with fail
  rw [← HW1.out]
  refine (HT.out _).mono ?_
  rintro r w3 ⟨rfl, rfl⟩
  go_wp2
  obtain ⟨q0, q1, _, _⟩ := blk2 (set2 (x := .int .i64 0) (y := .slice none 0 0) hx)
  exact bodyPost_ret (v := .tuple #[.agg #[.int .i64 0, .slice none 0 0], err4]) (by simp [results, Tryz.results7, go_sem, q0, q1]) rfl ⟨rfl, (HB1.out.setCell (by simp) _).setCell (by simp) _⟩
set_option maxRecDepth 100000 in
theorem lfill_nil (a : Int) (w : World) : Calls Tryz.prog 10 #[nilC, .int .i64 a] w fun r w' => r = .returned err4 ∧ w' = w := by
  have HT := Lib.hid (fun W => ltakes_nil a 1048575 W)
  go_enter Tryz.func10, Tryz.ntmps10
  go_wp2_with fail
  refine (HT.out _).mono ?_
  rintro r w ⟨rfl, rfl⟩
  go_wp2
  go_ret
  exact ⟨rfl, rfl⟩
set_option maxRecDepth 100000 in
theorem ltrim_nil (a : Int) (w : World) : Calls Tryz.prog 12 #[nilC, .int .i64 a] w fun r w' => r = .returned err4 ∧ w' = w := by
  have HT := Lib.hid (fun W => ltakes_nil a 1048576 W)
  go_enter Tryz.func12, Tryz.ntmps12
  go_wp2_with fail
  refine (HT.out _).mono ?_
  rintro r w ⟨rfl, rfl⟩
  go_wp2
  go_ret
  exact ⟨rfl, rfl⟩
set_option maxRecDepth 100000 in
theorem lcut_nil (a : Int) (w : World) : Calls Tryz.prog 13 #[nilC, .int .i64 a] w fun r w' => r = .returned err4 ∧ w' = w := by
  have HT := Lib.hid (fun W => ltakes_nil a 1048576 W)
  go_enter Tryz.func13, Tryz.ntmps13
  go_wp2_with fail
  refine (HT.out _).mono ?_
  rintro r w ⟨rfl, rfl⟩
  go_wp2
  go_ret
  exact ⟨rfl, rfl⟩
set_option maxRecDepth 100000 in
theorem lrebuild_nil (v : Value) (w : World) : Calls Tryz.prog 14 #[nilC, v] w fun r w' => r = .returned err4 ∧ w' = w := by
  go_enter Tryz.func14, Tryz.ntmps14
  go_wp2
  go_ret
  exact ⟨rfl, rfl⟩
set_option maxRecDepth 100000 in
theorem lprojection_nil (w : World) : Calls Tryz.prog 22 #[nilC] w fun r w' => r = .returned (.agg #[.int .i64 0, .slice none 0 0]) ∧ Below w.heap.size w w' := by
  obtain ⟨W1, hW1⟩ : ∃ W1, W1 = w.alloc (.cells #[.int .i64 0, .slice none 0 0] 54) := ⟨_, rfl⟩
  have hb1 : Below w.heap.size w W1 := by rw [hW1]; exact (Below.refl _ _).alloc (Nat.le_refl _) _
  have HB1 := Lib.hid hb1
  have hx : W1.heap[w.heap.size]? = some (.cells #[.int .i64 0, .slice none 0 0] 54 (0, 0)) := by rw [hW1]; exact heap_alloc_new _ _
  obtain ⟨b0, b1, b2, b3⟩ := blk2 hx
  have HW1 := Lib.hid hW1
  clear hW1 hb1
  go_enter Tryz.func22, Tryz.ntmps22
  go_wp2
  rw [← HW1.out]
  exact bodyPost_ret (v := .agg #[.int .i64 0, .slice none 0 0]) (by simp [results, Tryz.results22, go_sem, b0, b1]) rfl ⟨rfl, HB1.out⟩
set_option maxRecDepth 100000 in
theorem lput_nil (a k : Int) (v : Value) (w : World) : Calls Tryz.prog 11 #[nilC, .int .i64 a, .agg #[.int .i64 k, v]] w fun r w' => r = .returned err4 ∧ Below w.heap.size w w' := by
  have HT := Lib.hid (fun W => ltakes_nil a 1048575 W)
  obtain ⟨W1, hW1⟩ : ∃ W1, W1 = w.alloc (.cells #[.int .i64 k, v] 24) := ⟨_, rfl⟩
  have hb1 : Below w.heap.size w W1 := by rw [hW1]; exact (Below.refl _ _).alloc (Nat.le_refl _) _
  have HB1 := Lib.hid hb1
  have hx : W1.heap[w.heap.size]? = some (.cells #[.int .i64 k, v] 24 (0, 0)) := by rw [hW1]; exact heap_alloc_new _ _
  obtain ⟨b0, b1, b2, b3⟩ := blk2 hx
  have HW1 := Lib.hid hW1
  clear hW1 hb1
  go_enter Tryz.func11, Tryz.ntmps11
  go_wp2_with fail
  rw [← HW1.out]
  refine (HT.out _).mono ?_
  rintro r w3 ⟨rfl, rfl⟩
  go_wp2
  go_ret
  exact ⟨rfl, HB1.out⟩
set_option maxRecDepth 100000 in
theorem lkill_nil (u : Int) (v : Value) (w : World) : Calls Tryz.prog 15 #[nilC, .int .i64 u, v] w fun r w' => r = .returned err4 ∧ w' = w := by
  have HT := Lib.hid (fun W => lat_nil u W)
  go_enter Tryz.func15, Tryz.ntmps15
  go_wp2_with fail
  refine (HT.out _).mono ?_
  rintro r w ⟨rfl, rfl⟩
  go_wp2
  go_ret
  exact ⟨rfl, rfl⟩
set_option maxRecDepth 100000 in
theorem lstart_nil (u : Int) (w : World) : Calls Tryz.prog 16 #[nilC, .int .i64 u] w fun r w' => r = .returned err4 ∧ w' = w := by
  have HT := Lib.hid (fun W => lat_nil u W)
  go_enter Tryz.func16, Tryz.ntmps16
  go_wp2_with fail
  refine (HT.out _).mono ?_
  rintro r w ⟨rfl, rfl⟩
  go_wp2
  go_ret
  exact ⟨rfl, rfl⟩
set_option maxRecDepth 100000 in
theorem lfuse_nil (u n : Int) (w : World) : Calls Tryz.prog 17 #[nilC, .int .i64 u, .int .i64 n] w fun r w' => r = .returned err4 ∧ w' = w := by
  have HT := Lib.hid (fun W => lat_nil u W)
  go_enter Tryz.func17, Tryz.ntmps17
  go_wp2_with fail
  refine (HT.out _).mono ?_
  rintro r w ⟨rfl, rfl⟩
  go_wp2
  go_ret
  exact ⟨rfl, rfl⟩
set_option maxRecDepth 100000 in
theorem lcompact_nil (u : Int) (w : World) : Calls Tryz.prog 18 #[nilC, .int .i64 u] w fun r w' => r = .returned err4 ∧ w' = w := by
  have HT := Lib.hid (fun W => lat_nil u W)
  go_enter Tryz.func18, Tryz.ntmps18
  go_wp2_with fail
  refine (HT.out _).mono ?_
  rintro r w ⟨rfl, rfl⟩
  go_wp2
  go_ret
  exact ⟨rfl, rfl⟩
set_option maxRecDepth 100000 in
theorem lable_nil (u : Int) (w : World) : Calls Tryz.prog 19 #[nilC, .int .i64 u] w fun r w' => r = .returned (.bool false) ∧ w' = w := by
  have HT := Lib.hid (fun W => lat_nil u W)
  go_enter Tryz.func19, Tryz.ntmps19
  go_wp2_with fail
  refine (HT.out _).mono ?_
  rintro r w ⟨rfl, rfl⟩
  go_wp2
  go_ret
  exact ⟨rfl, rfl⟩
set_option maxRecDepth 100000 in
theorem lunit_nil (u : Int) (w : World) : Calls Tryz.prog 20 #[nilC, .int .i64 u] w fun r w' => r = .returned (.pointer none) ∧ w' = w := by
  have HT := Lib.hid (fun W => lat_nil u W)
  go_enter Tryz.func20, Tryz.ntmps20
  go_wp2_with fail
  refine (HT.out _).mono ?_
  rintro r w ⟨rfl, rfl⟩
  go_wp2
  go_ret
  exact ⟨rfl, rfl⟩
set_option maxRecDepth 100000 in
theorem ldisk_nil (u : Int) (w : World) : Calls Tryz.prog 21 #[nilC, .int .i64 u] w fun r w' => r = .returned (.pointer none) ∧ w' = w := by
  have HT := Lib.hid (fun W => lat_nil u W)
  go_enter Tryz.func21, Tryz.ntmps21
  go_wp2_with fail
  refine (HT.out _).mono ?_
  rintro r w ⟨rfl, rfl⟩
  go_wp2
  go_ret
  exact ⟨rfl, rfl⟩

end Go.Proofs.YtlckadlkgjfjcaaGreatDoor
