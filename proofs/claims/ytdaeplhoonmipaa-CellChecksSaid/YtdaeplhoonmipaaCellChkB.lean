/- CellChecks, walked: a kind below 0. -/
import Derived.Test.YtdaeplhoonmipaaCelZ
namespace Go.Proofs.Ytdaeplhoonmipaa
open Go.RowKit

set_option maxHeartbeats 8000000 in
set_option maxRecDepth 100000 in
theorem checks_low (ka kb : Int) (kd : Int) (hkd : kd < 0) (va vb : Value) (da db : List Nat) (w : World) (ha : Reads w .u8 va da) (hb : Reads w .u8 vb db) (h8a : ∀ y ∈ da, y < 256) (h8b : ∀ y ∈ db, y < 256) :
    Calls Try.prog 3 #[.agg #[.int .i64 ka, va], .agg #[.int .i64 kb, vb], .int .i64 kd] w fun e w' => e = .returned (.bool true) ∧ Below w.heap.size w w' := by
  obtain ⟨ao1, cap1, rfl, _, _, _⟩ := ha.val
  obtain ⟨ao2, cap2, rfl, _, _, _⟩ := hb.val
  obtain ⟨hb0, hx1, hx2⟩ := two_boxes w (.slice ao1 da.length cap1) (.slice ao2 db.length cap2) ka kb
  obtain ⟨W0, hW0⟩ : ∃ W0, W0 = (w.alloc (.cells #[.int .i64 ka, .slice ao1 da.length cap1] 24)).alloc (.cells #[.int .i64 kb, .slice ao2 db.length cap2] 24) := ⟨_, rfl⟩
  rw [← hW0] at hb0 hx1 hx2
  have HA := Lib.hid (ha.new hb0)
  have HB := Lib.hid (hb.new hb0)
  have H8A := Lib.hid h8a
  have H8B := Lib.hid h8b
  have HB0 := Lib.hid hb0
  have HX1 := Lib.hid hx1
  have HX2 := Lib.hid hx2
  clear hx1 hx2 hb0 ha hb h8a h8b
  go_enter Try.func3, Try.ntmps3
  go_wp2_with fail
  rw [← hW0]
  refine (alive5_any W0).mono ?_
  rintro e w1 ⟨rfl, hb1⟩
  have HB1 : Hid (Below w.heap.size w w1) := Lib.hid (HB0.out.trans (hb1.mono HB0.out.size))
  have HY1 := Lib.hid ((hb1.block _ (Array.getElem?_eq_some_iff.1 HX1.out).1).trans HX1.out)
  have HY2 := Lib.hid ((hb1.block _ (Array.getElem?_eq_some_iff.1 HX2.out).1).trans HX2.out)
  have HA1 := Lib.hid (HA.out.new hb1)
  have HB1r := Lib.hid (HB.out.new hb1)
  clear hb1 HX1 HX2 HB0 HA HB hW0
  obtain ⟨a0, a1, _, _⟩ := blk2 HY1.out
  obtain ⟨b0, b1, _, _⟩ := blk2 HY2.out
  have hcl : CellsAt _ (fun _ => True) (.slice (some ⟨w1.heap.size, 0, none⟩) 2 2) [(ka, da), (kb, db)] := cells_lit w1 24 [(ka, .slice ao1 da.length cap1, da), (kb, .slice ao2 db.length cap2, db)] _ rfl (by intro x hx; simp only [List.mem_cons, List.not_mem_nil, or_false] at hx; rcases hx with rfl | rfl <;> first | exact HA1.out | exact HB1r.out) (by simp)
  have HCL := Lib.hid hcl
  clear hcl
  have hal : Below w1.heap.size w1 (w1.alloc (.cells (List.flatMap (fun x : Int × Value × List Nat => [Value.int .i64 x.1, x.2.1]) [(ka, .slice ao1 da.length cap1, da), (kb, .slice ao2 db.length cap2, db)]).toArray 24)) := (Below.refl _ _).alloc (Nat.le_refl _) _
  have HAL := Lib.hid hal
  clear hal
  go_wp2_with fail
  refine (long_any _ _ 2 _ _ HCL.out (by simp)).mono ?_
  rintro e w2 ⟨rfl, hb2⟩
  have hb12 := HAL.out.trans (hb2.mono HAL.out.size)
  have HB2 : Hid (Below w.heap.size w w2) := Lib.hid (HB1.out.trans (hb12.mono HB1.out.size))
  have HZ1 := Lib.hid ((hb12.block _ (Array.getElem?_eq_some_iff.1 HY1.out).1).trans HY1.out)
  have HZ2 := Lib.hid ((hb12.block _ (Array.getElem?_eq_some_iff.1 HY2.out).1).trans HY2.out)
  have HA2 := Lib.hid (HA1.out.new hb12)
  have HB2r := Lib.hid (HB1r.out.new hb12)
  clear hb2 hb12 HB1 HY1 HY2 HA1 HB1r a0 a1 b0 b1 HCL HAL
  cases hlong : longB [(ka, da), (kb, db)] 2
  rotate_left
  · go_wp2
    go_ret
    exact ⟨rfl, HB2.out⟩
  obtain ⟨la, lb⟩ : da.length ≤ 100 ∧ db.length ≤ 100 := by
    simp only [longB, List.any_cons, List.any_nil, Bool.or_false, Bool.or_eq_false_iff, decide_eq_false_iff_not] at hlong
    omega
  have HLA := Lib.hid la
  have HLB := Lib.hid lb
  clear la lb hlong
  have hinfoC := Try.infoCell2
  have hinfoD := Try.infoRef2
  have HMX : Hid (Try.prog.follows .mixedOrders = true) := Lib.hid (by kernel_rfl)
  go_wp2_with fail
  refine wp_region_extS (fun W => Below w2.heap.size w2 W) (Below.refl _ _).drew HMX.out ?_
  refine extS_take (i := 0) (d := 25) (v := ?_) rfl rfl (by kernel_rfl) (by kernel_rfl) (by kernel_rfl) (fun _ _ _ h => h) (by rfl) (fun W hS => ?_) ?_
  rotate_left
  · skip
    (refine load_gives 24 (.tmp 3) ?_ w.heap.size ?_ _ #[.int .i64 ka, .slice ao1 da.length cap1] (0, 0) _ ((hS.block _ (Array.getElem?_eq_some_iff.1 HZ1.out).1).trans HZ1.out) Try.underlying24 rfl hinfoC ?_ <;> first | rfl | exact ⟨Below.refl _ _, hS⟩)
  simp only [List.setIfInBounds_toArray, List.set_cons_zero, List.set_cons_succ]
  refine extS_take (i := 1) (d := 26) (v := ?_) rfl rfl (by kernel_rfl) (by kernel_rfl) (by kernel_rfl) (fun _ _ _ h => h) (by rfl) (fun W hS => ?_) ?_
  rotate_left
  · skip
    go_simp; refine Gives.enter ((document_any ka _ da W (HA2.out.new hS)).mono ?_); rintro e wn ⟨rfl, hbn⟩; refine ⟨?_, hbn, Below.trans hS (hbn.mono hS.size)⟩; with_reducible rfl
  simp only [List.setIfInBounds_toArray, List.set_cons_zero, List.set_cons_succ]
  refine extS_take (i := 2) (d := 27) (v := ?_) rfl rfl (by kernel_rfl) (by kernel_rfl) (by kernel_rfl) (fun _ _ _ h => h) (by rfl) (fun W hS => ?_) ?_
  rotate_left
  · skip
    (refine load_gives 24 (.tmp 4) ?_ (w.heap.size + 1) ?_ _ #[.int .i64 kb, .slice ao2 db.length cap2] (0, 0) _ ((hS.block _ (Array.getElem?_eq_some_iff.1 HZ2.out).1).trans HZ2.out) Try.underlying24 rfl hinfoC ?_ <;> first | rfl | exact ⟨Below.refl _ _, hS⟩)
  simp only [List.setIfInBounds_toArray, List.set_cons_zero, List.set_cons_succ]
  refine extS_take (i := 3) (d := 28) (v := ?_) rfl rfl (by kernel_rfl) (by kernel_rfl) (by kernel_rfl) (fun _ _ _ h => h) (by rfl) (fun W hS => ?_) ?_
  rotate_left
  · skip
    go_simp; refine Gives.enter ((document_any kb _ db W (HB2r.out.new hS)).mono ?_); rintro e wn ⟨rfl, hbn⟩; refine ⟨?_, hbn, Below.trans hS (hbn.mono hS.size)⟩; with_reducible rfl
  simp only [List.setIfInBounds_toArray, List.set_cons_zero, List.set_cons_succ]
  refine extS_allocs (i := 4) (j := 5) (di := 7) (dj := 8) (ci := .cells #[.int .i64 0, .string { data := #[] }] 29) (cj := .cells #[.int .i64 0, .string { data := #[] }] 29) (by decide) (by decide) rfl rfl rfl rfl rfl rfl (by kernel_rfl) (by kernel_rfl) (by kernel_rfl) (fun ρ w => by kernel_rfl) (fun ρ w => by kernel_rfl) (fun W o hS => hS.alloc hS.size o) (fun g7 g8 W5 hS5 _ hgg hg7 hg8 hw7 hw8 => ?_)
  simp only [List.setIfInBounds_toArray, List.set_cons_zero, List.set_cons_succ]
  refine extS_one (i := 6) (by kernel_rfl) rfl (fun W6 hb6 hS6 => ?_)
  have hv7 := (hb6.block _ (Array.getElem?_eq_some_iff.1 hw7).1).trans hw7
  have hv8 := (hb6.block _ (Array.getElem?_eq_some_iff.1 hw8).1).trans hw8
  obtain ⟨s0, s1, s2, s3⟩ := blk2 hv7
  intro K hK
  go_simp
  have hT7 : Below w2.heap.size w2 ((W6.setCell ⟨g7, 0, none⟩ (.int .i64 ka)).setCell ⟨g7, 1, none⟩ (.string (S8 da))) := (hS6.setCell hg7 _).setCell hg7 _
  have hu7 := set2 (x := .int .i64 ka) (y := .string (S8 da)) hv7
  have hu8 : ((W6.setCell ⟨g7, 0, none⟩ (.int .i64 ka)).setCell ⟨g7, 1, none⟩ (.string (S8 da))).heap[g8]? = some (.cells #[.int .i64 0, .string { data := #[] }] 29 (0, 0)) := by
    rw [heap_setCell_other _ _ _ _ (Ne.symm hgg), heap_setCell_other _ _ _ _ (Ne.symm hgg)]; exact hv8
  generalize (W6.setCell ⟨g7, 0, none⟩ (.int .i64 ka)).setCell ⟨g7, 1, none⟩ (.string (S8 da)) = W7 at hT7 hu7 hu8 ⊢
  refine hK _ _ hT7 ?_
  clear hK K s0 s1 s2 s3 hv7 hv8 hw7 hw8 hb6 hS5 hS6 hT7
  refine extS_one (i := 7) (by kernel_rfl) rfl (fun W8 hb8 hS8 => ?_)
  have hv7 := (hb8.block _ (Array.getElem?_eq_some_iff.1 hu7).1).trans hu7
  have hv8 := (hb8.block _ (Array.getElem?_eq_some_iff.1 hu8).1).trans hu8
  obtain ⟨s0, s1, s2, s3⟩ := blk2 hv8
  intro K hK
  go_simp
  have hS9 : Below w2.heap.size w2 ((W8.setCell ⟨g8, 0, none⟩ (.int .i64 kb)).setCell ⟨g8, 1, none⟩ (.string (S8 db))) := (hS8.setCell hg8 _).setCell hg8 _
  have hx8 := set2 (x := .int .i64 kb) (y := .string (S8 db)) hv8
  have hx7 : ((W8.setCell ⟨g8, 0, none⟩ (.int .i64 kb)).setCell ⟨g8, 1, none⟩ (.string (S8 db))).heap[g7]? = some (.cells #[.int .i64 ka, .string (S8 da)] 29 (0, 0)) := by
    rw [heap_setCell_other _ _ _ _ hgg, heap_setCell_other _ _ _ _ hgg]; exact hv7
  generalize (W8.setCell ⟨g8, 0, none⟩ (.int .i64 kb)).setCell ⟨g8, 1, none⟩ (.string (S8 db)) = W9 at hS9 hx7 hx8 ⊢
  refine hK _ _ hS9 ?_
  clear hK K s0 s1 s2 s3 hv7 hv8 hu7 hu8 hb8 hS8 hS9
  refine extS_done (by kernel_rfl) (fun w3 hb3 hS3 => ?_) _
  have hy7 := (hb3.block _ (Array.getElem?_eq_some_iff.1 hx7).1).trans hx7
  have hy8 := (hb3.block _ (Array.getElem?_eq_some_iff.1 hx8).1).trans hx8
  have HX := Lib.hid hy7
  have HY := Lib.hid hy8
  have HB3 := Lib.hid (HB2.out.trans (hS3.mono HB2.out.size))
  have HV1 := Lib.hid ((hS3.block _ (Array.getElem?_eq_some_iff.1 HZ1.out).1).trans HZ1.out)
  have HV2 := Lib.hid ((hS3.block _ (Array.getElem?_eq_some_iff.1 HZ2.out).1).trans HZ2.out)
  have HA3 := Lib.hid (HA2.out.new hS3)
  have HB3r := Lib.hid (HB2r.out.new hS3)
  have HG7 : Hid (w.heap.size ≤ g7) := Lib.hid (Nat.le_trans HB2.out.size hg7)
  have HG8 : Hid (w.heap.size ≤ g8) := Lib.hid (Nat.le_trans HB2.out.size hg8)
  have HGG := Lib.hid hgg
  clear hx7 hx8 hy7 hy8 hb3 hS3 HZ1 HZ2 HA2 HB2r HB2 hg7 hg8 hgg
  obtain ⟨x0, x1, _, _⟩ := blk2 HX.out
  go_wp2_with fail
  refine (refCheck_any ka (S8 da) w3).mono ?_
  rw [S8_size]
  rintro e w4 ⟨rfl, hb4⟩
  have HB4 := Lib.hid (HB3.out.trans (hb4.mono HB3.out.size))
  have HX4 := Lib.hid ((hb4.block _ (Array.getElem?_eq_some_iff.1 HX.out).1).trans HX.out)
  have HY4 := Lib.hid ((hb4.block _ (Array.getElem?_eq_some_iff.1 HY.out).1).trans HY.out)
  have HU1 := Lib.hid ((hb4.block _ (Array.getElem?_eq_some_iff.1 HV1.out).1).trans HV1.out)
  have HU2 := Lib.hid ((hb4.block _ (Array.getElem?_eq_some_iff.1 HV2.out).1).trans HV2.out)
  have HA4 := Lib.hid (HA3.out.new hb4)
  have HB4r := Lib.hid (HB3r.out.new hb4)
  clear hb4 HX HY HV1 HV2 HA3 HB3r HB3 x0 x1
  obtain ⟨bad, hbad⟩ : ∃ bad, bad = chk ka da.length := ⟨_, rfl⟩
  rw [← hbad]
  have HBAD := Lib.hid hbad
  clear hbad
  obtain ⟨ev, hev⟩ : ∃ ev, ev = errV bad := ⟨_, rfl⟩
  have HEV := Lib.hid hev
  obtain ⟨sm, hsm⟩ : ∃ sm, sameC ka da kb db = sm := ⟨_, rfl⟩
  have HEQ : Hid (∀ W, (binOp .eql 29 (.agg #[.int .i64 ka, .string (S8 da)]) (.agg #[.int .i64 kb, .string (S8 db)])).run Try.prog W = .ok (.bool sm) W) := Lib.hid (fun W => by rw [← hsm]; exact eql_cellsC ka kb da db H8A.out H8B.out W)
  have HSM := Lib.hid hsm
  obtain ⟨my, hmy⟩ : ∃ my, mayC ka da kb db = my := ⟨_, rfl⟩
  have HMI : Hid (mayI ka (S8 da) kb (S8 db) = my) := Lib.hid (by rw [mayI_eq ka kb da db H8A.out H8B.out, hmy])
  have HMY := Lib.hid hmy
  clear hev hsm hmy
  go_wp2_with fail
  obtain ⟨w5, hw5⟩ : ∃ w5, w5 = w4 := ⟨_, rfl⟩
  rw [← hw5]
  have HAL5 : Hid (Below w4.heap.size w4 w5) := Lib.hid (by rw [hw5]; exact Below.refl _ _)
  have hwd : wordB kd = { data := #[] } := by
    unfold wordB
    rw [if_neg (by omega), if_neg (by omega), if_neg (by omega), if_neg (by omega)]
  have HWD := Lib.hid hwd
  clear hw5 hwd
  have HX5 := Lib.hid ((HAL5.out.block _ (Array.getElem?_eq_some_iff.1 HX4.out).1).trans HX4.out)
  have HY5 := Lib.hid ((HAL5.out.block _ (Array.getElem?_eq_some_iff.1 HY4.out).1).trans HY4.out)
  have HV1' := Lib.hid ((HAL5.out.block _ (Array.getElem?_eq_some_iff.1 HU1.out).1).trans HU1.out)
  have HV2' := Lib.hid ((HAL5.out.block _ (Array.getElem?_eq_some_iff.1 HU2.out).1).trans HU2.out)
  have HA5 := Lib.hid (HA4.out.new HAL5.out)
  have HB5r := Lib.hid (HB4r.out.new HAL5.out)
  have HB5 := Lib.hid (HB4.out.trans (HAL5.out.mono HB4.out.size))
  clear HX4 HY4 HU1 HU2 HA4 HB4r HB4 HAL5
  refine wp_region_extS (fun W => Below w5.heap.size w5 W) (Below.refl _ _).drew HMX.out ?_
  refine extS_take (i := 0) (d := 41) (v := ?_) rfl rfl (by kernel_rfl) (by kernel_rfl) (by kernel_rfl) (fun _ _ _ h => h) (by rfl) (fun W hS => ?_) ?_
  rotate_left
  · skip
    (refine load_gives 24 (.tmp 3) ?_ w.heap.size ?_ _ #[.int .i64 ka, .slice ao1 da.length cap1] (0, 0) _ ((hS.block _ (Array.getElem?_eq_some_iff.1 HV1'.out).1).trans HV1'.out) Try.underlying24 rfl hinfoC ?_ <;> first | rfl | exact ⟨Below.refl _ _, hS⟩)
  simp only [List.setIfInBounds_toArray, List.set_cons_zero, List.set_cons_succ]
  refine extS_take (i := 1) (d := 42) (v := ?_) rfl rfl (by kernel_rfl) (by kernel_rfl) (by kernel_rfl) (fun _ _ _ h => h) (by rfl) (fun W hS => ?_) ?_
  rotate_left
  · skip
    go_simp; refine Gives.enter ((check_any ka _ da W (HA5.out.new hS)).mono ?_); rintro e wn ⟨rfl, hbn⟩; rw [← HBAD.out, ← HEV.out]; refine ⟨?_, hbn, Below.trans hS (hbn.mono hS.size)⟩; with_reducible rfl
  simp only [List.setIfInBounds_toArray, List.set_cons_zero, List.set_cons_succ]
  refine extS_take (i := 2) (d := 43) (v := ?_) rfl rfl (by kernel_rfl) (by kernel_rfl) (by kernel_rfl) (fun _ _ _ h => h) (by rfl) (fun W hS => ?_) ?_
  rotate_left
  · skip
    go_simp; rw [HEV.out]; refine Gives.enter ((num_any bad W).mono ?_); rintro e wn ⟨rfl, rfl⟩; refine ⟨?_, Below.refl _ _, hS⟩; with_reducible rfl
  simp only [List.setIfInBounds_toArray, List.set_cons_zero, List.set_cons_succ]
  refine extS_take (i := 3) (d := 44) (v := ?_) rfl rfl (by kernel_rfl) (by kernel_rfl) (by kernel_rfl) (fun _ _ _ h => h) (by rfl) (fun W hS => ?_) ?_
  rotate_left
  · skip
    refine gives_value (w := W) ⟨Below.refl _ _, hS⟩ ?_; go_simp; try with_reducible rfl
  simp only [List.setIfInBounds_toArray, List.set_cons_zero, List.set_cons_succ]
  refine extS_take (i := 4) (d := 45) (v := ?_) rfl rfl (by kernel_rfl) (by kernel_rfl) (by kernel_rfl) (fun _ _ _ h => h) (by rfl) (fun W hS => ?_) ?_
  rotate_left
  · skip
    refine gives_value (w := W) ⟨Below.refl _ _, hS⟩ ?_; go_simp; try with_reducible rfl
  simp only [List.setIfInBounds_toArray, List.set_cons_zero, List.set_cons_succ]
  refine extS_take (i := 5) (d := 46) (v := ?_) rfl rfl (by kernel_rfl) (by kernel_rfl) (by kernel_rfl) (fun _ _ _ h => h) (by rfl) (fun W hS => ?_) ?_
  rotate_left
  · skip
    refine gives_value (w := W) ⟨Below.refl _ _, hS⟩ ?_; go_simp; try with_reducible rfl
  simp only [List.setIfInBounds_toArray, List.set_cons_zero, List.set_cons_succ]
  refine extS_take (i := 6) (d := 47) (v := ?_) rfl rfl (by kernel_rfl) (by kernel_rfl) (by kernel_rfl) (fun _ _ _ h => h) (by rfl) (fun W hS => ?_) ?_
  rotate_left
  · skip
    (refine load_gives 24 (.tmp 3) ?_ w.heap.size ?_ _ #[.int .i64 ka, .slice ao1 da.length cap1] (0, 0) _ ((hS.block _ (Array.getElem?_eq_some_iff.1 HV1'.out).1).trans HV1'.out) Try.underlying24 rfl hinfoC ?_ <;> first | rfl | exact ⟨Below.refl _ _, hS⟩)
  simp only [List.setIfInBounds_toArray, List.set_cons_zero, List.set_cons_succ]
  refine extS_take (i := 7) (d := 48) (v := ?_) rfl rfl (by kernel_rfl) (by kernel_rfl) (by kernel_rfl) (fun _ _ _ h => h) (by rfl) (fun W hS => ?_) ?_
  rotate_left
  · skip
    (refine load_gives 24 (.tmp 4) ?_ (w.heap.size + 1) ?_ _ #[.int .i64 kb, .slice ao2 db.length cap2] (0, 0) _ ((hS.block _ (Array.getElem?_eq_some_iff.1 HV2'.out).1).trans HV2'.out) Try.underlying24 rfl hinfoC ?_ <;> first | rfl | exact ⟨Below.refl _ _, hS⟩)
  simp only [List.setIfInBounds_toArray, List.set_cons_zero, List.set_cons_succ]
  refine extS_take (i := 8) (d := 49) (v := ?_) rfl rfl (by kernel_rfl) (by kernel_rfl) (by kernel_rfl) (fun _ _ _ h => h) (by rfl) (fun W hS => ?_) ?_
  rotate_left
  · skip
    go_simp; refine Gives.enter ((same_any ka kb _ _ da db W (HA5.out.new hS) (HB5r.out.new hS) H8A.out H8B.out).mono ?_); rintro e wn ⟨rfl, hbn⟩; rw [HSM.out]; refine ⟨?_, hbn, Below.trans hS (hbn.mono hS.size)⟩; with_reducible rfl
  simp only [List.setIfInBounds_toArray, List.set_cons_zero, List.set_cons_succ]
  refine extS_take (i := 9) (d := 50) (v := ?_) rfl rfl (by kernel_rfl) (by kernel_rfl) (by kernel_rfl) (fun _ _ _ h => h) (by rfl) (fun W hS => ?_) ?_
  rotate_left
  · skip
    (refine load_gives 29 (.tmp 7) ?_ g7 ?_ _ #[.int .i64 ka, .string (S8 da)] (0, 0) _ ((hS.block _ (Array.getElem?_eq_some_iff.1 HX5.out).1).trans HX5.out) Try.underlying29 rfl hinfoD ?_ <;> first | rfl | exact ⟨Below.refl _ _, hS⟩)
  simp only [List.setIfInBounds_toArray, List.set_cons_zero, List.set_cons_succ]
  refine extS_take (i := 10) (d := 51) (v := ?_) rfl rfl (by kernel_rfl) (by kernel_rfl) (by kernel_rfl) (fun _ _ _ h => h) (by rfl) (fun W hS => ?_) ?_
  rotate_left
  · skip
    (refine load_gives 29 (.tmp 8) ?_ g8 ?_ _ #[.int .i64 kb, .string (S8 db)] (0, 0) _ ((hS.block _ (Array.getElem?_eq_some_iff.1 HY5.out).1).trans HY5.out) Try.underlying29 rfl hinfoD ?_ <;> first | rfl | exact ⟨Below.refl _ _, hS⟩)
  simp only [List.setIfInBounds_toArray, List.set_cons_zero, List.set_cons_succ]
  refine extS_take (i := 11) (d := 52) (v := ?_) rfl rfl (by kernel_rfl) (by kernel_rfl) (by kernel_rfl) (fun _ _ _ h => h) (by rfl) (fun W hS => ?_) ?_
  rotate_left
  · skip
    refine gives_value (w := W) ⟨Below.refl _ _, hS⟩ ?_; refine (exec_eqs rfl ?_ ?_ (by kernel_rfl) (HEQ.out W)).trans ?_ <;> rfl
  simp only [List.setIfInBounds_toArray, List.set_cons_zero, List.set_cons_succ]
  refine extS_take (i := 12) (d := 53) (v := ?_) rfl rfl (by kernel_rfl) (by kernel_rfl) (by kernel_rfl) (fun _ _ _ h => h) (by rfl) (fun W hS => ?_) ?_
  rotate_left
  · skip
    refine gives_value (w := W) ⟨Below.refl _ _, hS⟩ ?_; go_simp; try with_reducible rfl
  simp only [List.setIfInBounds_toArray, List.set_cons_zero, List.set_cons_succ]
  refine extS_take (i := 13) (d := 54) (v := ?_) rfl rfl (by kernel_rfl) (by kernel_rfl) (by kernel_rfl) (fun _ _ _ h => h) (by rfl) (fun W hS => ?_) ?_
  rotate_left
  · skip
    refine gives_value (w := W) ⟨Below.refl _ _, hS⟩ ?_; go_simp; try with_reducible rfl
  simp only [List.setIfInBounds_toArray, List.set_cons_zero, List.set_cons_succ]
  refine extS_take (i := 14) (d := 55) (v := ?_) rfl rfl (by kernel_rfl) (by kernel_rfl) (by kernel_rfl) (fun _ _ _ h => h) (by rfl) (fun W hS => ?_) ?_
  rotate_left
  · skip
    refine gives_value (w := W) ⟨Below.refl _ _, hS⟩ ?_; go_simp; try with_reducible rfl
  simp only [List.setIfInBounds_toArray, List.set_cons_zero, List.set_cons_succ]
  refine extS_take (i := 15) (d := 56) (v := ?_) rfl rfl (by kernel_rfl) (by kernel_rfl) (by kernel_rfl) (fun _ _ _ h => h) (by rfl) (fun W hS => ?_) ?_
  rotate_left
  · skip
    (refine load_gives 24 (.tmp 3) ?_ w.heap.size ?_ _ #[.int .i64 ka, .slice ao1 da.length cap1] (0, 0) _ ((hS.block _ (Array.getElem?_eq_some_iff.1 HV1'.out).1).trans HV1'.out) Try.underlying24 rfl hinfoC ?_ <;> first | rfl | exact ⟨Below.refl _ _, hS⟩)
  simp only [List.setIfInBounds_toArray, List.set_cons_zero, List.set_cons_succ]
  refine extS_take (i := 16) (d := 57) (v := ?_) rfl rfl (by kernel_rfl) (by kernel_rfl) (by kernel_rfl) (fun _ _ _ h => h) (by rfl) (fun W hS => ?_) ?_
  rotate_left
  · skip
    (refine load_gives 24 (.tmp 4) ?_ (w.heap.size + 1) ?_ _ #[.int .i64 kb, .slice ao2 db.length cap2] (0, 0) _ ((hS.block _ (Array.getElem?_eq_some_iff.1 HV2'.out).1).trans HV2'.out) Try.underlying24 rfl hinfoC ?_ <;> first | rfl | exact ⟨Below.refl _ _, hS⟩)
  simp only [List.setIfInBounds_toArray, List.set_cons_zero, List.set_cons_succ]
  refine extS_take (i := 17) (d := 58) (v := ?_) rfl rfl (by kernel_rfl) (by kernel_rfl) (by kernel_rfl) (fun _ _ _ h => h) (by rfl) (fun W hS => ?_) ?_
  rotate_left
  · skip
    go_simp; refine Gives.enter ((may_any ka kb _ _ da db W (HA5.out.new hS) (HB5r.out.new hS) H8A.out H8B.out).mono ?_); rintro e wn ⟨rfl, hbn⟩; rw [HMY.out]; refine ⟨?_, hbn, Below.trans hS (hbn.mono hS.size)⟩; with_reducible rfl
  simp only [List.setIfInBounds_toArray, List.set_cons_zero, List.set_cons_succ]
  refine extS_take (i := 18) (d := 59) (v := ?_) rfl rfl (by kernel_rfl) (by kernel_rfl) (by kernel_rfl) (fun _ _ _ h => h) (by rfl) (fun W hS => ?_) ?_
  rotate_left
  · skip
    (refine load_gives 29 (.tmp 7) ?_ g7 ?_ _ #[.int .i64 ka, .string (S8 da)] (0, 0) _ ((hS.block _ (Array.getElem?_eq_some_iff.1 HX5.out).1).trans HX5.out) Try.underlying29 rfl hinfoD ?_ <;> first | rfl | exact ⟨Below.refl _ _, hS⟩)
  simp only [List.setIfInBounds_toArray, List.set_cons_zero, List.set_cons_succ]
  refine extS_take (i := 19) (d := 60) (v := ?_) rfl rfl (by kernel_rfl) (by kernel_rfl) (by kernel_rfl) (fun _ _ _ h => h) (by rfl) (fun W hS => ?_) ?_
  rotate_left
  · skip
    (refine load_gives 29 (.tmp 8) ?_ g8 ?_ _ #[.int .i64 kb, .string (S8 db)] (0, 0) _ ((hS.block _ (Array.getElem?_eq_some_iff.1 HY5.out).1).trans HY5.out) Try.underlying29 rfl hinfoD ?_ <;> first | rfl | exact ⟨Below.refl _ _, hS⟩)
  simp only [List.setIfInBounds_toArray, List.set_cons_zero, List.set_cons_succ]
  refine extS_take (i := 20) (d := 61) (v := ?_) rfl rfl (by kernel_rfl) (by kernel_rfl) (by kernel_rfl) (fun _ _ _ h => h) (by rfl) (fun W hS => ?_) ?_
  rotate_left
  · skip
    go_simp; refine Gives.enter ((refMay_any ka (S8 da) kb (S8 db) W).mono ?_); rintro e wn ⟨rfl, hbn⟩; rw [HMI.out]; refine ⟨?_, hbn, Below.trans hS (hbn.mono hS.size)⟩; with_reducible rfl
  simp only [List.setIfInBounds_toArray, List.set_cons_zero, List.set_cons_succ]
  refine extS_take (i := 21) (d := 62) (v := ?_) rfl rfl (by kernel_rfl) (by kernel_rfl) (by kernel_rfl) (fun _ _ _ h => h) (by rfl) (fun W hS => ?_) ?_
  rotate_left
  · skip
    refine gives_value (w := W) ⟨Below.refl _ _, hS⟩ ?_; go_simp; try with_reducible rfl
  simp only [List.setIfInBounds_toArray, List.set_cons_zero, List.set_cons_succ]
  refine extS_take (i := 22) (d := 63) (v := ?_) rfl rfl (by kernel_rfl) (by kernel_rfl) (by kernel_rfl) (fun _ _ _ h => h) (by rfl) (fun W hS => ?_) ?_
  rotate_left
  · skip
    refine gives_value (w := W) ⟨Below.refl _ _, hS⟩ ?_; go_simp; try with_reducible rfl
  simp only [List.setIfInBounds_toArray, List.set_cons_zero, List.set_cons_succ]
  refine extS_take (i := 23) (d := 64) (v := ?_) rfl rfl (by kernel_rfl) (by kernel_rfl) (by kernel_rfl) (fun _ _ _ h => h) (by rfl) (fun W hS => ?_) ?_
  rotate_left
  · skip
    refine gives_value (w := W) ⟨Below.refl _ _, hS⟩ ?_; go_simp; try with_reducible rfl
  simp only [List.setIfInBounds_toArray, List.set_cons_zero, List.set_cons_succ]
  refine extS_take (i := 24) (d := 65) (v := ?_) rfl rfl (by kernel_rfl) (by kernel_rfl) (by kernel_rfl) (fun _ _ _ h => h) (by rfl) (fun W hS => ?_) ?_
  rotate_left
  · skip
    refine gives_value (w := W) ⟨Below.refl _ _, hS⟩ ?_; go_simp; try with_reducible rfl
  simp only [List.setIfInBounds_toArray, List.set_cons_zero, List.set_cons_succ]
  refine extS_take (i := 25) (d := 66) (v := ?_) rfl rfl (by kernel_rfl) (by kernel_rfl) (by kernel_rfl) (fun _ _ _ h => h) (by rfl) (fun W hS => ?_) ?_
  rotate_left
  · skip
    go_simp; refine Gives.enter ((word_any kd W).mono ?_); rintro e wn ⟨rfl, rfl⟩; rw [HWD.out]; refine ⟨?_, Below.refl _ _, hS⟩; with_reducible rfl
  simp only [List.setIfInBounds_toArray, List.set_cons_zero, List.set_cons_succ]
  refine extS_take (i := 26) (d := 67) (v := ?_) rfl rfl (by kernel_rfl) (by kernel_rfl) (by kernel_rfl) (fun _ _ _ h => h) (by rfl) (fun W hS => ?_) ?_
  rotate_left
  · skip
    refine gives_value (w := W) ⟨Below.refl _ _, hS⟩ ?_; go_simp; try with_reducible rfl
  simp only [List.setIfInBounds_toArray, List.set_cons_zero, List.set_cons_succ]
  refine extS_take (i := 27) (d := 68) (v := ?_) rfl rfl (by kernel_rfl) (by kernel_rfl) (by kernel_rfl) (fun _ _ _ h => h) (by rfl) (fun W hS => ?_) ?_
  rotate_left
  · skip
    refine gives_value (w := W) ⟨Below.refl _ _, hS⟩ ?_; go_simp; try with_reducible rfl
  simp only [List.setIfInBounds_toArray, List.set_cons_zero, List.set_cons_succ]
  refine extS_take (i := 28) (d := 69) (v := ?_) rfl rfl (by kernel_rfl) (by kernel_rfl) (by kernel_rfl) (fun _ _ _ h => h) (by rfl) (fun W hS => ?_) ?_
  rotate_left
  · skip
    refine gives_value (w := W) ⟨Below.refl _ _, hS⟩ ?_; go_simp; try with_reducible rfl
  simp only [List.setIfInBounds_toArray, List.set_cons_zero, List.set_cons_succ]
  refine extS_done (by kernel_rfl) (fun w6 hb6 hS6 => ?_) _
  have HX6 := Lib.hid ((hS6.block _ (Array.getElem?_eq_some_iff.1 HX5.out).1).trans HX5.out)
  have HY6 := Lib.hid ((hS6.block _ (Array.getElem?_eq_some_iff.1 HY5.out).1).trans HY5.out)
  have HV6 := Lib.hid ((hS6.block _ (Array.getElem?_eq_some_iff.1 HV1'.out).1).trans HV1'.out)
  have HU6 := Lib.hid ((hS6.block _ (Array.getElem?_eq_some_iff.1 HV2'.out).1).trans HV2'.out)
  have HA6 := Lib.hid (HA5.out.new hS6)
  have HB6r := Lib.hid (HB5r.out.new hS6)
  have HB6 := Lib.hid (HB5.out.trans (hS6.mono HB5.out.size))
  clear hb6 hS6 HX5 HY5 HV1' HV2' HA5 HB5r HB5
  obtain ⟨a0, a1, _, _⟩ := blk2 HV6.out
  obtain ⟨b0, b1, _, _⟩ := blk2 HU6.out
  go_wp2_with fail
  refine (later_any ka kb _ _ da db w6 HA6.out HB6r.out H8A.out H8B.out (by have := HLA.out; omega) (by have := HLB.out; omega)).mono ?_
  rintro e w7 ⟨k, d, ok, v7, hl, rfl, ho, hb7⟩
  obtain ⟨ao7, cap7, rfl, _, _, _⟩ := ho.reads.val
  have HLC := Lib.hid hl
  obtain ⟨W8, hW8⟩ : ∃ W8, W8 = (w7.alloc (.cells #[.int .i64 k, .slice ao7 d.length cap7] 24)).alloc (.cells #[.int .i64 0, .string { data := #[] }] 29) := ⟨_, rfl⟩
  have h78 : Below w7.heap.size w7 W8 := by rw [hW8]; exact ((Below.refl _ _).alloc (Nat.le_refl _) _).alloc (by simp) _
  have hp11 : W8.heap[w7.heap.size]? = some (.cells #[.int .i64 k, .slice ao7 d.length cap7] 24 (0, 0)) := by
    rw [hW8, Below.heap_alloc _ _ _ (by simp)]; exact heap_alloc_new _ _
  have hp13 : W8.heap[w7.heap.size + 1]? = some (.cells #[.int .i64 0, .string { data := #[] }] 29 (0, 0)) := by
    have := heap_alloc_new (w7.alloc (.cells #[.int .i64 k, .slice ao7 d.length cap7] 24)) (.cells #[.int .i64 0, .string { data := #[] }] 29)
    rw [hW8]; simpa using this
  have HATL8 := Lib.hid ((ho.reads.at').old h78)
  have HATA8 := Lib.hid (((HA6.out.new hb7).at').old h78)
  have h68 : Below w6.heap.size w6 W8 := hb7.trans (h78.mono hb7.size)
  have HX8 := Lib.hid ((h68.block _ (Array.getElem?_eq_some_iff.1 HX6.out).1).trans HX6.out)
  have HY8 := Lib.hid ((h68.block _ (Array.getElem?_eq_some_iff.1 HY6.out).1).trans HY6.out)
  have HV8 := Lib.hid ((h68.block _ (Array.getElem?_eq_some_iff.1 HV6.out).1).trans HV6.out)
  have HB8 := Lib.hid (HB6.out.trans (h68.mono HB6.out.size))
  have HP11 := Lib.hid hp11
  have HP13 := Lib.hid hp13
  have HW8 := Lib.hid hW8
  have HSZ : Hid (w.heap.size ≤ w7.heap.size) := Lib.hid (Nat.le_trans HB6.out.size hb7.size)
  have HG7 : Hid (g7 < w7.heap.size) := Lib.hid (Nat.lt_of_lt_of_le (Array.getElem?_eq_some_iff.1 HX6.out).1 hb7.size)
  have HG8 : Hid (g8 < w7.heap.size) := Lib.hid (Nat.lt_of_lt_of_le (Array.getElem?_eq_some_iff.1 HY6.out).1 hb7.size)
  have HAB : Hid (w.heap.size < w7.heap.size) := Lib.hid (Nat.lt_of_lt_of_le (Array.getElem?_eq_some_iff.1 HV6.out).1 hb7.size)
  clear hp11 hp13 hW8 hl ho hb7 h78 h68 HX6 HY6 HV6 HU6 HA6 HB6r HB6 a0 a1 b0 b1
  have hx8 := HX8.out
  have hy8 := HY8.out
  rw [HW8.out] at hx8 hy8
  obtain ⟨x0, x1, _, _⟩ := blk2 hx8
  obtain ⟨y0, y1, _, _⟩ := blk2 hy8
  clear hx8 hy8
  go_wp2_with fail
  rw [← HW8.out]
  refine (refMay_any ka (S8 da) kb (S8 db) W8).mono ?_
  rw [HMI.out]
  rintro e w9 ⟨rfl, hb9⟩
  have HX9 := Lib.hid ((hb9.block _ (Array.getElem?_eq_some_iff.1 HX8.out).1).trans HX8.out)
  have HY9 := Lib.hid ((hb9.block _ (Array.getElem?_eq_some_iff.1 HY8.out).1).trans HY8.out)
  have HV9 := Lib.hid ((hb9.block _ (Array.getElem?_eq_some_iff.1 HV8.out).1).trans HV8.out)
  have HB9 := Lib.hid (HB8.out.trans (hb9.mono HB8.out.size))
  have HQ11 := Lib.hid ((hb9.block _ (Array.getElem?_eq_some_iff.1 HP11.out).1).trans HP11.out)
  have HQ13 := Lib.hid ((hb9.block _ (Array.getElem?_eq_some_iff.1 HP13.out).1).trans HP13.out)
  have HATL := Lib.hid (HATL8.out.old hb9)
  have HATA := Lib.hid (HATA8.out.old hb9)
  clear hb9 HX8 HY8 HV8 HB8 HP11 HP13 HATL8 HATA8 x0 x1 y0 y1 HW8
  obtain ⟨x0, x1, _, _⟩ := blk2 HX9.out
  obtain ⟨y0, y1, _, _⟩ := blk2 HY9.out
  obtain ⟨z0, z1, z2, z3⟩ := blk2 HQ13.out
  cases my
  · have hm1 : mayC ka da kb db = false := HMY.out
    go_wp2_with fail
    refine (refMay_any kb (S8 db) ka (S8 da) w9).mono ?_
    rw [mayI_eq kb ka db da H8B.out H8A.out]
    rintro e w10 ⟨rfl, hb10⟩
    have HX10 := Lib.hid ((hb10.block _ (Array.getElem?_eq_some_iff.1 HX9.out).1).trans HX9.out)
    have HY10 := Lib.hid ((hb10.block _ (Array.getElem?_eq_some_iff.1 HY9.out).1).trans HY9.out)
    have HV10 := Lib.hid ((hb10.block _ (Array.getElem?_eq_some_iff.1 HV9.out).1).trans HV9.out)
    have HB10 := Lib.hid (HB9.out.trans (hb10.mono HB9.out.size))
    have HQ1110 := Lib.hid ((hb10.block _ (Array.getElem?_eq_some_iff.1 HQ11.out).1).trans HQ11.out)
    have HQ1310 := Lib.hid ((hb10.block _ (Array.getElem?_eq_some_iff.1 HQ13.out).1).trans HQ13.out)
    have HATL10 := Lib.hid (HATL.out.old hb10)
    have HATA10 := Lib.hid (HATA.out.old hb10)
    clear hb10 HX9 HY9 HV9 HB9 HQ11 HQ13 HATL HATA x0 x1 y0 y1 z0 z1 z2 z3
    obtain ⟨x0, x1, _, _⟩ := blk2 HX10.out
    obtain ⟨y0, y1, _, _⟩ := blk2 HY10.out
    obtain ⟨z0, z1, z2, z3⟩ := blk2 HQ1310.out
    cases hm2 : mayC kb db ka da
    · have hlc := HLC.out
      unfold laterC at hlc
      rw [if_neg (by simp [hm1]), if_neg (by simp [hm2])] at hlc
      simp only [Prod.mk.injEq] at hlc
      obtain ⟨rfl, rfl, rfl⟩ := hlc
      obtain ⟨v0, v1, _, _⟩ := blk2 ((Below.heap_alloc w10 (.cells #[.int .u8 9] 5) _ (Array.getElem?_eq_some_iff.1 HV10.out).1).trans HV10.out)
      clear hm1 hm2 HLC
      go_wp2_with fail
      obtain ⟨u, hu⟩ : ∃ u, u = w10 := ⟨_, rfl⟩
      rw [← hu] at HX10 HV10 HQ1110 HQ1310 HATA10 HATL10 HB10
      have HXu := HX10
      have HVu := HV10
      have HQ11u := HQ1110
      have HQ13u := HQ1310
      have HAu := Lib.hid HATA10.out.reads
      have HLu := Lib.hid HATL10.out.reads
      have HBu := HB10
      rw [← hu]
      have HR9 := Lib.hid (reads_new u .u8 5 9)
      clear hu HX10 HY10 HV10 HQ1110 HQ1310 HATA10 HATL10 HB10 v0 v1 x0 x1 y0 y1 z0 z1 z2 z3
      refine (cput_any _ _ [9] ka da (u.alloc (.cells #[.int .u8 9] 5)) HR9.out (HAu.out.new ((Below.refl _ _).alloc (Nat.le_refl _) _)) (by simp)).mono ?_
      rintro e u2 ⟨vp, out, rfl, hop, hout, hbp⟩
      rw [← HBAD.out, ← HEV.out]
      rw [← HBAD.out] at hout
      have hb2 : Below u.heap.size u u2 := ((Below.refl _ _).alloc (Nat.le_refl _) _).trans (hbp.mono (by simp))
      have HX2 := Lib.hid ((hb2.block _ (Array.getElem?_eq_some_iff.1 HXu.out).1).trans HXu.out)
      have HV2 := Lib.hid ((hb2.block _ (Array.getElem?_eq_some_iff.1 HVu.out).1).trans HVu.out)
      have HQ112 := Lib.hid ((hb2.block _ (Array.getElem?_eq_some_iff.1 HQ11u.out).1).trans HQ11u.out)
      have HQ132 := Lib.hid ((hb2.block _ (Array.getElem?_eq_some_iff.1 HQ13u.out).1).trans HQ13u.out)
      have HA2 := Lib.hid (HAu.out.new hb2)
      have HL2 := Lib.hid (HLu.out.new hb2)
      have HB2 := Lib.hid (HBu.out.trans (hb2.mono HBu.out.size))
      have HOUT := Lib.hid hout
      have HP2 := Lib.hid hop.reads
      obtain ⟨aop, capp, rfl, _, _, _⟩ := hop.reads.val
      clear hop hout hbp hb2 HXu HVu HQ11u HQ13u HAu HLu HBu
      have HNE : Hid (∀ W, (binOp .neq 29 (.agg #[.int .i64 0, .string (S8 [])]) (.agg #[.int .i64 0, .string (S8 [])])).run Try.prog W = .ok (.bool false) W) := Lib.hid (fun W => by
        rw [neq_cells 0 0 [] [] (by simp) (by simp) W, same_refl]; rfl)
      go_wp2_with fail
      refine wp_region_extS (fun W => Below u2.heap.size u2 W) (Below.refl _ _).drew HMX.out ?_
      refine extS_take (i := 0) (d := 93) (v := ?_) rfl rfl (by kernel_rfl) (by kernel_rfl) (by kernel_rfl) (fun _ _ _ h => h) (by rfl) (fun W hS => ?_) ?_
      rotate_left
      · skip
        (refine load_gives 24 (.tmp 11) ?_ w7.heap.size ?_ _ #[.int .i64 0, .slice ao7 [].length cap7] (0, 0) _ ((hS.block _ (Array.getElem?_eq_some_iff.1 HQ112.out).1).trans HQ112.out) Try.underlying24 rfl hinfoC ?_ <;> first | rfl | exact ⟨Below.refl _ _, hS⟩)
      simp only [List.setIfInBounds_toArray, List.set_cons_zero, List.set_cons_succ]
      refine extS_take (i := 1) (d := 94) (v := ?_) rfl rfl (by kernel_rfl) (by kernel_rfl) (by kernel_rfl) (fun _ _ _ h => h) (by rfl) (fun W hS => ?_) ?_
      rotate_left
      · skip
        go_simp; refine Gives.enter ((document_any 0 _ [] W (HL2.out.new hS)).mono ?_); rintro e wn ⟨rfl, hbn⟩; refine ⟨?_, hbn, Below.trans hS (hbn.mono hS.size)⟩; with_reducible rfl
      simp only [List.setIfInBounds_toArray, List.set_cons_zero, List.set_cons_succ]
      refine extS_take (i := 2) (d := 95) (v := ?_) rfl rfl (by kernel_rfl) (by kernel_rfl) (by kernel_rfl) (fun _ _ _ h => h) (by rfl) (fun W hS => ?_) ?_
      rotate_left
      · skip
        (refine load_gives 29 (.tmp 13) ?_ (w7.heap.size + 1) ?_ _ #[.int .i64 0, .string (S8 [])] (0, 0) _ ((hS.block _ (Array.getElem?_eq_some_iff.1 HQ132.out).1).trans HQ132.out) Try.underlying29 rfl hinfoD ?_ <;> first | rfl | exact ⟨Below.refl _ _, hS⟩)
      simp only [List.setIfInBounds_toArray, List.set_cons_zero, List.set_cons_succ]
      refine extS_take (i := 3) (d := 96) (v := ?_) rfl rfl (by kernel_rfl) (by kernel_rfl) (by kernel_rfl) (fun _ _ _ h => h) (by rfl) (fun W hS => ?_) ?_
      rotate_left
      · skip
        refine gives_value (w := W) ⟨Below.refl _ _, hS⟩ ?_; refine (exec_eqs rfl ?_ ?_ (by kernel_rfl) (HNE.out W)).trans ?_ <;> rfl
      simp only [List.setIfInBounds_toArray, List.set_cons_zero, List.set_cons_succ]
      refine extS_take (i := 4) (d := 97) (v := ?_) rfl rfl (by kernel_rfl) (by kernel_rfl) (by kernel_rfl) (fun _ _ _ h => h) (by rfl) (fun W hS => ?_) ?_
      rotate_left
      · skip
        refine gives_value (w := W) ⟨Below.refl _ _, hS⟩ ?_; go_simp; try with_reducible rfl
      simp only [List.setIfInBounds_toArray, List.set_cons_zero, List.set_cons_succ]
      refine extS_take (i := 5) (d := 98) (v := ?_) rfl rfl (by kernel_rfl) (by kernel_rfl) (by kernel_rfl) (fun _ _ _ h => h) (by rfl) (fun W hS => ?_) ?_
      rotate_left
      · skip
        refine gives_value (w := W) ⟨Below.refl _ _, hS⟩ ?_; go_simp; try with_reducible rfl
      simp only [List.setIfInBounds_toArray, List.set_cons_zero, List.set_cons_succ]
      refine extS_take (i := 6) (d := 99) (v := ?_) rfl rfl (by kernel_rfl) (by kernel_rfl) (by kernel_rfl) (fun _ _ _ h => h) (by rfl) (fun W hS => ?_) ?_
      rotate_left
      · skip
        refine gives_value (w := W) ⟨Below.refl _ _, hS⟩ ?_; go_simp; try with_reducible rfl
      simp only [List.setIfInBounds_toArray, List.set_cons_zero, List.set_cons_succ]
      refine extS_take (i := 7) (d := 100) (v := ?_) rfl rfl (by kernel_rfl) (by kernel_rfl) (by kernel_rfl) (fun _ _ _ h => h) (by rfl) (fun W hS => ?_) ?_
      rotate_left
      · skip
        refine gives_value (w := W) ⟨Below.refl _ _, hS⟩ ?_; go_simp; try with_reducible rfl
      simp only [List.setIfInBounds_toArray, List.set_cons_zero, List.set_cons_succ]
      refine extS_take (i := 8) (d := 101) (v := ?_) rfl rfl (by kernel_rfl) (by kernel_rfl) (by kernel_rfl) (fun _ _ _ h => h) (by rfl) (fun W hS => ?_) ?_
      rotate_left
      · skip
        refine gives_value (w := W) ⟨Below.refl _ _, hS⟩ ?_; go_simp; try with_reducible rfl
      simp only [List.setIfInBounds_toArray, List.set_cons_zero, List.set_cons_succ]
      refine extS_take (i := 9) (d := 102) (v := ?_) rfl rfl (by kernel_rfl) (by kernel_rfl) (by kernel_rfl) (fun _ _ _ h => h) (by rfl) (fun W hS => ?_) ?_
      rotate_left
      · skip
        refine gives_value (w := W) ⟨Below.refl _ _, hS⟩ ?_; go_simp; try with_reducible rfl
      simp only [List.setIfInBounds_toArray, List.set_cons_zero, List.set_cons_succ]
      refine extS_take (i := 10) (d := 103) (v := ?_) rfl rfl (by kernel_rfl) (by kernel_rfl) (by kernel_rfl) (fun _ _ _ h => h) (by rfl) (fun W hS => ?_) ?_
      rotate_left
      · skip
        refine gives_value (w := W) ⟨Below.refl _ _, hS⟩ ?_; go_simp; try with_reducible rfl
      simp only [List.setIfInBounds_toArray, List.set_cons_zero, List.set_cons_succ]
      refine extS_take (i := 11) (d := 104) (v := ?_) rfl rfl (by kernel_rfl) (by kernel_rfl) (by kernel_rfl) (fun _ _ _ h => h) (by rfl) (fun W hS => ?_) ?_
      rotate_left
      · skip
        go_simp; rw [HEV.out]; refine Gives.enter ((num_any bad W).mono ?_); rintro e wn ⟨rfl, rfl⟩; refine ⟨?_, Below.refl _ _, hS⟩; with_reducible rfl
      simp only [List.setIfInBounds_toArray, List.set_cons_zero, List.set_cons_succ]
      refine extS_take (i := 12) (d := 105) (v := ?_) rfl rfl (by kernel_rfl) (by kernel_rfl) (by kernel_rfl) (fun _ _ _ h => h) (by rfl) (fun W hS => ?_) ?_
      rotate_left
      · skip
        refine gives_value (w := W) ⟨Below.refl _ _, hS⟩ ?_; go_simp; try with_reducible rfl
      simp only [List.setIfInBounds_toArray, List.set_cons_zero, List.set_cons_succ]
      refine extS_take (i := 13) (d := 106) (v := ?_) rfl rfl (by kernel_rfl) (by kernel_rfl) (by kernel_rfl) (fun _ _ _ h => h) (by rfl) (fun W hS => ?_) ?_
      rotate_left
      · skip
        refine gives_value (w := W) ⟨Below.refl _ _, hS⟩ ?_; go_simp; try with_reducible rfl
      simp only [List.setIfInBounds_toArray, List.set_cons_zero, List.set_cons_succ]
      refine extS_take (i := 14) (d := 107) (v := ?_) rfl rfl (by kernel_rfl) (by kernel_rfl) (by kernel_rfl) (fun _ _ _ h => h) (by rfl) (fun W hS => ?_) ?_
      rotate_left
      · skip
        refine gives_value (w := W) ⟨Below.refl _ _, hS⟩ ?_; go_simp; try with_reducible rfl
      simp only [List.setIfInBounds_toArray, List.set_cons_zero, List.set_cons_succ]
      refine extS_done (by kernel_rfl) (fun u3 hb3 hS3 => ?_) _
      have HX3 := Lib.hid ((hS3.block _ (Array.getElem?_eq_some_iff.1 HX2.out).1).trans HX2.out)
      have HV3 := Lib.hid ((hS3.block _ (Array.getElem?_eq_some_iff.1 HV2.out).1).trans HV2.out)
      have HA3 := Lib.hid (HA2.out.new hS3)
      have HP3 := Lib.hid (HP2.out.new hS3)
      have HB3 := Lib.hid (HB2.out.trans (hS3.mono HB2.out.size))
      clear hb3 hS3 HX2 HV2 HQ112 HQ132 HA2 HL2 HB2 HP2 HNE
      by_cases hb0 : bad = 0
      · subst hb0
        have hck : chk ka da.length = 0 := HBAD.out.symm
        have hout : out = [9] ++ cbytes (ka.toNat, da) := by rw [HOUT.out, if_pos rfl]
        have HOUT2 := Lib.hid hout
        have HCK := Lib.hid hck
        clear hout hck HOUT
        obtain ⟨v0, v1, _, _⟩ := blk2 HV3.out
        go_wp2_with fail
        refine (copy_any ka _ da u3 HA3.out (by have := HLA.out; omega)).mono ?_
        rintro e u4 ⟨vc, rfl, hoc, hbc⟩
        obtain ⟨aoc, capc, rfl, _, _, _⟩ := hoc.reads.val
        have HX4c := Lib.hid ((hbc.block _ (Array.getElem?_eq_some_iff.1 HX3.out).1).trans HX3.out)
        have HV4c := Lib.hid ((hbc.block _ (Array.getElem?_eq_some_iff.1 HV3.out).1).trans HV3.out)
        have HA4c := Lib.hid (HA3.out.new hbc)
        have HP4c := Lib.hid (HP3.out.new hbc)
        have HB4c := Lib.hid (HB3.out.trans (hbc.mono HB3.out.size))
        have HOC := Lib.hid hoc
        have HBC := Lib.hid hbc
        obtain ⟨U5, hU5⟩ : ∃ U5, U5 = u4.alloc (.cells #[.int .i64 ka, .slice aoc da.length capc] 24) := ⟨_, rfl⟩
        have hal : Below u4.heap.size u4 U5 := by rw [hU5]; exact (Below.refl _ _).alloc (Nat.le_refl _) _
        have hbx : U5.heap[u4.heap.size]? = some (.cells #[.int .i64 ka, .slice aoc da.length capc] 24 (0, 0)) := by rw [hU5]; exact heap_alloc_new _ _
        have HOC5 := Lib.hid (HOC.out.below hal (Nat.le_refl _))
        have HBC5 := Lib.hid (HBC.out.trans (hal.mono HBC.out.size))
        have HBX := Lib.hid hbx
        have HSZ4 : Hid (u3.heap.size ≤ u4.heap.size) := Lib.hid HBC.out.size
        rw [hU5] at HOC5 HBC5 HBX
        have hbx2 := HBX.out
        obtain ⟨q0, q1, _, _⟩ := blk2 hbx2
        clear hbx2 hal hbx hU5 hoc hbc HX4c HV4c HA4c HP4c HB4c HOC HBC v0 v1
        go_wp2
        clear q0 q1
        go_loopw [18, 118] (fun _ i wr => ∃ (j : Nat) (l' : List Nat), j ≤ da.length ∧ i = .int .i64 (j : Int) ∧ l'.length = da.length ∧ Owns wr u3.heap.size 5 .u8 (.slice aoc da.length capc) l' ∧ wr.heap[u4.heap.size]? = some (.cells #[.int .i64 ka, .slice aoc da.length capc] 24 (0, 0)) ∧ Below u3.heap.size u3 wr)
          (fun _ i _ => da.length - (intOf i).toNat)
        case atStart => exact ⟨0, da, Nat.zero_le _, rfl, rfl, HOC5.out, HBX.out, HBC5.out⟩
        case round =>
          clear HOC5 HBX HBC5
          obtain ⟨j, l', hj, rfl, hll, hown, hbx, hbw⟩ := hrel
          have HOW := Lib.hid hown
          have HBX := Lib.hid hbx
          have HBW := Lib.hid hbw
          have HLL := Lib.hid hll
          clear hown hbx hbw hll
          obtain ⟨q0, q1, _, _⟩ := blk2 HBX.out
          by_cases hlt : j < da.length
          · have hlti : (j : Int) < (da.length : Int) := by omega
            rcases HOW.out.form with ⟨_, h0⟩ | ⟨g, cap, hv, _, _, _⟩
            · have := HLL.out; rw [h0] at this; simp at this; omega
            · obtain ⟨rfl, rfl⟩ : aoc = some ⟨g, 0, none⟩ ∧ capc = cap := by simp only [Value.slice.injEq] at hv; exact ⟨hv.1, hv.2.2⟩
              have hla := HLA.out
              have c0 := HOW.out.cellY HLL.out.symm (i := j) (by have := HLL.out; omega)
              have f0 := HOW.out.freeY HLL.out.symm j
              have hgb : u3.heap.size ≤ g := (HOW.out.lt g rfl).1
              have hgne : g ≠ u4.heap.size := by
                intro he
                subst he
                rcases HOW.out.2 with ⟨hn, _⟩ | ⟨g', cap', cur, hv', _, hg', _⟩
                · cases hn
                · have hg2 : g' = u4.heap.size := by
                    have := congrArg Value.ownBlock hv'
                    simpa [Value.ownBlock] using this.symm
                  rw [hg2] at hg'
                  have hcon := HBX.out.symm.trans hg'
                  cases hcon
              generalize l'.getD j 0 = x at c0
              have hx : IntKind.u8.wrap ((x : Int) + 1) = (((x + 1) % 256 : Nat) : Int) := by rw [IntKind.wrap_u8]; omega
              have HNW := Lib.hid (HOW.out.setY HLL.out.symm j ((x + 1) % 256))
              have HBN : Hid ((wr.setCell ⟨g, j, none⟩ (.int .u8 (((x + 1) % 256 : Nat) : Int))).heap[u4.heap.size]? = some (.cells #[.int .i64 ka, .slice (some ⟨g, 0, none⟩) da.length capc] 24 (0, 0))) := Lib.hid (by
                rw [heap_setCell_other _ _ _ _ (by simp; exact fun e => hgne e.symm)]; exact HBX.out)
              have HBB := Lib.hid (HBW.out.setCell (p := ⟨g, j, none⟩) hgb (.int .u8 (((x + 1) % 256 : Nat) : Int)))
              have HL2 : Hid ((l'.set j ((x + 1) % 256)).length = da.length) := Lib.hid (by rw [List.length_set]; exact HLL.out)
              clear hv
              generalize (x + 1) % 256 = y at hx HNW HBN HBB HL2
              go_wp2
              go_roundw
              case rel => exact ⟨j + 1, l'.set j y, by omega, by go_num, HL2.out, HNW.out, HBN.out, HBB.out⟩
              case measure => simp [intOf]; omega
          · obtain rfl : j = da.length := by omega
            obtain ⟨u6, hu6⟩ : ∃ u6, u6 = wr := ⟨_, rfl⟩
            rw [← hu6] at HBW ⊢
            clear hu6 HOW HBX HLL q0 q1
            have HX6c := Lib.hid ((HBW.out.block _ (Array.getElem?_eq_some_iff.1 HX3.out).1).trans HX3.out)
            have HV6c := Lib.hid ((HBW.out.block _ (Array.getElem?_eq_some_iff.1 HV3.out).1).trans HV3.out)
            have HA6c := Lib.hid (HA3.out.new HBW.out)
            have HP6 := Lib.hid (HP3.out.new HBW.out)
            have HB6c := Lib.hid (HB3.out.trans (HBW.out.mono HB3.out.size))
            clear HX3 HV3 HA3 HP3 HB3 HBW
            have hk0 : 0 ≤ ka := (chk_zero HCK.out).1
            have hk3 : ka ≤ 3 := (chk_zero HCK.out).2.1
            have hd64 : da.length ≤ 64 := (chk_zero HCK.out).2.2.1
            have hok : okC (ka.toNat, da) := okC_toCC (c := (ka, da)) HCK.out H8A.out
            have HRC : Hid (∀ W, Calls Try.prog 23 #[.agg #[.int .i64 ka, .string (S8 da)]] W fun e w' => ∃ v', e = .returned v' ∧ Owns w' W.heap.size 5 .u8 v' (cbytes (ka.toNat, da)) ∧ Below W.heap.size W w') := Lib.hid (fun W => by
              have := rcbytes_any ka.toNat da W (by omega) H8A.out (by omega)
              rwa [Int.toNat_of_nonneg hk0] at this)
            have HC8 : Hid (∀ y ∈ [9] ++ cbytes (ka.toNat, da), y < 256) := Lib.hid (app_byte (by simp) (cbytes_byte hok))
            have HCL : Hid ((cbytes (ka.toNat, da)).length ≤ 100) := Lib.hid (cbytes_len hok)
            have HEE : Hid (∀ W, (binOp .eql 29 (.agg #[.int .i64 ka, .string (S8 da)]) (.agg #[.int .i64 ka, .string (S8 da)])).run Try.prog W = .ok (.bool true) W) := Lib.hid (fun W => by rw [eql_cellsC ka ka da da H8A.out H8A.out W, same_refl])
            clear hk0 hk3 hd64 hok
            go_wp2_with fail
            refine wp_region_extS (fun W => Below u6.heap.size u6 W) (Below.refl _ _).drew HMX.out ?_
            refine extS_take (i := 0) (d := 129) (v := ?_) rfl rfl (by kernel_rfl) (by kernel_rfl) (by kernel_rfl) (fun _ _ _ h => h) (by rfl) (fun W hS => ?_) ?_
            rotate_left
            · skip
              refine gives_value (w := W) ⟨Below.refl _ _, hS⟩ ?_; go_simp; try with_reducible rfl
            simp only [List.setIfInBounds_toArray, List.set_cons_zero, List.set_cons_succ]
            refine extS_take (i := 2) (d := 131) (v := ?_) rfl rfl (by kernel_rfl) (by kernel_rfl) (by kernel_rfl) (fun _ _ _ h => h) (by rfl) (fun W hS => ?_) ?_
            rotate_left
            · skip
              (refine load_gives 29 (.tmp 7) ?_ g7 ?_ _ #[.int .i64 ka, .string (S8 da)] (0, 0) _ ((hS.block _ (Array.getElem?_eq_some_iff.1 HX6c.out).1).trans HX6c.out) Try.underlying29 rfl hinfoD ?_ <;> first | rfl | exact ⟨Below.refl _ _, hS⟩)
            simp only [List.setIfInBounds_toArray, List.set_cons_zero, List.set_cons_succ]
            refine extS_two (i := 1) (j := 3) (by kernel_rfl) rfl rfl (fun w1z hb1z hS1z => ?_) (fun w1z hb1z hS1z => ?_)
            · intro K hK
              go_simp
              have HO9x := Lib.hid (owns_one8 w1z u6.heap.size 5 9 hS1z.size)
              refine hK _ _ (hS1z.alloc hS1z.size _) ?_
              generalize w1z.alloc (.cells #[.int .u8 9] 5) = wy1 at HO9x ⊢
              clear hK K
              try simp only [List.setIfInBounds_toArray, List.set_cons_zero, List.set_cons_succ]
              refine extS_one (i := 3) (by kernel_rfl) rfl (fun w2z hb2z hS2z => ?_)
              have HO9y := Lib.hid (HO9x.out.below hb2z (Nat.le_refl _))
              intro K hK
              go_simp
              refine (HRC.out w2z).mono ?_
              rintro e w3z ⟨vb, rfl, hob, hbb⟩
              have HO9 := Lib.hid (HO9y.out.below hbb (Nat.le_refl _))
              have HVB := Lib.hid hob.reads
              obtain ⟨aob, capb, rfl, _, _, _⟩ := hob.reads.val
              refine hK _ _ (hS2z.trans (hbb.mono hS2z.size)) ?_
              clear hK K hob hbb HO9x HO9y hb2z hS2z hb1z hS1z
              try simp only [List.setIfInBounds_toArray, List.set_cons_zero, List.set_cons_succ]
              refine extS_one (i := 4) (by kernel_rfl) rfl (fun wa hba hSa => ?_)
              have HO9a := Lib.hid (HO9.out.below hba (Nat.le_refl _))
              have HVBa := Lib.hid (HVB.out.new hba)
              intro K hK
              refine step_app_reads rfl (.tmp 130) (.tmp 132) 22 rfl u6.heap.size 5 (.int .u8 0) 1 Try.underlying22 Try.info5 rfl .u8 _ [9] rfl HO9a.out _ (cbytes (ka.toNat, da)) rfl HVBa.out (by decide) (by have := HCL.out; simp only [List.length_cons, List.length_nil]; omega) hSa.size (fun vq wq hoq hgq => ?_)
              have hSq : Below u6.heap.size u6 wq := hSa.grown hgq hSa.size (fun j hj => (HO9a.out.lt j hj).1)
              have HOQ := Lib.hid hoq.reads
              refine hK _ _ hSq ?_
              clear hK K hgq hoq HO9a HVBa HO9 HVB hba hSa
              try simp only [List.setIfInBounds_toArray, List.set_cons_zero, List.set_cons_succ]
              refine extS_one (i := 5) (by kernel_rfl) rfl (fun wb hbb hSb => ?_)
              have HOQb := Lib.hid (HOQ.out.new hbb)
              intro K hK
              go_simp
              refine (numBytes_any _ _ out ([9] ++ cbytes (ka.toNat, da)) wb (HP6.out.new hSb) HOQb.out (by rw [HOUT2.out]; exact HC8.out) HC8.out).mono ?_
              rintro e wn ⟨rfl, rfl⟩
              rw [decide_eq_true HOUT2.out]
              refine hK _ _ hSb ?_
              clear hK K HOQb HOQ hSq hbb hSb
              try simp only [List.setIfInBounds_toArray, List.set_cons_zero, List.set_cons_succ]
              refine extS_take (i := 6) (d := 135) (v := ?_) rfl rfl (by kernel_rfl) (by kernel_rfl) (by kernel_rfl) (fun _ _ _ h => h) (by rfl) (fun W hS => ?_) ?_
              rotate_left
              · skip
                refine gives_value (w := W) ⟨Below.refl _ _, hS⟩ ?_; go_simp; try with_reducible rfl
              simp only [List.setIfInBounds_toArray, List.set_cons_zero, List.set_cons_succ]
              refine extS_take (i := 7) (d := 136) (v := ?_) rfl rfl (by kernel_rfl) (by kernel_rfl) (by kernel_rfl) (fun _ _ _ h => h) (by rfl) (fun W hS => ?_) ?_
              rotate_left
              · skip
                (refine load_gives 24 (.tmp 3) ?_ w.heap.size ?_ _ #[.int .i64 ka, .slice ao1 da.length cap1] (0, 0) _ ((hS.block _ (Array.getElem?_eq_some_iff.1 HV6c.out).1).trans HV6c.out) Try.underlying24 rfl hinfoC ?_ <;> first | rfl | exact ⟨Below.refl _ _, hS⟩)
              simp only [List.setIfInBounds_toArray, List.set_cons_zero, List.set_cons_succ]
              refine extS_take (i := 8) (d := 137) (v := ?_) rfl rfl (by kernel_rfl) (by kernel_rfl) (by kernel_rfl) (fun _ _ _ h => h) (by rfl) (fun W hS => ?_) ?_
              rotate_left
              · skip
                go_simp; refine Gives.enter ((document_any ka _ da W (HA6c.out.new hS)).mono ?_); rintro e wn ⟨rfl, hbn⟩; refine ⟨?_, hbn, Below.trans hS (hbn.mono hS.size)⟩; with_reducible rfl
              simp only [List.setIfInBounds_toArray, List.set_cons_zero, List.set_cons_succ]
              refine extS_take (i := 9) (d := 138) (v := ?_) rfl rfl (by kernel_rfl) (by kernel_rfl) (by kernel_rfl) (fun _ _ _ h => h) (by rfl) (fun W hS => ?_) ?_
              rotate_left
              · skip
                (refine load_gives 29 (.tmp 7) ?_ g7 ?_ _ #[.int .i64 ka, .string (S8 da)] (0, 0) _ ((hS.block _ (Array.getElem?_eq_some_iff.1 HX6c.out).1).trans HX6c.out) Try.underlying29 rfl hinfoD ?_ <;> first | rfl | exact ⟨Below.refl _ _, hS⟩)
              simp only [List.setIfInBounds_toArray, List.set_cons_zero, List.set_cons_succ]
              refine extS_take (i := 10) (d := 139) (v := ?_) rfl rfl (by kernel_rfl) (by kernel_rfl) (by kernel_rfl) (fun _ _ _ h => h) (by rfl) (fun W hS => ?_) ?_
              rotate_left
              · skip
                refine gives_value (w := W) ⟨Below.refl _ _, hS⟩ ?_; refine (exec_eqs rfl ?_ ?_ (by kernel_rfl) (HEE.out W)).trans ?_ <;> rfl
              simp only [List.setIfInBounds_toArray, List.set_cons_zero, List.set_cons_succ]
              refine extS_take (i := 11) (d := 140) (v := ?_) rfl rfl (by kernel_rfl) (by kernel_rfl) (by kernel_rfl) (fun _ _ _ h => h) (by rfl) (fun W hS => ?_) ?_
              rotate_left
              · skip
                refine gives_value (w := W) ⟨Below.refl _ _, hS⟩ ?_; go_simp; try with_reducible rfl
              simp only [List.setIfInBounds_toArray, List.set_cons_zero, List.set_cons_succ]
              refine extS_take (i := 12) (d := 6) (v := ?_) rfl rfl (by kernel_rfl) (by kernel_rfl) (by kernel_rfl) (fun _ _ _ h => h) (by rfl) (fun W hS => ?_) ?_
              rotate_left
              · skip
                refine gives_value (w := W) ⟨Below.refl _ _, hS⟩ ?_; go_simp; try with_reducible rfl
              simp only [List.setIfInBounds_toArray, List.set_cons_zero, List.set_cons_succ]
              refine extS_done (by kernel_rfl) (fun uz hbz hSz => ?_) _
              go_wp2
              go_ret
              exact ⟨rfl, HB6c.out.trans (hSz.mono HB6c.out.size)⟩
            · intro K hK
              go_simp
              refine (HRC.out w1z).mono ?_
              rintro e w3z ⟨vb, rfl, hob, hbb⟩
              have HVBx := Lib.hid hob.reads
              obtain ⟨aob, capb, rfl, _, _, _⟩ := hob.reads.val
              refine hK _ _ (hS1z.trans (hbb.mono hS1z.size)) ?_
              clear hK K hob hbb hb1z hS1z
              try simp only [List.setIfInBounds_toArray, List.set_cons_zero, List.set_cons_succ]
              refine extS_one (i := 1) (by kernel_rfl) rfl (fun w2z hb2z hS2z => ?_)
              have HVB2 := Lib.hid ((HVBx.out.new hb2z).new ((Below.refl _ _).alloc (Nat.le_refl _) (.cells #[.int .u8 9] 5)))
              intro K hK
              go_simp
              have HO9 := Lib.hid (owns_one8 w2z u6.heap.size 5 9 hS2z.size)
              have HVB := HVB2
              refine hK _ _ (hS2z.alloc hS2z.size _) ?_
              generalize w2z.alloc (.cells #[.int .u8 9] 5) = wy1 at HO9 HVB ⊢
              clear hK K HVBx HVB2 hb2z hS2z
              try simp only [List.setIfInBounds_toArray, List.set_cons_zero, List.set_cons_succ]
              refine extS_one (i := 4) (by kernel_rfl) rfl (fun wa hba hSa => ?_)
              have HO9a := Lib.hid (HO9.out.below hba (Nat.le_refl _))
              have HVBa := Lib.hid (HVB.out.new hba)
              intro K hK
              refine step_app_reads rfl (.tmp 130) (.tmp 132) 22 rfl u6.heap.size 5 (.int .u8 0) 1 Try.underlying22 Try.info5 rfl .u8 _ [9] rfl HO9a.out _ (cbytes (ka.toNat, da)) rfl HVBa.out (by decide) (by have := HCL.out; simp only [List.length_cons, List.length_nil]; omega) hSa.size (fun vq wq hoq hgq => ?_)
              have hSq : Below u6.heap.size u6 wq := hSa.grown hgq hSa.size (fun j hj => (HO9a.out.lt j hj).1)
              have HOQ := Lib.hid hoq.reads
              refine hK _ _ hSq ?_
              clear hK K hgq hoq HO9a HVBa HO9 HVB hba hSa
              try simp only [List.setIfInBounds_toArray, List.set_cons_zero, List.set_cons_succ]
              refine extS_one (i := 5) (by kernel_rfl) rfl (fun wb hbb hSb => ?_)
              have HOQb := Lib.hid (HOQ.out.new hbb)
              intro K hK
              go_simp
              refine (numBytes_any _ _ out ([9] ++ cbytes (ka.toNat, da)) wb (HP6.out.new hSb) HOQb.out (by rw [HOUT2.out]; exact HC8.out) HC8.out).mono ?_
              rintro e wn ⟨rfl, rfl⟩
              rw [decide_eq_true HOUT2.out]
              refine hK _ _ hSb ?_
              clear hK K HOQb HOQ hSq hbb hSb
              try simp only [List.setIfInBounds_toArray, List.set_cons_zero, List.set_cons_succ]
              refine extS_take (i := 6) (d := 135) (v := ?_) rfl rfl (by kernel_rfl) (by kernel_rfl) (by kernel_rfl) (fun _ _ _ h => h) (by rfl) (fun W hS => ?_) ?_
              rotate_left
              · skip
                refine gives_value (w := W) ⟨Below.refl _ _, hS⟩ ?_; go_simp; try with_reducible rfl
              simp only [List.setIfInBounds_toArray, List.set_cons_zero, List.set_cons_succ]
              refine extS_take (i := 7) (d := 136) (v := ?_) rfl rfl (by kernel_rfl) (by kernel_rfl) (by kernel_rfl) (fun _ _ _ h => h) (by rfl) (fun W hS => ?_) ?_
              rotate_left
              · skip
                (refine load_gives 24 (.tmp 3) ?_ w.heap.size ?_ _ #[.int .i64 ka, .slice ao1 da.length cap1] (0, 0) _ ((hS.block _ (Array.getElem?_eq_some_iff.1 HV6c.out).1).trans HV6c.out) Try.underlying24 rfl hinfoC ?_ <;> first | rfl | exact ⟨Below.refl _ _, hS⟩)
              simp only [List.setIfInBounds_toArray, List.set_cons_zero, List.set_cons_succ]
              refine extS_take (i := 8) (d := 137) (v := ?_) rfl rfl (by kernel_rfl) (by kernel_rfl) (by kernel_rfl) (fun _ _ _ h => h) (by rfl) (fun W hS => ?_) ?_
              rotate_left
              · skip
                go_simp; refine Gives.enter ((document_any ka _ da W (HA6c.out.new hS)).mono ?_); rintro e wn ⟨rfl, hbn⟩; refine ⟨?_, hbn, Below.trans hS (hbn.mono hS.size)⟩; with_reducible rfl
              simp only [List.setIfInBounds_toArray, List.set_cons_zero, List.set_cons_succ]
              refine extS_take (i := 9) (d := 138) (v := ?_) rfl rfl (by kernel_rfl) (by kernel_rfl) (by kernel_rfl) (fun _ _ _ h => h) (by rfl) (fun W hS => ?_) ?_
              rotate_left
              · skip
                (refine load_gives 29 (.tmp 7) ?_ g7 ?_ _ #[.int .i64 ka, .string (S8 da)] (0, 0) _ ((hS.block _ (Array.getElem?_eq_some_iff.1 HX6c.out).1).trans HX6c.out) Try.underlying29 rfl hinfoD ?_ <;> first | rfl | exact ⟨Below.refl _ _, hS⟩)
              simp only [List.setIfInBounds_toArray, List.set_cons_zero, List.set_cons_succ]
              refine extS_take (i := 10) (d := 139) (v := ?_) rfl rfl (by kernel_rfl) (by kernel_rfl) (by kernel_rfl) (fun _ _ _ h => h) (by rfl) (fun W hS => ?_) ?_
              rotate_left
              · skip
                refine gives_value (w := W) ⟨Below.refl _ _, hS⟩ ?_; refine (exec_eqs rfl ?_ ?_ (by kernel_rfl) (HEE.out W)).trans ?_ <;> rfl
              simp only [List.setIfInBounds_toArray, List.set_cons_zero, List.set_cons_succ]
              refine extS_take (i := 11) (d := 140) (v := ?_) rfl rfl (by kernel_rfl) (by kernel_rfl) (by kernel_rfl) (fun _ _ _ h => h) (by rfl) (fun W hS => ?_) ?_
              rotate_left
              · skip
                refine gives_value (w := W) ⟨Below.refl _ _, hS⟩ ?_; go_simp; try with_reducible rfl
              simp only [List.setIfInBounds_toArray, List.set_cons_zero, List.set_cons_succ]
              refine extS_take (i := 12) (d := 6) (v := ?_) rfl rfl (by kernel_rfl) (by kernel_rfl) (by kernel_rfl) (fun _ _ _ h => h) (by rfl) (fun W hS => ?_) ?_
              rotate_left
              · skip
                refine gives_value (w := W) ⟨Below.refl _ _, hS⟩ ?_; go_simp; try with_reducible rfl
              simp only [List.setIfInBounds_toArray, List.set_cons_zero, List.set_cons_succ]
              refine extS_done (by kernel_rfl) (fun uz hbz hSz => ?_) _
              go_wp2
              go_ret
              exact ⟨rfl, HB6c.out.trans (hSz.mono HB6c.out.size)⟩
      · have hbn : ((bad : Int) != 0) = true := by rw [bne_iff_ne]; omega
        have hout : out = [] := by rw [HOUT.out, if_neg hb0]
        subst hout
        clear hb0
        go_wp2
        go_ret
        exact ⟨rfl, HB3.out⟩
    · have hlc := HLC.out
      unfold laterC at hlc
      rw [if_neg (by simp [hm1]), if_pos hm2] at hlc
      simp only [Prod.mk.injEq] at hlc
      obtain ⟨hk, hd, hok⟩ := hlc
      have hk := hk.symm
      have hd := hd.symm
      subst hk hd hok
      clear hm1 hm2 HLC
      obtain ⟨u, hu⟩ : ∃ u, u = (w10.setCell ⟨w7.heap.size + 1, 0, none⟩ (.int .i64 ka)).setCell ⟨w7.heap.size + 1, 1, none⟩ (.string (S8 da)) := ⟨_, rfl⟩
      have hgu : w10.grownBy u (some (w7.heap.size + 1)) := by
        rw [hu]
        exact ⟨rfl, rfl, rfl, by simp, fun j _ hj => by rw [heap_setCell_other _ _ _ _ (fun e => hj (by rw [e])), heap_setCell_other _ _ _ _ (fun e => hj (by rw [e]))]⟩
      have HXu := Lib.hid ((hgu.block _ (Array.getElem?_eq_some_iff.1 HX10.out).1 (by have := HG7.out; simp; omega)).trans HX10.out)
      have HVu := Lib.hid ((hgu.block _ (Array.getElem?_eq_some_iff.1 HV10.out).1 (by have := HAB.out; simp; omega)).trans HV10.out)
      have HQ11u := Lib.hid ((hgu.block _ (Array.getElem?_eq_some_iff.1 HQ1110.out).1 (by simp)).trans HQ1110.out)
      have HQ13u : Hid (u.heap[w7.heap.size + 1]? = some (.cells #[.int .i64 ka, .string (S8 da)] 29 (0, 0))) := Lib.hid (by rw [hu]; exact set2 HQ1310.out)
      have hku : Kept (fun j => j < w7.heap.size) w10 u := ⟨hgu.size, fun j hj hlt => hgu.block j hj (by simp; omega)⟩
      have HAu := Lib.hid ((HATA10.out.keep hku).reads)
      have HLu := Lib.hid ((HATL10.out.keep hku).reads)
      have HBu := Lib.hid (HB10.out.grown hgu HB10.out.size (fun j hj => by have := HSZ.out; simp at hj; omega))
      have HU := Lib.hid hu
      have hsz9 : u.heap.size = w10.heap.size := by rw [hu]; simp
      have HR9 : Hid (Reads (u.alloc (.cells #[.int .u8 9] 5)) .u8 (.slice (some ⟨w10.heap.size, 0, none⟩) 1 1) [9]) := Lib.hid (by
        have h9 := reads_new u .u8 5 9
        rwa [hsz9] at h9)
      clear hsz9
      have hvv := (Below.heap_alloc u (.cells #[.int .u8 9] 5) _ (Array.getElem?_eq_some_iff.1 HVu.out).1).trans HVu.out
      rw [hu] at hvv
      obtain ⟨v0, v1, _, _⟩ := blk2 hvv
      clear hu hgu hku hvv HX10 HY10 HV10 HQ1110 HQ1310 HATA10 HATL10 HB10
      go_wp2_with fail
      rw [← HU.out]
      clear HU v0 v1 x0 x1 y0 y1 z0 z1 z2 z3
      refine (cput_any _ _ [9] ka da (u.alloc (.cells #[.int .u8 9] 5)) HR9.out (HAu.out.new ((Below.refl _ _).alloc (Nat.le_refl _) _)) (by simp)).mono ?_
      rintro e u2 ⟨vp, out, rfl, hop, hout, hbp⟩
      rw [← HBAD.out, ← HEV.out]
      rw [← HBAD.out] at hout
      have hb2 : Below u.heap.size u u2 := ((Below.refl _ _).alloc (Nat.le_refl _) _).trans (hbp.mono (by simp))
      have HX2 := Lib.hid ((hb2.block _ (Array.getElem?_eq_some_iff.1 HXu.out).1).trans HXu.out)
      have HV2 := Lib.hid ((hb2.block _ (Array.getElem?_eq_some_iff.1 HVu.out).1).trans HVu.out)
      have HQ112 := Lib.hid ((hb2.block _ (Array.getElem?_eq_some_iff.1 HQ11u.out).1).trans HQ11u.out)
      have HQ132 := Lib.hid ((hb2.block _ (Array.getElem?_eq_some_iff.1 HQ13u.out).1).trans HQ13u.out)
      have HA2 := Lib.hid (HAu.out.new hb2)
      have HL2 := Lib.hid (HLu.out.new hb2)
      have HB2 := Lib.hid (HBu.out.trans (hb2.mono HBu.out.size))
      have HOUT := Lib.hid hout
      have HP2 := Lib.hid hop.reads
      obtain ⟨aop, capp, rfl, _, _, _⟩ := hop.reads.val
      clear hop hout hbp hb2 HXu HVu HQ11u HQ13u HAu HLu HBu
      have HNE : Hid (∀ W, (binOp .neq 29 (.agg #[.int .i64 ka, .string (S8 da)]) (.agg #[.int .i64 ka, .string (S8 da)])).run Try.prog W = .ok (.bool false) W) := Lib.hid (fun W => by
        rw [neq_cells ka ka da da H8A.out H8A.out W, same_refl]; rfl)
      go_wp2_with fail
      refine wp_region_extS (fun W => Below u2.heap.size u2 W) (Below.refl _ _).drew HMX.out ?_
      refine extS_take (i := 0) (d := 93) (v := ?_) rfl rfl (by kernel_rfl) (by kernel_rfl) (by kernel_rfl) (fun _ _ _ h => h) (by rfl) (fun W hS => ?_) ?_
      rotate_left
      · skip
        (refine load_gives 24 (.tmp 11) ?_ w7.heap.size ?_ _ #[.int .i64 ka, .slice ao7 da.length cap7] (0, 0) _ ((hS.block _ (Array.getElem?_eq_some_iff.1 HQ112.out).1).trans HQ112.out) Try.underlying24 rfl hinfoC ?_ <;> first | rfl | exact ⟨Below.refl _ _, hS⟩)
      simp only [List.setIfInBounds_toArray, List.set_cons_zero, List.set_cons_succ]
      refine extS_take (i := 1) (d := 94) (v := ?_) rfl rfl (by kernel_rfl) (by kernel_rfl) (by kernel_rfl) (fun _ _ _ h => h) (by rfl) (fun W hS => ?_) ?_
      rotate_left
      · skip
        go_simp; refine Gives.enter ((document_any ka _ da W (HL2.out.new hS)).mono ?_); rintro e wn ⟨rfl, hbn⟩; refine ⟨?_, hbn, Below.trans hS (hbn.mono hS.size)⟩; with_reducible rfl
      simp only [List.setIfInBounds_toArray, List.set_cons_zero, List.set_cons_succ]
      refine extS_take (i := 2) (d := 95) (v := ?_) rfl rfl (by kernel_rfl) (by kernel_rfl) (by kernel_rfl) (fun _ _ _ h => h) (by rfl) (fun W hS => ?_) ?_
      rotate_left
      · skip
        (refine load_gives 29 (.tmp 13) ?_ (w7.heap.size + 1) ?_ _ #[.int .i64 ka, .string (S8 da)] (0, 0) _ ((hS.block _ (Array.getElem?_eq_some_iff.1 HQ132.out).1).trans HQ132.out) Try.underlying29 rfl hinfoD ?_ <;> first | rfl | exact ⟨Below.refl _ _, hS⟩)
      simp only [List.setIfInBounds_toArray, List.set_cons_zero, List.set_cons_succ]
      refine extS_take (i := 3) (d := 96) (v := ?_) rfl rfl (by kernel_rfl) (by kernel_rfl) (by kernel_rfl) (fun _ _ _ h => h) (by rfl) (fun W hS => ?_) ?_
      rotate_left
      · skip
        refine gives_value (w := W) ⟨Below.refl _ _, hS⟩ ?_; refine (exec_eqs rfl ?_ ?_ (by kernel_rfl) (HNE.out W)).trans ?_ <;> rfl
      simp only [List.setIfInBounds_toArray, List.set_cons_zero, List.set_cons_succ]
      refine extS_take (i := 4) (d := 97) (v := ?_) rfl rfl (by kernel_rfl) (by kernel_rfl) (by kernel_rfl) (fun _ _ _ h => h) (by rfl) (fun W hS => ?_) ?_
      rotate_left
      · skip
        refine gives_value (w := W) ⟨Below.refl _ _, hS⟩ ?_; go_simp; try with_reducible rfl
      simp only [List.setIfInBounds_toArray, List.set_cons_zero, List.set_cons_succ]
      refine extS_take (i := 5) (d := 98) (v := ?_) rfl rfl (by kernel_rfl) (by kernel_rfl) (by kernel_rfl) (fun _ _ _ h => h) (by rfl) (fun W hS => ?_) ?_
      rotate_left
      · skip
        refine gives_value (w := W) ⟨Below.refl _ _, hS⟩ ?_; go_simp; try with_reducible rfl
      simp only [List.setIfInBounds_toArray, List.set_cons_zero, List.set_cons_succ]
      refine extS_take (i := 6) (d := 99) (v := ?_) rfl rfl (by kernel_rfl) (by kernel_rfl) (by kernel_rfl) (fun _ _ _ h => h) (by rfl) (fun W hS => ?_) ?_
      rotate_left
      · skip
        refine gives_value (w := W) ⟨Below.refl _ _, hS⟩ ?_; go_simp; try with_reducible rfl
      simp only [List.setIfInBounds_toArray, List.set_cons_zero, List.set_cons_succ]
      refine extS_take (i := 7) (d := 100) (v := ?_) rfl rfl (by kernel_rfl) (by kernel_rfl) (by kernel_rfl) (fun _ _ _ h => h) (by rfl) (fun W hS => ?_) ?_
      rotate_left
      · skip
        refine gives_value (w := W) ⟨Below.refl _ _, hS⟩ ?_; go_simp; try with_reducible rfl
      simp only [List.setIfInBounds_toArray, List.set_cons_zero, List.set_cons_succ]
      refine extS_take (i := 8) (d := 101) (v := ?_) rfl rfl (by kernel_rfl) (by kernel_rfl) (by kernel_rfl) (fun _ _ _ h => h) (by rfl) (fun W hS => ?_) ?_
      rotate_left
      · skip
        refine gives_value (w := W) ⟨Below.refl _ _, hS⟩ ?_; go_simp; try with_reducible rfl
      simp only [List.setIfInBounds_toArray, List.set_cons_zero, List.set_cons_succ]
      refine extS_take (i := 9) (d := 102) (v := ?_) rfl rfl (by kernel_rfl) (by kernel_rfl) (by kernel_rfl) (fun _ _ _ h => h) (by rfl) (fun W hS => ?_) ?_
      rotate_left
      · skip
        refine gives_value (w := W) ⟨Below.refl _ _, hS⟩ ?_; go_simp; try with_reducible rfl
      simp only [List.setIfInBounds_toArray, List.set_cons_zero, List.set_cons_succ]
      refine extS_take (i := 10) (d := 103) (v := ?_) rfl rfl (by kernel_rfl) (by kernel_rfl) (by kernel_rfl) (fun _ _ _ h => h) (by rfl) (fun W hS => ?_) ?_
      rotate_left
      · skip
        refine gives_value (w := W) ⟨Below.refl _ _, hS⟩ ?_; go_simp; try with_reducible rfl
      simp only [List.setIfInBounds_toArray, List.set_cons_zero, List.set_cons_succ]
      refine extS_take (i := 11) (d := 104) (v := ?_) rfl rfl (by kernel_rfl) (by kernel_rfl) (by kernel_rfl) (fun _ _ _ h => h) (by rfl) (fun W hS => ?_) ?_
      rotate_left
      · skip
        go_simp; rw [HEV.out]; refine Gives.enter ((num_any bad W).mono ?_); rintro e wn ⟨rfl, rfl⟩; refine ⟨?_, Below.refl _ _, hS⟩; with_reducible rfl
      simp only [List.setIfInBounds_toArray, List.set_cons_zero, List.set_cons_succ]
      refine extS_take (i := 12) (d := 105) (v := ?_) rfl rfl (by kernel_rfl) (by kernel_rfl) (by kernel_rfl) (fun _ _ _ h => h) (by rfl) (fun W hS => ?_) ?_
      rotate_left
      · skip
        refine gives_value (w := W) ⟨Below.refl _ _, hS⟩ ?_; go_simp; try with_reducible rfl
      simp only [List.setIfInBounds_toArray, List.set_cons_zero, List.set_cons_succ]
      refine extS_take (i := 13) (d := 106) (v := ?_) rfl rfl (by kernel_rfl) (by kernel_rfl) (by kernel_rfl) (fun _ _ _ h => h) (by rfl) (fun W hS => ?_) ?_
      rotate_left
      · skip
        refine gives_value (w := W) ⟨Below.refl _ _, hS⟩ ?_; go_simp; try with_reducible rfl
      simp only [List.setIfInBounds_toArray, List.set_cons_zero, List.set_cons_succ]
      refine extS_take (i := 14) (d := 107) (v := ?_) rfl rfl (by kernel_rfl) (by kernel_rfl) (by kernel_rfl) (fun _ _ _ h => h) (by rfl) (fun W hS => ?_) ?_
      rotate_left
      · skip
        refine gives_value (w := W) ⟨Below.refl _ _, hS⟩ ?_; go_simp; try with_reducible rfl
      simp only [List.setIfInBounds_toArray, List.set_cons_zero, List.set_cons_succ]
      refine extS_done (by kernel_rfl) (fun u3 hb3 hS3 => ?_) _
      have HX3 := Lib.hid ((hS3.block _ (Array.getElem?_eq_some_iff.1 HX2.out).1).trans HX2.out)
      have HV3 := Lib.hid ((hS3.block _ (Array.getElem?_eq_some_iff.1 HV2.out).1).trans HV2.out)
      have HA3 := Lib.hid (HA2.out.new hS3)
      have HP3 := Lib.hid (HP2.out.new hS3)
      have HB3 := Lib.hid (HB2.out.trans (hS3.mono HB2.out.size))
      clear hb3 hS3 HX2 HV2 HQ112 HQ132 HA2 HL2 HB2 HP2 HNE
      by_cases hb0 : bad = 0
      · subst hb0
        have hck : chk ka da.length = 0 := HBAD.out.symm
        have hout : out = [9] ++ cbytes (ka.toNat, da) := by rw [HOUT.out, if_pos rfl]
        have HOUT2 := Lib.hid hout
        have HCK := Lib.hid hck
        clear hout hck HOUT
        obtain ⟨v0, v1, _, _⟩ := blk2 HV3.out
        go_wp2_with fail
        refine (copy_any ka _ da u3 HA3.out (by have := HLA.out; omega)).mono ?_
        rintro e u4 ⟨vc, rfl, hoc, hbc⟩
        obtain ⟨aoc, capc, rfl, _, _, _⟩ := hoc.reads.val
        have HX4c := Lib.hid ((hbc.block _ (Array.getElem?_eq_some_iff.1 HX3.out).1).trans HX3.out)
        have HV4c := Lib.hid ((hbc.block _ (Array.getElem?_eq_some_iff.1 HV3.out).1).trans HV3.out)
        have HA4c := Lib.hid (HA3.out.new hbc)
        have HP4c := Lib.hid (HP3.out.new hbc)
        have HB4c := Lib.hid (HB3.out.trans (hbc.mono HB3.out.size))
        have HOC := Lib.hid hoc
        have HBC := Lib.hid hbc
        obtain ⟨U5, hU5⟩ : ∃ U5, U5 = u4.alloc (.cells #[.int .i64 ka, .slice aoc da.length capc] 24) := ⟨_, rfl⟩
        have hal : Below u4.heap.size u4 U5 := by rw [hU5]; exact (Below.refl _ _).alloc (Nat.le_refl _) _
        have hbx : U5.heap[u4.heap.size]? = some (.cells #[.int .i64 ka, .slice aoc da.length capc] 24 (0, 0)) := by rw [hU5]; exact heap_alloc_new _ _
        have HOC5 := Lib.hid (HOC.out.below hal (Nat.le_refl _))
        have HBC5 := Lib.hid (HBC.out.trans (hal.mono HBC.out.size))
        have HBX := Lib.hid hbx
        have HSZ4 : Hid (u3.heap.size ≤ u4.heap.size) := Lib.hid HBC.out.size
        rw [hU5] at HOC5 HBC5 HBX
        have hbx2 := HBX.out
        obtain ⟨q0, q1, _, _⟩ := blk2 hbx2
        clear hbx2 hal hbx hU5 hoc hbc HX4c HV4c HA4c HP4c HB4c HOC HBC v0 v1
        go_wp2
        clear q0 q1
        go_loopw [18, 118] (fun _ i wr => ∃ (j : Nat) (l' : List Nat), j ≤ da.length ∧ i = .int .i64 (j : Int) ∧ l'.length = da.length ∧ Owns wr u3.heap.size 5 .u8 (.slice aoc da.length capc) l' ∧ wr.heap[u4.heap.size]? = some (.cells #[.int .i64 ka, .slice aoc da.length capc] 24 (0, 0)) ∧ Below u3.heap.size u3 wr)
          (fun _ i _ => da.length - (intOf i).toNat)
        case atStart => exact ⟨0, da, Nat.zero_le _, rfl, rfl, HOC5.out, HBX.out, HBC5.out⟩
        case round =>
          clear HOC5 HBX HBC5
          obtain ⟨j, l', hj, rfl, hll, hown, hbx, hbw⟩ := hrel
          have HOW := Lib.hid hown
          have HBX := Lib.hid hbx
          have HBW := Lib.hid hbw
          have HLL := Lib.hid hll
          clear hown hbx hbw hll
          obtain ⟨q0, q1, _, _⟩ := blk2 HBX.out
          by_cases hlt : j < da.length
          · have hlti : (j : Int) < (da.length : Int) := by omega
            rcases HOW.out.form with ⟨_, h0⟩ | ⟨g, cap, hv, _, _, _⟩
            · have := HLL.out; rw [h0] at this; simp at this; omega
            · obtain ⟨rfl, rfl⟩ : aoc = some ⟨g, 0, none⟩ ∧ capc = cap := by simp only [Value.slice.injEq] at hv; exact ⟨hv.1, hv.2.2⟩
              have hla := HLA.out
              have c0 := HOW.out.cellY HLL.out.symm (i := j) (by have := HLL.out; omega)
              have f0 := HOW.out.freeY HLL.out.symm j
              have hgb : u3.heap.size ≤ g := (HOW.out.lt g rfl).1
              have hgne : g ≠ u4.heap.size := by
                intro he
                subst he
                rcases HOW.out.2 with ⟨hn, _⟩ | ⟨g', cap', cur, hv', _, hg', _⟩
                · cases hn
                · have hg2 : g' = u4.heap.size := by
                    have := congrArg Value.ownBlock hv'
                    simpa [Value.ownBlock] using this.symm
                  rw [hg2] at hg'
                  have hcon := HBX.out.symm.trans hg'
                  cases hcon
              generalize l'.getD j 0 = x at c0
              have hx : IntKind.u8.wrap ((x : Int) + 1) = (((x + 1) % 256 : Nat) : Int) := by rw [IntKind.wrap_u8]; omega
              have HNW := Lib.hid (HOW.out.setY HLL.out.symm j ((x + 1) % 256))
              have HBN : Hid ((wr.setCell ⟨g, j, none⟩ (.int .u8 (((x + 1) % 256 : Nat) : Int))).heap[u4.heap.size]? = some (.cells #[.int .i64 ka, .slice (some ⟨g, 0, none⟩) da.length capc] 24 (0, 0))) := Lib.hid (by
                rw [heap_setCell_other _ _ _ _ (by simp; exact fun e => hgne e.symm)]; exact HBX.out)
              have HBB := Lib.hid (HBW.out.setCell (p := ⟨g, j, none⟩) hgb (.int .u8 (((x + 1) % 256 : Nat) : Int)))
              have HL2 : Hid ((l'.set j ((x + 1) % 256)).length = da.length) := Lib.hid (by rw [List.length_set]; exact HLL.out)
              clear hv
              generalize (x + 1) % 256 = y at hx HNW HBN HBB HL2
              go_wp2
              go_roundw
              case rel => exact ⟨j + 1, l'.set j y, by omega, by go_num, HL2.out, HNW.out, HBN.out, HBB.out⟩
              case measure => simp [intOf]; omega
          · obtain rfl : j = da.length := by omega
            obtain ⟨u6, hu6⟩ : ∃ u6, u6 = wr := ⟨_, rfl⟩
            rw [← hu6] at HBW ⊢
            clear hu6 HOW HBX HLL q0 q1
            have HX6c := Lib.hid ((HBW.out.block _ (Array.getElem?_eq_some_iff.1 HX3.out).1).trans HX3.out)
            have HV6c := Lib.hid ((HBW.out.block _ (Array.getElem?_eq_some_iff.1 HV3.out).1).trans HV3.out)
            have HA6c := Lib.hid (HA3.out.new HBW.out)
            have HP6 := Lib.hid (HP3.out.new HBW.out)
            have HB6c := Lib.hid (HB3.out.trans (HBW.out.mono HB3.out.size))
            clear HX3 HV3 HA3 HP3 HB3 HBW
            have hk0 : 0 ≤ ka := (chk_zero HCK.out).1
            have hk3 : ka ≤ 3 := (chk_zero HCK.out).2.1
            have hd64 : da.length ≤ 64 := (chk_zero HCK.out).2.2.1
            have hok : okC (ka.toNat, da) := okC_toCC (c := (ka, da)) HCK.out H8A.out
            have HRC : Hid (∀ W, Calls Try.prog 23 #[.agg #[.int .i64 ka, .string (S8 da)]] W fun e w' => ∃ v', e = .returned v' ∧ Owns w' W.heap.size 5 .u8 v' (cbytes (ka.toNat, da)) ∧ Below W.heap.size W w') := Lib.hid (fun W => by
              have := rcbytes_any ka.toNat da W (by omega) H8A.out (by omega)
              rwa [Int.toNat_of_nonneg hk0] at this)
            have HC8 : Hid (∀ y ∈ [9] ++ cbytes (ka.toNat, da), y < 256) := Lib.hid (app_byte (by simp) (cbytes_byte hok))
            have HCL : Hid ((cbytes (ka.toNat, da)).length ≤ 100) := Lib.hid (cbytes_len hok)
            have HEE : Hid (∀ W, (binOp .eql 29 (.agg #[.int .i64 ka, .string (S8 da)]) (.agg #[.int .i64 ka, .string (S8 da)])).run Try.prog W = .ok (.bool true) W) := Lib.hid (fun W => by rw [eql_cellsC ka ka da da H8A.out H8A.out W, same_refl])
            clear hk0 hk3 hd64 hok
            go_wp2_with fail
            refine wp_region_extS (fun W => Below u6.heap.size u6 W) (Below.refl _ _).drew HMX.out ?_
            refine extS_take (i := 0) (d := 129) (v := ?_) rfl rfl (by kernel_rfl) (by kernel_rfl) (by kernel_rfl) (fun _ _ _ h => h) (by rfl) (fun W hS => ?_) ?_
            rotate_left
            · skip
              refine gives_value (w := W) ⟨Below.refl _ _, hS⟩ ?_; go_simp; try with_reducible rfl
            simp only [List.setIfInBounds_toArray, List.set_cons_zero, List.set_cons_succ]
            refine extS_take (i := 2) (d := 131) (v := ?_) rfl rfl (by kernel_rfl) (by kernel_rfl) (by kernel_rfl) (fun _ _ _ h => h) (by rfl) (fun W hS => ?_) ?_
            rotate_left
            · skip
              (refine load_gives 29 (.tmp 7) ?_ g7 ?_ _ #[.int .i64 ka, .string (S8 da)] (0, 0) _ ((hS.block _ (Array.getElem?_eq_some_iff.1 HX6c.out).1).trans HX6c.out) Try.underlying29 rfl hinfoD ?_ <;> first | rfl | exact ⟨Below.refl _ _, hS⟩)
            simp only [List.setIfInBounds_toArray, List.set_cons_zero, List.set_cons_succ]
            refine extS_two (i := 1) (j := 3) (by kernel_rfl) rfl rfl (fun w1z hb1z hS1z => ?_) (fun w1z hb1z hS1z => ?_)
            · intro K hK
              go_simp
              have HO9x := Lib.hid (owns_one8 w1z u6.heap.size 5 9 hS1z.size)
              refine hK _ _ (hS1z.alloc hS1z.size _) ?_
              generalize w1z.alloc (.cells #[.int .u8 9] 5) = wy1 at HO9x ⊢
              clear hK K
              try simp only [List.setIfInBounds_toArray, List.set_cons_zero, List.set_cons_succ]
              refine extS_one (i := 3) (by kernel_rfl) rfl (fun w2z hb2z hS2z => ?_)
              have HO9y := Lib.hid (HO9x.out.below hb2z (Nat.le_refl _))
              intro K hK
              go_simp
              refine (HRC.out w2z).mono ?_
              rintro e w3z ⟨vb, rfl, hob, hbb⟩
              have HO9 := Lib.hid (HO9y.out.below hbb (Nat.le_refl _))
              have HVB := Lib.hid hob.reads
              obtain ⟨aob, capb, rfl, _, _, _⟩ := hob.reads.val
              refine hK _ _ (hS2z.trans (hbb.mono hS2z.size)) ?_
              clear hK K hob hbb HO9x HO9y hb2z hS2z hb1z hS1z
              try simp only [List.setIfInBounds_toArray, List.set_cons_zero, List.set_cons_succ]
              refine extS_one (i := 4) (by kernel_rfl) rfl (fun wa hba hSa => ?_)
              have HO9a := Lib.hid (HO9.out.below hba (Nat.le_refl _))
              have HVBa := Lib.hid (HVB.out.new hba)
              intro K hK
              refine step_app_reads rfl (.tmp 130) (.tmp 132) 22 rfl u6.heap.size 5 (.int .u8 0) 1 Try.underlying22 Try.info5 rfl .u8 _ [9] rfl HO9a.out _ (cbytes (ka.toNat, da)) rfl HVBa.out (by decide) (by have := HCL.out; simp only [List.length_cons, List.length_nil]; omega) hSa.size (fun vq wq hoq hgq => ?_)
              have hSq : Below u6.heap.size u6 wq := hSa.grown hgq hSa.size (fun j hj => (HO9a.out.lt j hj).1)
              have HOQ := Lib.hid hoq.reads
              refine hK _ _ hSq ?_
              clear hK K hgq hoq HO9a HVBa HO9 HVB hba hSa
              try simp only [List.setIfInBounds_toArray, List.set_cons_zero, List.set_cons_succ]
              refine extS_one (i := 5) (by kernel_rfl) rfl (fun wb hbb hSb => ?_)
              have HOQb := Lib.hid (HOQ.out.new hbb)
              intro K hK
              go_simp
              refine (numBytes_any _ _ out ([9] ++ cbytes (ka.toNat, da)) wb (HP6.out.new hSb) HOQb.out (by rw [HOUT2.out]; exact HC8.out) HC8.out).mono ?_
              rintro e wn ⟨rfl, rfl⟩
              rw [decide_eq_true HOUT2.out]
              refine hK _ _ hSb ?_
              clear hK K HOQb HOQ hSq hbb hSb
              try simp only [List.setIfInBounds_toArray, List.set_cons_zero, List.set_cons_succ]
              refine extS_take (i := 6) (d := 135) (v := ?_) rfl rfl (by kernel_rfl) (by kernel_rfl) (by kernel_rfl) (fun _ _ _ h => h) (by rfl) (fun W hS => ?_) ?_
              rotate_left
              · skip
                refine gives_value (w := W) ⟨Below.refl _ _, hS⟩ ?_; go_simp; try with_reducible rfl
              simp only [List.setIfInBounds_toArray, List.set_cons_zero, List.set_cons_succ]
              refine extS_take (i := 7) (d := 136) (v := ?_) rfl rfl (by kernel_rfl) (by kernel_rfl) (by kernel_rfl) (fun _ _ _ h => h) (by rfl) (fun W hS => ?_) ?_
              rotate_left
              · skip
                (refine load_gives 24 (.tmp 3) ?_ w.heap.size ?_ _ #[.int .i64 ka, .slice ao1 da.length cap1] (0, 0) _ ((hS.block _ (Array.getElem?_eq_some_iff.1 HV6c.out).1).trans HV6c.out) Try.underlying24 rfl hinfoC ?_ <;> first | rfl | exact ⟨Below.refl _ _, hS⟩)
              simp only [List.setIfInBounds_toArray, List.set_cons_zero, List.set_cons_succ]
              refine extS_take (i := 8) (d := 137) (v := ?_) rfl rfl (by kernel_rfl) (by kernel_rfl) (by kernel_rfl) (fun _ _ _ h => h) (by rfl) (fun W hS => ?_) ?_
              rotate_left
              · skip
                go_simp; refine Gives.enter ((document_any ka _ da W (HA6c.out.new hS)).mono ?_); rintro e wn ⟨rfl, hbn⟩; refine ⟨?_, hbn, Below.trans hS (hbn.mono hS.size)⟩; with_reducible rfl
              simp only [List.setIfInBounds_toArray, List.set_cons_zero, List.set_cons_succ]
              refine extS_take (i := 9) (d := 138) (v := ?_) rfl rfl (by kernel_rfl) (by kernel_rfl) (by kernel_rfl) (fun _ _ _ h => h) (by rfl) (fun W hS => ?_) ?_
              rotate_left
              · skip
                (refine load_gives 29 (.tmp 7) ?_ g7 ?_ _ #[.int .i64 ka, .string (S8 da)] (0, 0) _ ((hS.block _ (Array.getElem?_eq_some_iff.1 HX6c.out).1).trans HX6c.out) Try.underlying29 rfl hinfoD ?_ <;> first | rfl | exact ⟨Below.refl _ _, hS⟩)
              simp only [List.setIfInBounds_toArray, List.set_cons_zero, List.set_cons_succ]
              refine extS_take (i := 10) (d := 139) (v := ?_) rfl rfl (by kernel_rfl) (by kernel_rfl) (by kernel_rfl) (fun _ _ _ h => h) (by rfl) (fun W hS => ?_) ?_
              rotate_left
              · skip
                refine gives_value (w := W) ⟨Below.refl _ _, hS⟩ ?_; refine (exec_eqs rfl ?_ ?_ (by kernel_rfl) (HEE.out W)).trans ?_ <;> rfl
              simp only [List.setIfInBounds_toArray, List.set_cons_zero, List.set_cons_succ]
              refine extS_take (i := 11) (d := 140) (v := ?_) rfl rfl (by kernel_rfl) (by kernel_rfl) (by kernel_rfl) (fun _ _ _ h => h) (by rfl) (fun W hS => ?_) ?_
              rotate_left
              · skip
                refine gives_value (w := W) ⟨Below.refl _ _, hS⟩ ?_; go_simp; try with_reducible rfl
              simp only [List.setIfInBounds_toArray, List.set_cons_zero, List.set_cons_succ]
              refine extS_take (i := 12) (d := 6) (v := ?_) rfl rfl (by kernel_rfl) (by kernel_rfl) (by kernel_rfl) (fun _ _ _ h => h) (by rfl) (fun W hS => ?_) ?_
              rotate_left
              · skip
                refine gives_value (w := W) ⟨Below.refl _ _, hS⟩ ?_; go_simp; try with_reducible rfl
              simp only [List.setIfInBounds_toArray, List.set_cons_zero, List.set_cons_succ]
              refine extS_done (by kernel_rfl) (fun uz hbz hSz => ?_) _
              go_wp2
              go_ret
              exact ⟨rfl, HB6c.out.trans (hSz.mono HB6c.out.size)⟩
            · intro K hK
              go_simp
              refine (HRC.out w1z).mono ?_
              rintro e w3z ⟨vb, rfl, hob, hbb⟩
              have HVBx := Lib.hid hob.reads
              obtain ⟨aob, capb, rfl, _, _, _⟩ := hob.reads.val
              refine hK _ _ (hS1z.trans (hbb.mono hS1z.size)) ?_
              clear hK K hob hbb hb1z hS1z
              try simp only [List.setIfInBounds_toArray, List.set_cons_zero, List.set_cons_succ]
              refine extS_one (i := 1) (by kernel_rfl) rfl (fun w2z hb2z hS2z => ?_)
              have HVB2 := Lib.hid ((HVBx.out.new hb2z).new ((Below.refl _ _).alloc (Nat.le_refl _) (.cells #[.int .u8 9] 5)))
              intro K hK
              go_simp
              have HO9 := Lib.hid (owns_one8 w2z u6.heap.size 5 9 hS2z.size)
              have HVB := HVB2
              refine hK _ _ (hS2z.alloc hS2z.size _) ?_
              generalize w2z.alloc (.cells #[.int .u8 9] 5) = wy1 at HO9 HVB ⊢
              clear hK K HVBx HVB2 hb2z hS2z
              try simp only [List.setIfInBounds_toArray, List.set_cons_zero, List.set_cons_succ]
              refine extS_one (i := 4) (by kernel_rfl) rfl (fun wa hba hSa => ?_)
              have HO9a := Lib.hid (HO9.out.below hba (Nat.le_refl _))
              have HVBa := Lib.hid (HVB.out.new hba)
              intro K hK
              refine step_app_reads rfl (.tmp 130) (.tmp 132) 22 rfl u6.heap.size 5 (.int .u8 0) 1 Try.underlying22 Try.info5 rfl .u8 _ [9] rfl HO9a.out _ (cbytes (ka.toNat, da)) rfl HVBa.out (by decide) (by have := HCL.out; simp only [List.length_cons, List.length_nil]; omega) hSa.size (fun vq wq hoq hgq => ?_)
              have hSq : Below u6.heap.size u6 wq := hSa.grown hgq hSa.size (fun j hj => (HO9a.out.lt j hj).1)
              have HOQ := Lib.hid hoq.reads
              refine hK _ _ hSq ?_
              clear hK K hgq hoq HO9a HVBa HO9 HVB hba hSa
              try simp only [List.setIfInBounds_toArray, List.set_cons_zero, List.set_cons_succ]
              refine extS_one (i := 5) (by kernel_rfl) rfl (fun wb hbb hSb => ?_)
              have HOQb := Lib.hid (HOQ.out.new hbb)
              intro K hK
              go_simp
              refine (numBytes_any _ _ out ([9] ++ cbytes (ka.toNat, da)) wb (HP6.out.new hSb) HOQb.out (by rw [HOUT2.out]; exact HC8.out) HC8.out).mono ?_
              rintro e wn ⟨rfl, rfl⟩
              rw [decide_eq_true HOUT2.out]
              refine hK _ _ hSb ?_
              clear hK K HOQb HOQ hSq hbb hSb
              try simp only [List.setIfInBounds_toArray, List.set_cons_zero, List.set_cons_succ]
              refine extS_take (i := 6) (d := 135) (v := ?_) rfl rfl (by kernel_rfl) (by kernel_rfl) (by kernel_rfl) (fun _ _ _ h => h) (by rfl) (fun W hS => ?_) ?_
              rotate_left
              · skip
                refine gives_value (w := W) ⟨Below.refl _ _, hS⟩ ?_; go_simp; try with_reducible rfl
              simp only [List.setIfInBounds_toArray, List.set_cons_zero, List.set_cons_succ]
              refine extS_take (i := 7) (d := 136) (v := ?_) rfl rfl (by kernel_rfl) (by kernel_rfl) (by kernel_rfl) (fun _ _ _ h => h) (by rfl) (fun W hS => ?_) ?_
              rotate_left
              · skip
                (refine load_gives 24 (.tmp 3) ?_ w.heap.size ?_ _ #[.int .i64 ka, .slice ao1 da.length cap1] (0, 0) _ ((hS.block _ (Array.getElem?_eq_some_iff.1 HV6c.out).1).trans HV6c.out) Try.underlying24 rfl hinfoC ?_ <;> first | rfl | exact ⟨Below.refl _ _, hS⟩)
              simp only [List.setIfInBounds_toArray, List.set_cons_zero, List.set_cons_succ]
              refine extS_take (i := 8) (d := 137) (v := ?_) rfl rfl (by kernel_rfl) (by kernel_rfl) (by kernel_rfl) (fun _ _ _ h => h) (by rfl) (fun W hS => ?_) ?_
              rotate_left
              · skip
                go_simp; refine Gives.enter ((document_any ka _ da W (HA6c.out.new hS)).mono ?_); rintro e wn ⟨rfl, hbn⟩; refine ⟨?_, hbn, Below.trans hS (hbn.mono hS.size)⟩; with_reducible rfl
              simp only [List.setIfInBounds_toArray, List.set_cons_zero, List.set_cons_succ]
              refine extS_take (i := 9) (d := 138) (v := ?_) rfl rfl (by kernel_rfl) (by kernel_rfl) (by kernel_rfl) (fun _ _ _ h => h) (by rfl) (fun W hS => ?_) ?_
              rotate_left
              · skip
                (refine load_gives 29 (.tmp 7) ?_ g7 ?_ _ #[.int .i64 ka, .string (S8 da)] (0, 0) _ ((hS.block _ (Array.getElem?_eq_some_iff.1 HX6c.out).1).trans HX6c.out) Try.underlying29 rfl hinfoD ?_ <;> first | rfl | exact ⟨Below.refl _ _, hS⟩)
              simp only [List.setIfInBounds_toArray, List.set_cons_zero, List.set_cons_succ]
              refine extS_take (i := 10) (d := 139) (v := ?_) rfl rfl (by kernel_rfl) (by kernel_rfl) (by kernel_rfl) (fun _ _ _ h => h) (by rfl) (fun W hS => ?_) ?_
              rotate_left
              · skip
                refine gives_value (w := W) ⟨Below.refl _ _, hS⟩ ?_; refine (exec_eqs rfl ?_ ?_ (by kernel_rfl) (HEE.out W)).trans ?_ <;> rfl
              simp only [List.setIfInBounds_toArray, List.set_cons_zero, List.set_cons_succ]
              refine extS_take (i := 11) (d := 140) (v := ?_) rfl rfl (by kernel_rfl) (by kernel_rfl) (by kernel_rfl) (fun _ _ _ h => h) (by rfl) (fun W hS => ?_) ?_
              rotate_left
              · skip
                refine gives_value (w := W) ⟨Below.refl _ _, hS⟩ ?_; go_simp; try with_reducible rfl
              simp only [List.setIfInBounds_toArray, List.set_cons_zero, List.set_cons_succ]
              refine extS_take (i := 12) (d := 6) (v := ?_) rfl rfl (by kernel_rfl) (by kernel_rfl) (by kernel_rfl) (fun _ _ _ h => h) (by rfl) (fun W hS => ?_) ?_
              rotate_left
              · skip
                refine gives_value (w := W) ⟨Below.refl _ _, hS⟩ ?_; go_simp; try with_reducible rfl
              simp only [List.setIfInBounds_toArray, List.set_cons_zero, List.set_cons_succ]
              refine extS_done (by kernel_rfl) (fun uz hbz hSz => ?_) _
              go_wp2
              go_ret
              exact ⟨rfl, HB6c.out.trans (hSz.mono HB6c.out.size)⟩
      · have hbn : ((bad : Int) != 0) = true := by rw [bne_iff_ne]; omega
        have hout : out = [] := by rw [HOUT.out, if_neg hb0]
        subst hout
        clear hb0
        go_wp2
        go_ret
        exact ⟨rfl, HB3.out⟩
  · have hlc := HLC.out
    unfold laterC at hlc
    rw [if_pos HMY.out] at hlc
    simp only [Prod.mk.injEq] at hlc
    obtain ⟨hk, hd, hok⟩ := hlc
    have hk := hk.symm
    have hd := hd.symm
    subst hk hd hok
    clear HLC
    obtain ⟨u, hu⟩ : ∃ u, u = (w9.setCell ⟨w7.heap.size + 1, 0, none⟩ (.int .i64 kb)).setCell ⟨w7.heap.size + 1, 1, none⟩ (.string (S8 db)) := ⟨_, rfl⟩
    have hgu : w9.grownBy u (some (w7.heap.size + 1)) := by
      rw [hu]
      exact ⟨rfl, rfl, rfl, by simp, fun j _ hj => by rw [heap_setCell_other _ _ _ _ (fun e => hj (by rw [e])), heap_setCell_other _ _ _ _ (fun e => hj (by rw [e]))]⟩
    have HXu := Lib.hid ((hgu.block _ (Array.getElem?_eq_some_iff.1 HX9.out).1 (by have := HG7.out; simp; omega)).trans HX9.out)
    have HVu := Lib.hid ((hgu.block _ (Array.getElem?_eq_some_iff.1 HV9.out).1 (by have := HAB.out; simp; omega)).trans HV9.out)
    have HQ11u := Lib.hid ((hgu.block _ (Array.getElem?_eq_some_iff.1 HQ11.out).1 (by simp)).trans HQ11.out)
    have HQ13u : Hid (u.heap[w7.heap.size + 1]? = some (.cells #[.int .i64 kb, .string (S8 db)] 29 (0, 0))) := Lib.hid (by rw [hu]; exact set2 HQ13.out)
    have hku : Kept (fun j => j < w7.heap.size) w9 u := ⟨hgu.size, fun j hj hlt => hgu.block j hj (by simp; omega)⟩
    have HAu := Lib.hid ((HATA.out.keep hku).reads)
    have HLu := Lib.hid ((HATL.out.keep hku).reads)
    have HBu := Lib.hid (HB9.out.grown hgu HB9.out.size (fun j hj => by have := HSZ.out; simp at hj; omega))
    have HU := Lib.hid hu
    have hsz9 : u.heap.size = w9.heap.size := by rw [hu]; simp
    have HR9 : Hid (Reads (u.alloc (.cells #[.int .u8 9] 5)) .u8 (.slice (some ⟨w9.heap.size, 0, none⟩) 1 1) [9]) := Lib.hid (by
      have h9 := reads_new u .u8 5 9
      rwa [hsz9] at h9)
    clear hsz9
    have hvv := (Below.heap_alloc u (.cells #[.int .u8 9] 5) _ (Array.getElem?_eq_some_iff.1 HVu.out).1).trans HVu.out
    rw [hu] at hvv
    obtain ⟨v0, v1, _, _⟩ := blk2 hvv
    clear hu hgu hku hvv HX9 HY9 HV9 HQ11 HQ13 HATA HATL HB9
    go_wp2_with fail
    rw [← HU.out]
    clear HU v0 v1 x0 x1 y0 y1 z0 z1 z2 z3
    refine (cput_any _ _ [9] ka da (u.alloc (.cells #[.int .u8 9] 5)) HR9.out (HAu.out.new ((Below.refl _ _).alloc (Nat.le_refl _) _)) (by simp)).mono ?_
    rintro e u2 ⟨vp, out, rfl, hop, hout, hbp⟩
    rw [← HBAD.out, ← HEV.out]
    rw [← HBAD.out] at hout
    have hb2 : Below u.heap.size u u2 := ((Below.refl _ _).alloc (Nat.le_refl _) _).trans (hbp.mono (by simp))
    have HX2 := Lib.hid ((hb2.block _ (Array.getElem?_eq_some_iff.1 HXu.out).1).trans HXu.out)
    have HV2 := Lib.hid ((hb2.block _ (Array.getElem?_eq_some_iff.1 HVu.out).1).trans HVu.out)
    have HQ112 := Lib.hid ((hb2.block _ (Array.getElem?_eq_some_iff.1 HQ11u.out).1).trans HQ11u.out)
    have HQ132 := Lib.hid ((hb2.block _ (Array.getElem?_eq_some_iff.1 HQ13u.out).1).trans HQ13u.out)
    have HA2 := Lib.hid (HAu.out.new hb2)
    have HL2 := Lib.hid (HLu.out.new hb2)
    have HB2 := Lib.hid (HBu.out.trans (hb2.mono HBu.out.size))
    have HOUT := Lib.hid hout
    have HP2 := Lib.hid hop.reads
    obtain ⟨aop, capp, rfl, _, _, _⟩ := hop.reads.val
    clear hop hout hbp hb2 HXu HVu HQ11u HQ13u HAu HLu HBu
    have HNE : Hid (∀ W, (binOp .neq 29 (.agg #[.int .i64 kb, .string (S8 db)]) (.agg #[.int .i64 kb, .string (S8 db)])).run Try.prog W = .ok (.bool false) W) := Lib.hid (fun W => by
      rw [neq_cells kb kb db db H8B.out H8B.out W, same_refl]; rfl)
    go_wp2_with fail
    refine wp_region_extS (fun W => Below u2.heap.size u2 W) (Below.refl _ _).drew HMX.out ?_
    refine extS_take (i := 0) (d := 93) (v := ?_) rfl rfl (by kernel_rfl) (by kernel_rfl) (by kernel_rfl) (fun _ _ _ h => h) (by rfl) (fun W hS => ?_) ?_
    rotate_left
    · skip
      (refine load_gives 24 (.tmp 11) ?_ w7.heap.size ?_ _ #[.int .i64 kb, .slice ao7 db.length cap7] (0, 0) _ ((hS.block _ (Array.getElem?_eq_some_iff.1 HQ112.out).1).trans HQ112.out) Try.underlying24 rfl hinfoC ?_ <;> first | rfl | exact ⟨Below.refl _ _, hS⟩)
    simp only [List.setIfInBounds_toArray, List.set_cons_zero, List.set_cons_succ]
    refine extS_take (i := 1) (d := 94) (v := ?_) rfl rfl (by kernel_rfl) (by kernel_rfl) (by kernel_rfl) (fun _ _ _ h => h) (by rfl) (fun W hS => ?_) ?_
    rotate_left
    · skip
      go_simp; refine Gives.enter ((document_any kb _ db W (HL2.out.new hS)).mono ?_); rintro e wn ⟨rfl, hbn⟩; refine ⟨?_, hbn, Below.trans hS (hbn.mono hS.size)⟩; with_reducible rfl
    simp only [List.setIfInBounds_toArray, List.set_cons_zero, List.set_cons_succ]
    refine extS_take (i := 2) (d := 95) (v := ?_) rfl rfl (by kernel_rfl) (by kernel_rfl) (by kernel_rfl) (fun _ _ _ h => h) (by rfl) (fun W hS => ?_) ?_
    rotate_left
    · skip
      (refine load_gives 29 (.tmp 13) ?_ (w7.heap.size + 1) ?_ _ #[.int .i64 kb, .string (S8 db)] (0, 0) _ ((hS.block _ (Array.getElem?_eq_some_iff.1 HQ132.out).1).trans HQ132.out) Try.underlying29 rfl hinfoD ?_ <;> first | rfl | exact ⟨Below.refl _ _, hS⟩)
    simp only [List.setIfInBounds_toArray, List.set_cons_zero, List.set_cons_succ]
    refine extS_take (i := 3) (d := 96) (v := ?_) rfl rfl (by kernel_rfl) (by kernel_rfl) (by kernel_rfl) (fun _ _ _ h => h) (by rfl) (fun W hS => ?_) ?_
    rotate_left
    · skip
      refine gives_value (w := W) ⟨Below.refl _ _, hS⟩ ?_; refine (exec_eqs rfl ?_ ?_ (by kernel_rfl) (HNE.out W)).trans ?_ <;> rfl
    simp only [List.setIfInBounds_toArray, List.set_cons_zero, List.set_cons_succ]
    refine extS_take (i := 4) (d := 97) (v := ?_) rfl rfl (by kernel_rfl) (by kernel_rfl) (by kernel_rfl) (fun _ _ _ h => h) (by rfl) (fun W hS => ?_) ?_
    rotate_left
    · skip
      refine gives_value (w := W) ⟨Below.refl _ _, hS⟩ ?_; go_simp; try with_reducible rfl
    simp only [List.setIfInBounds_toArray, List.set_cons_zero, List.set_cons_succ]
    refine extS_take (i := 5) (d := 98) (v := ?_) rfl rfl (by kernel_rfl) (by kernel_rfl) (by kernel_rfl) (fun _ _ _ h => h) (by rfl) (fun W hS => ?_) ?_
    rotate_left
    · skip
      refine gives_value (w := W) ⟨Below.refl _ _, hS⟩ ?_; go_simp; try with_reducible rfl
    simp only [List.setIfInBounds_toArray, List.set_cons_zero, List.set_cons_succ]
    refine extS_take (i := 6) (d := 99) (v := ?_) rfl rfl (by kernel_rfl) (by kernel_rfl) (by kernel_rfl) (fun _ _ _ h => h) (by rfl) (fun W hS => ?_) ?_
    rotate_left
    · skip
      refine gives_value (w := W) ⟨Below.refl _ _, hS⟩ ?_; go_simp; try with_reducible rfl
    simp only [List.setIfInBounds_toArray, List.set_cons_zero, List.set_cons_succ]
    refine extS_take (i := 7) (d := 100) (v := ?_) rfl rfl (by kernel_rfl) (by kernel_rfl) (by kernel_rfl) (fun _ _ _ h => h) (by rfl) (fun W hS => ?_) ?_
    rotate_left
    · skip
      refine gives_value (w := W) ⟨Below.refl _ _, hS⟩ ?_; go_simp; try with_reducible rfl
    simp only [List.setIfInBounds_toArray, List.set_cons_zero, List.set_cons_succ]
    refine extS_take (i := 8) (d := 101) (v := ?_) rfl rfl (by kernel_rfl) (by kernel_rfl) (by kernel_rfl) (fun _ _ _ h => h) (by rfl) (fun W hS => ?_) ?_
    rotate_left
    · skip
      refine gives_value (w := W) ⟨Below.refl _ _, hS⟩ ?_; go_simp; try with_reducible rfl
    simp only [List.setIfInBounds_toArray, List.set_cons_zero, List.set_cons_succ]
    refine extS_take (i := 9) (d := 102) (v := ?_) rfl rfl (by kernel_rfl) (by kernel_rfl) (by kernel_rfl) (fun _ _ _ h => h) (by rfl) (fun W hS => ?_) ?_
    rotate_left
    · skip
      refine gives_value (w := W) ⟨Below.refl _ _, hS⟩ ?_; go_simp; try with_reducible rfl
    simp only [List.setIfInBounds_toArray, List.set_cons_zero, List.set_cons_succ]
    refine extS_take (i := 10) (d := 103) (v := ?_) rfl rfl (by kernel_rfl) (by kernel_rfl) (by kernel_rfl) (fun _ _ _ h => h) (by rfl) (fun W hS => ?_) ?_
    rotate_left
    · skip
      refine gives_value (w := W) ⟨Below.refl _ _, hS⟩ ?_; go_simp; try with_reducible rfl
    simp only [List.setIfInBounds_toArray, List.set_cons_zero, List.set_cons_succ]
    refine extS_take (i := 11) (d := 104) (v := ?_) rfl rfl (by kernel_rfl) (by kernel_rfl) (by kernel_rfl) (fun _ _ _ h => h) (by rfl) (fun W hS => ?_) ?_
    rotate_left
    · skip
      go_simp; rw [HEV.out]; refine Gives.enter ((num_any bad W).mono ?_); rintro e wn ⟨rfl, rfl⟩; refine ⟨?_, Below.refl _ _, hS⟩; with_reducible rfl
    simp only [List.setIfInBounds_toArray, List.set_cons_zero, List.set_cons_succ]
    refine extS_take (i := 12) (d := 105) (v := ?_) rfl rfl (by kernel_rfl) (by kernel_rfl) (by kernel_rfl) (fun _ _ _ h => h) (by rfl) (fun W hS => ?_) ?_
    rotate_left
    · skip
      refine gives_value (w := W) ⟨Below.refl _ _, hS⟩ ?_; go_simp; try with_reducible rfl
    simp only [List.setIfInBounds_toArray, List.set_cons_zero, List.set_cons_succ]
    refine extS_take (i := 13) (d := 106) (v := ?_) rfl rfl (by kernel_rfl) (by kernel_rfl) (by kernel_rfl) (fun _ _ _ h => h) (by rfl) (fun W hS => ?_) ?_
    rotate_left
    · skip
      refine gives_value (w := W) ⟨Below.refl _ _, hS⟩ ?_; go_simp; try with_reducible rfl
    simp only [List.setIfInBounds_toArray, List.set_cons_zero, List.set_cons_succ]
    refine extS_take (i := 14) (d := 107) (v := ?_) rfl rfl (by kernel_rfl) (by kernel_rfl) (by kernel_rfl) (fun _ _ _ h => h) (by rfl) (fun W hS => ?_) ?_
    rotate_left
    · skip
      refine gives_value (w := W) ⟨Below.refl _ _, hS⟩ ?_; go_simp; try with_reducible rfl
    simp only [List.setIfInBounds_toArray, List.set_cons_zero, List.set_cons_succ]
    refine extS_done (by kernel_rfl) (fun u3 hb3 hS3 => ?_) _
    have HX3 := Lib.hid ((hS3.block _ (Array.getElem?_eq_some_iff.1 HX2.out).1).trans HX2.out)
    have HV3 := Lib.hid ((hS3.block _ (Array.getElem?_eq_some_iff.1 HV2.out).1).trans HV2.out)
    have HA3 := Lib.hid (HA2.out.new hS3)
    have HP3 := Lib.hid (HP2.out.new hS3)
    have HB3 := Lib.hid (HB2.out.trans (hS3.mono HB2.out.size))
    clear hb3 hS3 HX2 HV2 HQ112 HQ132 HA2 HL2 HB2 HP2 HNE
    by_cases hb0 : bad = 0
    · subst hb0
      have hck : chk ka da.length = 0 := HBAD.out.symm
      have hout : out = [9] ++ cbytes (ka.toNat, da) := by rw [HOUT.out, if_pos rfl]
      have HOUT2 := Lib.hid hout
      have HCK := Lib.hid hck
      clear hout hck HOUT
      obtain ⟨v0, v1, _, _⟩ := blk2 HV3.out
      go_wp2_with fail
      refine (copy_any ka _ da u3 HA3.out (by have := HLA.out; omega)).mono ?_
      rintro e u4 ⟨vc, rfl, hoc, hbc⟩
      obtain ⟨aoc, capc, rfl, _, _, _⟩ := hoc.reads.val
      have HX4c := Lib.hid ((hbc.block _ (Array.getElem?_eq_some_iff.1 HX3.out).1).trans HX3.out)
      have HV4c := Lib.hid ((hbc.block _ (Array.getElem?_eq_some_iff.1 HV3.out).1).trans HV3.out)
      have HA4c := Lib.hid (HA3.out.new hbc)
      have HP4c := Lib.hid (HP3.out.new hbc)
      have HB4c := Lib.hid (HB3.out.trans (hbc.mono HB3.out.size))
      have HOC := Lib.hid hoc
      have HBC := Lib.hid hbc
      obtain ⟨U5, hU5⟩ : ∃ U5, U5 = u4.alloc (.cells #[.int .i64 ka, .slice aoc da.length capc] 24) := ⟨_, rfl⟩
      have hal : Below u4.heap.size u4 U5 := by rw [hU5]; exact (Below.refl _ _).alloc (Nat.le_refl _) _
      have hbx : U5.heap[u4.heap.size]? = some (.cells #[.int .i64 ka, .slice aoc da.length capc] 24 (0, 0)) := by rw [hU5]; exact heap_alloc_new _ _
      have HOC5 := Lib.hid (HOC.out.below hal (Nat.le_refl _))
      have HBC5 := Lib.hid (HBC.out.trans (hal.mono HBC.out.size))
      have HBX := Lib.hid hbx
      have HSZ4 : Hid (u3.heap.size ≤ u4.heap.size) := Lib.hid HBC.out.size
      rw [hU5] at HOC5 HBC5 HBX
      have hbx2 := HBX.out
      obtain ⟨q0, q1, _, _⟩ := blk2 hbx2
      clear hbx2 hal hbx hU5 hoc hbc HX4c HV4c HA4c HP4c HB4c HOC HBC v0 v1
      go_wp2
      clear q0 q1
      go_loopw [18, 118] (fun _ i wr => ∃ (j : Nat) (l' : List Nat), j ≤ da.length ∧ i = .int .i64 (j : Int) ∧ l'.length = da.length ∧ Owns wr u3.heap.size 5 .u8 (.slice aoc da.length capc) l' ∧ wr.heap[u4.heap.size]? = some (.cells #[.int .i64 ka, .slice aoc da.length capc] 24 (0, 0)) ∧ Below u3.heap.size u3 wr)
        (fun _ i _ => da.length - (intOf i).toNat)
      case atStart => exact ⟨0, da, Nat.zero_le _, rfl, rfl, HOC5.out, HBX.out, HBC5.out⟩
      case round =>
        clear HOC5 HBX HBC5
        obtain ⟨j, l', hj, rfl, hll, hown, hbx, hbw⟩ := hrel
        have HOW := Lib.hid hown
        have HBX := Lib.hid hbx
        have HBW := Lib.hid hbw
        have HLL := Lib.hid hll
        clear hown hbx hbw hll
        obtain ⟨q0, q1, _, _⟩ := blk2 HBX.out
        by_cases hlt : j < da.length
        · have hlti : (j : Int) < (da.length : Int) := by omega
          rcases HOW.out.form with ⟨_, h0⟩ | ⟨g, cap, hv, _, _, _⟩
          · have := HLL.out; rw [h0] at this; simp at this; omega
          · obtain ⟨rfl, rfl⟩ : aoc = some ⟨g, 0, none⟩ ∧ capc = cap := by simp only [Value.slice.injEq] at hv; exact ⟨hv.1, hv.2.2⟩
            have hla := HLA.out
            have c0 := HOW.out.cellY HLL.out.symm (i := j) (by have := HLL.out; omega)
            have f0 := HOW.out.freeY HLL.out.symm j
            have hgb : u3.heap.size ≤ g := (HOW.out.lt g rfl).1
            have hgne : g ≠ u4.heap.size := by
              intro he
              subst he
              rcases HOW.out.2 with ⟨hn, _⟩ | ⟨g', cap', cur, hv', _, hg', _⟩
              · cases hn
              · have hg2 : g' = u4.heap.size := by
                  have := congrArg Value.ownBlock hv'
                  simpa [Value.ownBlock] using this.symm
                rw [hg2] at hg'
                have hcon := HBX.out.symm.trans hg'
                cases hcon
            generalize l'.getD j 0 = x at c0
            have hx : IntKind.u8.wrap ((x : Int) + 1) = (((x + 1) % 256 : Nat) : Int) := by rw [IntKind.wrap_u8]; omega
            have HNW := Lib.hid (HOW.out.setY HLL.out.symm j ((x + 1) % 256))
            have HBN : Hid ((wr.setCell ⟨g, j, none⟩ (.int .u8 (((x + 1) % 256 : Nat) : Int))).heap[u4.heap.size]? = some (.cells #[.int .i64 ka, .slice (some ⟨g, 0, none⟩) da.length capc] 24 (0, 0))) := Lib.hid (by
              rw [heap_setCell_other _ _ _ _ (by simp; exact fun e => hgne e.symm)]; exact HBX.out)
            have HBB := Lib.hid (HBW.out.setCell (p := ⟨g, j, none⟩) hgb (.int .u8 (((x + 1) % 256 : Nat) : Int)))
            have HL2 : Hid ((l'.set j ((x + 1) % 256)).length = da.length) := Lib.hid (by rw [List.length_set]; exact HLL.out)
            clear hv
            generalize (x + 1) % 256 = y at hx HNW HBN HBB HL2
            go_wp2
            go_roundw
            case rel => exact ⟨j + 1, l'.set j y, by omega, by go_num, HL2.out, HNW.out, HBN.out, HBB.out⟩
            case measure => simp [intOf]; omega
        · obtain rfl : j = da.length := by omega
          obtain ⟨u6, hu6⟩ : ∃ u6, u6 = wr := ⟨_, rfl⟩
          rw [← hu6] at HBW ⊢
          clear hu6 HOW HBX HLL q0 q1
          have HX6c := Lib.hid ((HBW.out.block _ (Array.getElem?_eq_some_iff.1 HX3.out).1).trans HX3.out)
          have HV6c := Lib.hid ((HBW.out.block _ (Array.getElem?_eq_some_iff.1 HV3.out).1).trans HV3.out)
          have HA6c := Lib.hid (HA3.out.new HBW.out)
          have HP6 := Lib.hid (HP3.out.new HBW.out)
          have HB6c := Lib.hid (HB3.out.trans (HBW.out.mono HB3.out.size))
          clear HX3 HV3 HA3 HP3 HB3 HBW
          have hk0 : 0 ≤ ka := (chk_zero HCK.out).1
          have hk3 : ka ≤ 3 := (chk_zero HCK.out).2.1
          have hd64 : da.length ≤ 64 := (chk_zero HCK.out).2.2.1
          have hok : okC (ka.toNat, da) := okC_toCC (c := (ka, da)) HCK.out H8A.out
          have HRC : Hid (∀ W, Calls Try.prog 23 #[.agg #[.int .i64 ka, .string (S8 da)]] W fun e w' => ∃ v', e = .returned v' ∧ Owns w' W.heap.size 5 .u8 v' (cbytes (ka.toNat, da)) ∧ Below W.heap.size W w') := Lib.hid (fun W => by
            have := rcbytes_any ka.toNat da W (by omega) H8A.out (by omega)
            rwa [Int.toNat_of_nonneg hk0] at this)
          have HC8 : Hid (∀ y ∈ [9] ++ cbytes (ka.toNat, da), y < 256) := Lib.hid (app_byte (by simp) (cbytes_byte hok))
          have HCL : Hid ((cbytes (ka.toNat, da)).length ≤ 100) := Lib.hid (cbytes_len hok)
          have HEE : Hid (∀ W, (binOp .eql 29 (.agg #[.int .i64 ka, .string (S8 da)]) (.agg #[.int .i64 ka, .string (S8 da)])).run Try.prog W = .ok (.bool true) W) := Lib.hid (fun W => by rw [eql_cellsC ka ka da da H8A.out H8A.out W, same_refl])
          clear hk0 hk3 hd64 hok
          go_wp2_with fail
          refine wp_region_extS (fun W => Below u6.heap.size u6 W) (Below.refl _ _).drew HMX.out ?_
          refine extS_take (i := 0) (d := 129) (v := ?_) rfl rfl (by kernel_rfl) (by kernel_rfl) (by kernel_rfl) (fun _ _ _ h => h) (by rfl) (fun W hS => ?_) ?_
          rotate_left
          · skip
            refine gives_value (w := W) ⟨Below.refl _ _, hS⟩ ?_; go_simp; try with_reducible rfl
          simp only [List.setIfInBounds_toArray, List.set_cons_zero, List.set_cons_succ]
          refine extS_take (i := 2) (d := 131) (v := ?_) rfl rfl (by kernel_rfl) (by kernel_rfl) (by kernel_rfl) (fun _ _ _ h => h) (by rfl) (fun W hS => ?_) ?_
          rotate_left
          · skip
            (refine load_gives 29 (.tmp 7) ?_ g7 ?_ _ #[.int .i64 ka, .string (S8 da)] (0, 0) _ ((hS.block _ (Array.getElem?_eq_some_iff.1 HX6c.out).1).trans HX6c.out) Try.underlying29 rfl hinfoD ?_ <;> first | rfl | exact ⟨Below.refl _ _, hS⟩)
          simp only [List.setIfInBounds_toArray, List.set_cons_zero, List.set_cons_succ]
          refine extS_two (i := 1) (j := 3) (by kernel_rfl) rfl rfl (fun w1z hb1z hS1z => ?_) (fun w1z hb1z hS1z => ?_)
          · intro K hK
            go_simp
            have HO9x := Lib.hid (owns_one8 w1z u6.heap.size 5 9 hS1z.size)
            refine hK _ _ (hS1z.alloc hS1z.size _) ?_
            generalize w1z.alloc (.cells #[.int .u8 9] 5) = wy1 at HO9x ⊢
            clear hK K
            try simp only [List.setIfInBounds_toArray, List.set_cons_zero, List.set_cons_succ]
            refine extS_one (i := 3) (by kernel_rfl) rfl (fun w2z hb2z hS2z => ?_)
            have HO9y := Lib.hid (HO9x.out.below hb2z (Nat.le_refl _))
            intro K hK
            go_simp
            refine (HRC.out w2z).mono ?_
            rintro e w3z ⟨vb, rfl, hob, hbb⟩
            have HO9 := Lib.hid (HO9y.out.below hbb (Nat.le_refl _))
            have HVB := Lib.hid hob.reads
            obtain ⟨aob, capb, rfl, _, _, _⟩ := hob.reads.val
            refine hK _ _ (hS2z.trans (hbb.mono hS2z.size)) ?_
            clear hK K hob hbb HO9x HO9y hb2z hS2z hb1z hS1z
            try simp only [List.setIfInBounds_toArray, List.set_cons_zero, List.set_cons_succ]
            refine extS_one (i := 4) (by kernel_rfl) rfl (fun wa hba hSa => ?_)
            have HO9a := Lib.hid (HO9.out.below hba (Nat.le_refl _))
            have HVBa := Lib.hid (HVB.out.new hba)
            intro K hK
            refine step_app_reads rfl (.tmp 130) (.tmp 132) 22 rfl u6.heap.size 5 (.int .u8 0) 1 Try.underlying22 Try.info5 rfl .u8 _ [9] rfl HO9a.out _ (cbytes (ka.toNat, da)) rfl HVBa.out (by decide) (by have := HCL.out; simp only [List.length_cons, List.length_nil]; omega) hSa.size (fun vq wq hoq hgq => ?_)
            have hSq : Below u6.heap.size u6 wq := hSa.grown hgq hSa.size (fun j hj => (HO9a.out.lt j hj).1)
            have HOQ := Lib.hid hoq.reads
            refine hK _ _ hSq ?_
            clear hK K hgq hoq HO9a HVBa HO9 HVB hba hSa
            try simp only [List.setIfInBounds_toArray, List.set_cons_zero, List.set_cons_succ]
            refine extS_one (i := 5) (by kernel_rfl) rfl (fun wb hbb hSb => ?_)
            have HOQb := Lib.hid (HOQ.out.new hbb)
            intro K hK
            go_simp
            refine (numBytes_any _ _ out ([9] ++ cbytes (ka.toNat, da)) wb (HP6.out.new hSb) HOQb.out (by rw [HOUT2.out]; exact HC8.out) HC8.out).mono ?_
            rintro e wn ⟨rfl, rfl⟩
            rw [decide_eq_true HOUT2.out]
            refine hK _ _ hSb ?_
            clear hK K HOQb HOQ hSq hbb hSb
            try simp only [List.setIfInBounds_toArray, List.set_cons_zero, List.set_cons_succ]
            refine extS_take (i := 6) (d := 135) (v := ?_) rfl rfl (by kernel_rfl) (by kernel_rfl) (by kernel_rfl) (fun _ _ _ h => h) (by rfl) (fun W hS => ?_) ?_
            rotate_left
            · skip
              refine gives_value (w := W) ⟨Below.refl _ _, hS⟩ ?_; go_simp; try with_reducible rfl
            simp only [List.setIfInBounds_toArray, List.set_cons_zero, List.set_cons_succ]
            refine extS_take (i := 7) (d := 136) (v := ?_) rfl rfl (by kernel_rfl) (by kernel_rfl) (by kernel_rfl) (fun _ _ _ h => h) (by rfl) (fun W hS => ?_) ?_
            rotate_left
            · skip
              (refine load_gives 24 (.tmp 3) ?_ w.heap.size ?_ _ #[.int .i64 ka, .slice ao1 da.length cap1] (0, 0) _ ((hS.block _ (Array.getElem?_eq_some_iff.1 HV6c.out).1).trans HV6c.out) Try.underlying24 rfl hinfoC ?_ <;> first | rfl | exact ⟨Below.refl _ _, hS⟩)
            simp only [List.setIfInBounds_toArray, List.set_cons_zero, List.set_cons_succ]
            refine extS_take (i := 8) (d := 137) (v := ?_) rfl rfl (by kernel_rfl) (by kernel_rfl) (by kernel_rfl) (fun _ _ _ h => h) (by rfl) (fun W hS => ?_) ?_
            rotate_left
            · skip
              go_simp; refine Gives.enter ((document_any ka _ da W (HA6c.out.new hS)).mono ?_); rintro e wn ⟨rfl, hbn⟩; refine ⟨?_, hbn, Below.trans hS (hbn.mono hS.size)⟩; with_reducible rfl
            simp only [List.setIfInBounds_toArray, List.set_cons_zero, List.set_cons_succ]
            refine extS_take (i := 9) (d := 138) (v := ?_) rfl rfl (by kernel_rfl) (by kernel_rfl) (by kernel_rfl) (fun _ _ _ h => h) (by rfl) (fun W hS => ?_) ?_
            rotate_left
            · skip
              (refine load_gives 29 (.tmp 7) ?_ g7 ?_ _ #[.int .i64 ka, .string (S8 da)] (0, 0) _ ((hS.block _ (Array.getElem?_eq_some_iff.1 HX6c.out).1).trans HX6c.out) Try.underlying29 rfl hinfoD ?_ <;> first | rfl | exact ⟨Below.refl _ _, hS⟩)
            simp only [List.setIfInBounds_toArray, List.set_cons_zero, List.set_cons_succ]
            refine extS_take (i := 10) (d := 139) (v := ?_) rfl rfl (by kernel_rfl) (by kernel_rfl) (by kernel_rfl) (fun _ _ _ h => h) (by rfl) (fun W hS => ?_) ?_
            rotate_left
            · skip
              refine gives_value (w := W) ⟨Below.refl _ _, hS⟩ ?_; refine (exec_eqs rfl ?_ ?_ (by kernel_rfl) (HEE.out W)).trans ?_ <;> rfl
            simp only [List.setIfInBounds_toArray, List.set_cons_zero, List.set_cons_succ]
            refine extS_take (i := 11) (d := 140) (v := ?_) rfl rfl (by kernel_rfl) (by kernel_rfl) (by kernel_rfl) (fun _ _ _ h => h) (by rfl) (fun W hS => ?_) ?_
            rotate_left
            · skip
              refine gives_value (w := W) ⟨Below.refl _ _, hS⟩ ?_; go_simp; try with_reducible rfl
            simp only [List.setIfInBounds_toArray, List.set_cons_zero, List.set_cons_succ]
            refine extS_take (i := 12) (d := 6) (v := ?_) rfl rfl (by kernel_rfl) (by kernel_rfl) (by kernel_rfl) (fun _ _ _ h => h) (by rfl) (fun W hS => ?_) ?_
            rotate_left
            · skip
              refine gives_value (w := W) ⟨Below.refl _ _, hS⟩ ?_; go_simp; try with_reducible rfl
            simp only [List.setIfInBounds_toArray, List.set_cons_zero, List.set_cons_succ]
            refine extS_done (by kernel_rfl) (fun uz hbz hSz => ?_) _
            go_wp2
            go_ret
            exact ⟨rfl, HB6c.out.trans (hSz.mono HB6c.out.size)⟩
          · intro K hK
            go_simp
            refine (HRC.out w1z).mono ?_
            rintro e w3z ⟨vb, rfl, hob, hbb⟩
            have HVBx := Lib.hid hob.reads
            obtain ⟨aob, capb, rfl, _, _, _⟩ := hob.reads.val
            refine hK _ _ (hS1z.trans (hbb.mono hS1z.size)) ?_
            clear hK K hob hbb hb1z hS1z
            try simp only [List.setIfInBounds_toArray, List.set_cons_zero, List.set_cons_succ]
            refine extS_one (i := 1) (by kernel_rfl) rfl (fun w2z hb2z hS2z => ?_)
            have HVB2 := Lib.hid ((HVBx.out.new hb2z).new ((Below.refl _ _).alloc (Nat.le_refl _) (.cells #[.int .u8 9] 5)))
            intro K hK
            go_simp
            have HO9 := Lib.hid (owns_one8 w2z u6.heap.size 5 9 hS2z.size)
            have HVB := HVB2
            refine hK _ _ (hS2z.alloc hS2z.size _) ?_
            generalize w2z.alloc (.cells #[.int .u8 9] 5) = wy1 at HO9 HVB ⊢
            clear hK K HVBx HVB2 hb2z hS2z
            try simp only [List.setIfInBounds_toArray, List.set_cons_zero, List.set_cons_succ]
            refine extS_one (i := 4) (by kernel_rfl) rfl (fun wa hba hSa => ?_)
            have HO9a := Lib.hid (HO9.out.below hba (Nat.le_refl _))
            have HVBa := Lib.hid (HVB.out.new hba)
            intro K hK
            refine step_app_reads rfl (.tmp 130) (.tmp 132) 22 rfl u6.heap.size 5 (.int .u8 0) 1 Try.underlying22 Try.info5 rfl .u8 _ [9] rfl HO9a.out _ (cbytes (ka.toNat, da)) rfl HVBa.out (by decide) (by have := HCL.out; simp only [List.length_cons, List.length_nil]; omega) hSa.size (fun vq wq hoq hgq => ?_)
            have hSq : Below u6.heap.size u6 wq := hSa.grown hgq hSa.size (fun j hj => (HO9a.out.lt j hj).1)
            have HOQ := Lib.hid hoq.reads
            refine hK _ _ hSq ?_
            clear hK K hgq hoq HO9a HVBa HO9 HVB hba hSa
            try simp only [List.setIfInBounds_toArray, List.set_cons_zero, List.set_cons_succ]
            refine extS_one (i := 5) (by kernel_rfl) rfl (fun wb hbb hSb => ?_)
            have HOQb := Lib.hid (HOQ.out.new hbb)
            intro K hK
            go_simp
            refine (numBytes_any _ _ out ([9] ++ cbytes (ka.toNat, da)) wb (HP6.out.new hSb) HOQb.out (by rw [HOUT2.out]; exact HC8.out) HC8.out).mono ?_
            rintro e wn ⟨rfl, rfl⟩
            rw [decide_eq_true HOUT2.out]
            refine hK _ _ hSb ?_
            clear hK K HOQb HOQ hSq hbb hSb
            try simp only [List.setIfInBounds_toArray, List.set_cons_zero, List.set_cons_succ]
            refine extS_take (i := 6) (d := 135) (v := ?_) rfl rfl (by kernel_rfl) (by kernel_rfl) (by kernel_rfl) (fun _ _ _ h => h) (by rfl) (fun W hS => ?_) ?_
            rotate_left
            · skip
              refine gives_value (w := W) ⟨Below.refl _ _, hS⟩ ?_; go_simp; try with_reducible rfl
            simp only [List.setIfInBounds_toArray, List.set_cons_zero, List.set_cons_succ]
            refine extS_take (i := 7) (d := 136) (v := ?_) rfl rfl (by kernel_rfl) (by kernel_rfl) (by kernel_rfl) (fun _ _ _ h => h) (by rfl) (fun W hS => ?_) ?_
            rotate_left
            · skip
              (refine load_gives 24 (.tmp 3) ?_ w.heap.size ?_ _ #[.int .i64 ka, .slice ao1 da.length cap1] (0, 0) _ ((hS.block _ (Array.getElem?_eq_some_iff.1 HV6c.out).1).trans HV6c.out) Try.underlying24 rfl hinfoC ?_ <;> first | rfl | exact ⟨Below.refl _ _, hS⟩)
            simp only [List.setIfInBounds_toArray, List.set_cons_zero, List.set_cons_succ]
            refine extS_take (i := 8) (d := 137) (v := ?_) rfl rfl (by kernel_rfl) (by kernel_rfl) (by kernel_rfl) (fun _ _ _ h => h) (by rfl) (fun W hS => ?_) ?_
            rotate_left
            · skip
              go_simp; refine Gives.enter ((document_any ka _ da W (HA6c.out.new hS)).mono ?_); rintro e wn ⟨rfl, hbn⟩; refine ⟨?_, hbn, Below.trans hS (hbn.mono hS.size)⟩; with_reducible rfl
            simp only [List.setIfInBounds_toArray, List.set_cons_zero, List.set_cons_succ]
            refine extS_take (i := 9) (d := 138) (v := ?_) rfl rfl (by kernel_rfl) (by kernel_rfl) (by kernel_rfl) (fun _ _ _ h => h) (by rfl) (fun W hS => ?_) ?_
            rotate_left
            · skip
              (refine load_gives 29 (.tmp 7) ?_ g7 ?_ _ #[.int .i64 ka, .string (S8 da)] (0, 0) _ ((hS.block _ (Array.getElem?_eq_some_iff.1 HX6c.out).1).trans HX6c.out) Try.underlying29 rfl hinfoD ?_ <;> first | rfl | exact ⟨Below.refl _ _, hS⟩)
            simp only [List.setIfInBounds_toArray, List.set_cons_zero, List.set_cons_succ]
            refine extS_take (i := 10) (d := 139) (v := ?_) rfl rfl (by kernel_rfl) (by kernel_rfl) (by kernel_rfl) (fun _ _ _ h => h) (by rfl) (fun W hS => ?_) ?_
            rotate_left
            · skip
              refine gives_value (w := W) ⟨Below.refl _ _, hS⟩ ?_; refine (exec_eqs rfl ?_ ?_ (by kernel_rfl) (HEE.out W)).trans ?_ <;> rfl
            simp only [List.setIfInBounds_toArray, List.set_cons_zero, List.set_cons_succ]
            refine extS_take (i := 11) (d := 140) (v := ?_) rfl rfl (by kernel_rfl) (by kernel_rfl) (by kernel_rfl) (fun _ _ _ h => h) (by rfl) (fun W hS => ?_) ?_
            rotate_left
            · skip
              refine gives_value (w := W) ⟨Below.refl _ _, hS⟩ ?_; go_simp; try with_reducible rfl
            simp only [List.setIfInBounds_toArray, List.set_cons_zero, List.set_cons_succ]
            refine extS_take (i := 12) (d := 6) (v := ?_) rfl rfl (by kernel_rfl) (by kernel_rfl) (by kernel_rfl) (fun _ _ _ h => h) (by rfl) (fun W hS => ?_) ?_
            rotate_left
            · skip
              refine gives_value (w := W) ⟨Below.refl _ _, hS⟩ ?_; go_simp; try with_reducible rfl
            simp only [List.setIfInBounds_toArray, List.set_cons_zero, List.set_cons_succ]
            refine extS_done (by kernel_rfl) (fun uz hbz hSz => ?_) _
            go_wp2
            go_ret
            exact ⟨rfl, HB6c.out.trans (hSz.mono HB6c.out.size)⟩
    · have hbn : ((bad : Int) != 0) = true := by rw [bne_iff_ne]; omega
      have hout : out = [] := by rw [HOUT.out, if_neg hb0]
      subst hout
      clear hb0
      go_wp2
      go_ret
      exact ⟨rfl, HB3.out⟩


end Go.Proofs.Ytdaeplhoonmipaa
