/- CellOrder, walked. -/
import Derived.Test.YtdaeplhoonmipaaCelL
import Derived.Test.YtdaeplhoonmipaaExtA
namespace Go.Proofs.Ytdaeplhoonmipaa
open Go.RowKit

theorem Try.infoCell : (Try.prog.info? 24).map (·.size) = some 2 := by kernel_rfl

set_option maxHeartbeats 4000000 in
set_option maxRecDepth 100000 in
theorem order_walk (ka kb kc : Int) (va vb vc : Value) (da db dc : List Nat) (w : World) (ha : Reads w .u8 va da) (hb : Reads w .u8 vb db) (hc : Reads w .u8 vc dc) (h8a : ∀ y ∈ da, y < 256) (h8b : ∀ y ∈ db, y < 256) (h8c : ∀ y ∈ dc, y < 256) :
    Calls Try.prog 7 #[.agg #[.int .i64 ka, va], .agg #[.int .i64 kb, vb], .agg #[.int .i64 kc, vc]] w fun e w' => e = .returned (.bool true) ∧ Below w.heap.size w w' := by
  obtain ⟨ao1, cap1, rfl, _, _, _⟩ := ha.val
  obtain ⟨ao2, cap2, rfl, _, _, _⟩ := hb.val
  obtain ⟨ao3, cap3, rfl, _, _, _⟩ := hc.val
  obtain ⟨hb0, hx1, hx2, hx3⟩ := three_boxes w (.slice ao1 da.length cap1) (.slice ao2 db.length cap2) (.slice ao3 dc.length cap3) ka kb kc
  obtain ⟨W0, hW0⟩ : ∃ W0, W0 = ((w.alloc (.cells #[.int .i64 ka, .slice ao1 da.length cap1] 24)).alloc (.cells #[.int .i64 kb, .slice ao2 db.length cap2] 24)).alloc (.cells #[.int .i64 kc, .slice ao3 dc.length cap3] 24) := ⟨_, rfl⟩
  rw [← hW0] at hb0 hx1 hx2 hx3
  have HA := Lib.hid (ha.new hb0)
  have HB := Lib.hid (hb.new hb0)
  have HC := Lib.hid (hc.new hb0)
  have H8A := Lib.hid h8a
  have H8B := Lib.hid h8b
  have H8C := Lib.hid h8c
  have HB0 := Lib.hid hb0
  have HX1 := Lib.hid hx1
  have HX2 := Lib.hid hx2
  have HX3 := Lib.hid hx3
  clear hx1 hx2 hx3 hb0 ha hb hc h8a h8b h8c
  go_enter Try.func7, Try.ntmps7
  go_wp2_with fail
  rw [← hW0]
  refine (alive5_any W0).mono ?_
  rintro e w1 ⟨rfl, hb1⟩
  have HB1 : Hid (Below w.heap.size w w1) := Lib.hid (HB0.out.trans (hb1.mono HB0.out.size))
  have HY1 := Lib.hid ((hb1.block _ (Array.getElem?_eq_some_iff.1 HX1.out).1).trans HX1.out)
  have HY2 := Lib.hid ((hb1.block _ (Array.getElem?_eq_some_iff.1 HX2.out).1).trans HX2.out)
  have HY3 := Lib.hid ((hb1.block _ (Array.getElem?_eq_some_iff.1 HX3.out).1).trans HX3.out)
  have HA1 := Lib.hid (HA.out.new hb1)
  have HB1r := Lib.hid (HB.out.new hb1)
  have HC1 := Lib.hid (HC.out.new hb1)
  clear hb1 HX1 HX2 HX3 HB0 HA HB HC hW0
  obtain ⟨a0, a1, _, _⟩ := blk2 HY1.out
  obtain ⟨b0, b1, _, _⟩ := blk2 HY2.out
  obtain ⟨c0, c1, _, _⟩ := blk2 HY3.out
  have hcl : CellsAt _ (fun _ => True) (.slice (some ⟨w1.heap.size, 0, none⟩) 3 3) [(ka, da), (kb, db), (kc, dc)] := cells_lit w1 24 [(ka, .slice ao1 da.length cap1, da), (kb, .slice ao2 db.length cap2, db), (kc, .slice ao3 dc.length cap3, dc)] _ rfl (by intro x hx; simp only [List.mem_cons, List.not_mem_nil, or_false] at hx; rcases hx with rfl | rfl | rfl <;> first | exact HA1.out | exact HB1r.out | exact HC1.out) (by simp)
  have HCL := Lib.hid hcl
  clear hcl
  have hal : Below w1.heap.size w1 (w1.alloc (.cells (List.flatMap (fun x : Int × Value × List Nat => [Value.int .i64 x.1, x.2.1]) [(ka, .slice ao1 da.length cap1, da), (kb, .slice ao2 db.length cap2, db), (kc, .slice ao3 dc.length cap3, dc)]).toArray 24)) := (Below.refl _ _).alloc (Nat.le_refl _) _
  have HAL := Lib.hid hal
  clear hal
  go_wp2_with fail
  refine (long_any _ _ 3 _ _ HCL.out (by simp)).mono ?_
  rintro e w2 ⟨rfl, hb2⟩
  have hb12 := HAL.out.trans (hb2.mono HAL.out.size)
  have HB2 : Hid (Below w.heap.size w w2) := Lib.hid (HB1.out.trans (hb12.mono HB1.out.size))
  have HZ1 := Lib.hid ((hb12.block _ (Array.getElem?_eq_some_iff.1 HY1.out).1).trans HY1.out)
  have HZ2 := Lib.hid ((hb12.block _ (Array.getElem?_eq_some_iff.1 HY2.out).1).trans HY2.out)
  have HZ3 := Lib.hid ((hb12.block _ (Array.getElem?_eq_some_iff.1 HY3.out).1).trans HY3.out)
  have HA2 := Lib.hid (HA1.out.new hb12)
  have HB2r := Lib.hid (HB1r.out.new hb12)
  have HC2 := Lib.hid (HC1.out.new hb12)
  clear hb2 hb12 HB1 HY1 HY2 HY3 HA1 HB1r HC1 a0 a1 b0 b1 c0 c1 HCL HAL
  cases hlong : longB [(ka, da), (kb, db), (kc, dc)] 3
  rotate_left
  · go_wp2
    go_ret
    exact ⟨rfl, HB2.out⟩
  obtain ⟨la, lb, lc⟩ : da.length ≤ 100 ∧ db.length ≤ 100 ∧ dc.length ≤ 100 := by
    simp only [longB, List.any_cons, List.any_nil, Bool.or_false, Bool.or_eq_false_iff, decide_eq_false_iff_not] at hlong
    omega
  have HLA := Lib.hid la
  have HLB := Lib.hid lb
  have HLC := Lib.hid lc
  clear la lb lc hlong
  have hinfoC := Try.infoCell
  have hmx : Try.prog.follows .mixedOrders = true := by kernel_rfl
  have HMX := Lib.hid hmx
  clear hmx
  have hkey : ∃ mab mbc mac mba msm maa : Bool, ∃ cv : Value, mayC ka da kb db = mab ∧ mayC kb db kc dc = mbc ∧ mayC ka da kc dc = mac ∧ mayC kb db ka da = mba ∧ sameC ka da kb db = msm ∧ mayC ka da ka da = maa ∧ errV (chk ka da.length) = cv ∧
      ((mab = false ∧ maa = false ∧ cv = .iface 72 (.int .i64 (chk ka da.length : Int))) ∨ (mab = false ∧ maa = true ∧ cv = .nilIface) ∨ (mab = true ∧ mbc = true ∧ mac = true ∧ mba = true ∧ msm = true ∧ maa = true ∧ cv = .nilIface) ∨
       (mab = true ∧ mbc = false ∧ mba = true ∧ msm = true ∧ maa = true ∧ cv = .nilIface) ∨ (mab = true ∧ mbc = true ∧ mac = true ∧ mba = false ∧ maa = true ∧ cv = .nilIface) ∨ (mab = true ∧ mbc = false ∧ mba = false ∧ maa = true ∧ cv = .nilIface)) := by
    refine ⟨_, _, _, _, _, _, _, rfl, rfl, rfl, rfl, rfl, rfl, rfl, ?_⟩
    rw [may_self (k := ka) (d := da)]
    by_cases hck : chk ka da.length = 0
    · rw [hck, errV_zero, decide_eq_true rfl]
      cases hab : mayC ka da kb db
      · simp
      · cases hbc : mayC kb db kc dc <;> cases hba : mayC kb db ka da
        · simp
        · simp [may_anti hab hba]
        · simp [may_trans hab hbc]
        · simp [may_trans hab hbc, may_anti hab hba]
    · left
      refine ⟨?_, by rw [decide_eq_false hck], errV_pos hck⟩
      cases hab : mayC ka da kb db
      · rfl
      · exact absurd (may_iff.1 hab).1 hck
  obtain ⟨mab, mbc, mac, mba, msm, maa, cv, hab, hbc, hac, hba, hsm, haa, hck, hkey⟩ := hkey
  have HAB := Lib.hid hab
  have HBC := Lib.hid hbc
  have HAC := Lib.hid hac
  have HBA := Lib.hid hba
  have HSM := Lib.hid hsm
  have HAA := Lib.hid haa
  have HCK := Lib.hid hck
  clear hab hbc hac hba hsm haa hck
  rcases hkey with ⟨rfl, rfl, rfl⟩ | ⟨rfl, rfl, rfl⟩ | ⟨rfl, rfl, rfl, rfl, rfl, rfl, rfl⟩ | ⟨rfl, rfl, rfl, rfl, rfl, rfl⟩ | ⟨rfl, rfl, rfl, rfl, rfl, rfl⟩ | ⟨rfl, rfl, rfl, rfl, rfl⟩
  · skip
    go_wp2_with fail
    refine wp_region_ext pre_below (Below.refl _ _).drew HMX.out ?_
    refine ext_take pre_below (i := 0) (d := 18) (v := ?_) rfl rfl (by kernel_rfl) (by kernel_rfl) (by kernel_rfl) (fun _ _ _ h => h) (by rfl) (fun W hS => ?_) ?_
    rotate_left
    · skip
      (refine load_gives 24 (.tmp 3) ?_ w.heap.size ?_ _ #[.int .i64 ka, .slice ao1 da.length cap1] (0, 0) _ ((hS.block _ (Array.getElem?_eq_some_iff.1 HZ1.out).1).trans HZ1.out) Try.underlying24 rfl hinfoC (Below.refl _ _) <;> rfl)
    simp only [List.setIfInBounds_toArray, List.set_cons_zero, List.set_cons_succ]
    refine ext_take pre_below (i := 1) (d := 19) (v := ?_) rfl rfl (by kernel_rfl) (by kernel_rfl) (by kernel_rfl) (fun _ _ _ h => h) (by rfl) (fun W hS => ?_) ?_
    rotate_left
    · skip
      (refine load_gives 24 (.tmp 4) ?_ (w.heap.size + 1) ?_ _ #[.int .i64 kb, .slice ao2 db.length cap2] (0, 0) _ ((hS.block _ (Array.getElem?_eq_some_iff.1 HZ2.out).1).trans HZ2.out) Try.underlying24 rfl hinfoC (Below.refl _ _) <;> rfl)
    simp only [List.setIfInBounds_toArray, List.set_cons_zero, List.set_cons_succ]
    refine ext_take pre_below (i := 2) (d := 20) (v := ?_) rfl rfl (by kernel_rfl) (by kernel_rfl) (by kernel_rfl) (fun _ _ _ h => h) (by rfl) (fun W hS => ?_) ?_
    rotate_left
    · skip
      go_simp; refine Gives.enter ((may_any ka kb _ _ da db W (HA2.out.new hS) (HB2r.out.new hS) H8A.out H8B.out).mono ?_); rintro e wn ⟨rfl, hbn⟩; rw [HAB.out]; refine ⟨?_, hbn⟩; with_reducible rfl
    simp only [List.setIfInBounds_toArray, List.set_cons_zero, List.set_cons_succ]
    refine ext_take pre_below (i := 3) (d := 21) (v := ?_) rfl rfl (by kernel_rfl) (by kernel_rfl) (by kernel_rfl) (fun _ _ _ h => h) (by rfl) (fun W hS => ?_) ?_
    rotate_left
    · skip
      refine gives_value (w := W) (by exact Below.refl _ _) ?_; go_simp; try with_reducible rfl
    simp only [List.setIfInBounds_toArray, List.set_cons_zero, List.set_cons_succ]
    first
      | (refine ext_skip pre_below (i := 4) (d := 22) rfl rfl (by kernel_rfl) (by kernel_rfl) (by kernel_rfl) (fun _ _ _ h => h) (by rfl) ?_)
      | (refine ext_take pre_below (i := 4) (d := 22) (v := ?_) rfl rfl (by kernel_rfl) (by kernel_rfl) (by kernel_rfl) (fun _ _ _ h => h) (by rfl) (fun W hS => ?_) ?_
         rotate_left
         · skip
           (refine load_gives 24 (.tmp 4) ?_ (w.heap.size + 1) ?_ _ #[.int .i64 kb, .slice ao2 db.length cap2] (0, 0) _ ((hS.block _ (Array.getElem?_eq_some_iff.1 HZ2.out).1).trans HZ2.out) Try.underlying24 rfl hinfoC (Below.refl _ _) <;> rfl))
    simp only [List.setIfInBounds_toArray, List.set_cons_zero, List.set_cons_succ]
    first
      | (refine ext_skip pre_below (i := 5) (d := 23) rfl rfl (by kernel_rfl) (by kernel_rfl) (by kernel_rfl) (fun _ _ _ h => h) (by rfl) ?_)
      | (refine ext_take pre_below (i := 5) (d := 23) (v := ?_) rfl rfl (by kernel_rfl) (by kernel_rfl) (by kernel_rfl) (fun _ _ _ h => h) (by rfl) (fun W hS => ?_) ?_
         rotate_left
         · skip
           (refine load_gives 24 (.tmp 5) ?_ (w.heap.size + 1 + 1) ?_ _ #[.int .i64 kc, .slice ao3 dc.length cap3] (0, 0) _ ((hS.block _ (Array.getElem?_eq_some_iff.1 HZ3.out).1).trans HZ3.out) Try.underlying24 rfl hinfoC (Below.refl _ _) <;> rfl))
    simp only [List.setIfInBounds_toArray, List.set_cons_zero, List.set_cons_succ]
    first
      | (refine ext_skip pre_below (i := 6) (d := 24) rfl rfl (by kernel_rfl) (by kernel_rfl) (by kernel_rfl) (fun _ _ _ h => h) (by rfl) ?_)
      | (refine ext_take pre_below (i := 6) (d := 24) (v := ?_) rfl rfl (by kernel_rfl) (by kernel_rfl) (by kernel_rfl) (fun _ _ _ h => h) (by rfl) (fun W hS => ?_) ?_
         rotate_left
         · skip
           go_simp; refine Gives.enter ((may_any kb kc _ _ db dc W (HB2r.out.new hS) (HC2.out.new hS) H8B.out H8C.out).mono ?_); rintro e wn ⟨rfl, hbn⟩; rw [HBC.out]; refine ⟨?_, hbn⟩; with_reducible rfl)
    simp only [List.setIfInBounds_toArray, List.set_cons_zero, List.set_cons_succ]
    refine ext_take pre_below (i := 7) (d := 25) (v := ?_) rfl rfl (by kernel_rfl) (by kernel_rfl) (by kernel_rfl) (fun _ _ _ h => h) (by rfl) (fun W hS => ?_) ?_
    rotate_left
    · skip
      refine gives_value (w := W) (by exact Below.refl _ _) ?_; go_simp; try with_reducible rfl
    simp only [List.setIfInBounds_toArray, List.set_cons_zero, List.set_cons_succ]
    refine ext_take pre_below (i := 8) (d := 26) (v := ?_) rfl rfl (by kernel_rfl) (by kernel_rfl) (by kernel_rfl) (fun _ _ _ h => h) (by rfl) (fun W hS => ?_) ?_
    rotate_left
    · skip
      refine gives_value (w := W) (by exact Below.refl _ _) ?_; go_simp; try with_reducible rfl
    simp only [List.setIfInBounds_toArray, List.set_cons_zero, List.set_cons_succ]
    first
      | (refine ext_skip pre_below (i := 9) (d := 27) rfl rfl (by kernel_rfl) (by kernel_rfl) (by kernel_rfl) (fun _ _ _ h => h) (by rfl) ?_)
      | (refine ext_take pre_below (i := 9) (d := 27) (v := ?_) rfl rfl (by kernel_rfl) (by kernel_rfl) (by kernel_rfl) (fun _ _ _ h => h) (by rfl) (fun W hS => ?_) ?_
         rotate_left
         · skip
           (refine load_gives 24 (.tmp 3) ?_ w.heap.size ?_ _ #[.int .i64 ka, .slice ao1 da.length cap1] (0, 0) _ ((hS.block _ (Array.getElem?_eq_some_iff.1 HZ1.out).1).trans HZ1.out) Try.underlying24 rfl hinfoC (Below.refl _ _) <;> rfl))
    simp only [List.setIfInBounds_toArray, List.set_cons_zero, List.set_cons_succ]
    first
      | (refine ext_skip pre_below (i := 10) (d := 28) rfl rfl (by kernel_rfl) (by kernel_rfl) (by kernel_rfl) (fun _ _ _ h => h) (by rfl) ?_)
      | (refine ext_take pre_below (i := 10) (d := 28) (v := ?_) rfl rfl (by kernel_rfl) (by kernel_rfl) (by kernel_rfl) (fun _ _ _ h => h) (by rfl) (fun W hS => ?_) ?_
         rotate_left
         · skip
           (refine load_gives 24 (.tmp 5) ?_ (w.heap.size + 1 + 1) ?_ _ #[.int .i64 kc, .slice ao3 dc.length cap3] (0, 0) _ ((hS.block _ (Array.getElem?_eq_some_iff.1 HZ3.out).1).trans HZ3.out) Try.underlying24 rfl hinfoC (Below.refl _ _) <;> rfl))
    simp only [List.setIfInBounds_toArray, List.set_cons_zero, List.set_cons_succ]
    first
      | (refine ext_skip pre_below (i := 11) (d := 29) rfl rfl (by kernel_rfl) (by kernel_rfl) (by kernel_rfl) (fun _ _ _ h => h) (by rfl) ?_)
      | (refine ext_take pre_below (i := 11) (d := 29) (v := ?_) rfl rfl (by kernel_rfl) (by kernel_rfl) (by kernel_rfl) (fun _ _ _ h => h) (by rfl) (fun W hS => ?_) ?_
         rotate_left
         · skip
           go_simp; refine Gives.enter ((may_any ka kc _ _ da dc W (HA2.out.new hS) (HC2.out.new hS) H8A.out H8C.out).mono ?_); rintro e wn ⟨rfl, hbn⟩; rw [HAC.out]; refine ⟨?_, hbn⟩; with_reducible rfl)
    simp only [List.setIfInBounds_toArray, List.set_cons_zero, List.set_cons_succ]
    first
      | (refine ext_skip pre_below (i := 12) (d := 30) rfl rfl (by kernel_rfl) (by kernel_rfl) (by kernel_rfl) (fun _ _ _ h => h) (by rfl) ?_)
      | (refine ext_take pre_below (i := 12) (d := 30) (v := ?_) rfl rfl (by kernel_rfl) (by kernel_rfl) (by kernel_rfl) (fun _ _ _ h => h) (by rfl) (fun W hS => ?_) ?_
         rotate_left
         · skip
           refine gives_value (w := W) (by exact Below.refl _ _) ?_; go_simp; try with_reducible rfl)
    simp only [List.setIfInBounds_toArray, List.set_cons_zero, List.set_cons_succ]
    refine ext_take pre_below (i := 13) (d := 31) (v := ?_) rfl rfl (by kernel_rfl) (by kernel_rfl) (by kernel_rfl) (fun _ _ _ h => h) (by rfl) (fun W hS => ?_) ?_
    rotate_left
    · skip
      refine gives_value (w := W) (by exact Below.refl _ _) ?_; go_simp; try with_reducible rfl
    simp only [List.setIfInBounds_toArray, List.set_cons_zero, List.set_cons_succ]
    refine ext_take pre_below (i := 14) (d := 32) (v := ?_) rfl rfl (by kernel_rfl) (by kernel_rfl) (by kernel_rfl) (fun _ _ _ h => h) (by rfl) (fun W hS => ?_) ?_
    rotate_left
    · skip
      refine gives_value (w := W) (by exact Below.refl _ _) ?_; go_simp; try with_reducible rfl
    simp only [List.setIfInBounds_toArray, List.set_cons_zero, List.set_cons_succ]
    first
      | (refine ext_skip pre_below (i := 15) (d := 33) rfl rfl (by kernel_rfl) (by kernel_rfl) (by kernel_rfl) (fun _ _ _ h => h) (by rfl) ?_)
      | (refine ext_take pre_below (i := 15) (d := 33) (v := ?_) rfl rfl (by kernel_rfl) (by kernel_rfl) (by kernel_rfl) (fun _ _ _ h => h) (by rfl) (fun W hS => ?_) ?_
         rotate_left
         · skip
           (refine load_gives 24 (.tmp 3) ?_ w.heap.size ?_ _ #[.int .i64 ka, .slice ao1 da.length cap1] (0, 0) _ ((hS.block _ (Array.getElem?_eq_some_iff.1 HZ1.out).1).trans HZ1.out) Try.underlying24 rfl hinfoC (Below.refl _ _) <;> rfl))
    simp only [List.setIfInBounds_toArray, List.set_cons_zero, List.set_cons_succ]
    first
      | (refine ext_skip pre_below (i := 16) (d := 34) rfl rfl (by kernel_rfl) (by kernel_rfl) (by kernel_rfl) (fun _ _ _ h => h) (by rfl) ?_)
      | (refine ext_take pre_below (i := 16) (d := 34) (v := ?_) rfl rfl (by kernel_rfl) (by kernel_rfl) (by kernel_rfl) (fun _ _ _ h => h) (by rfl) (fun W hS => ?_) ?_
         rotate_left
         · skip
           (refine load_gives 24 (.tmp 4) ?_ (w.heap.size + 1) ?_ _ #[.int .i64 kb, .slice ao2 db.length cap2] (0, 0) _ ((hS.block _ (Array.getElem?_eq_some_iff.1 HZ2.out).1).trans HZ2.out) Try.underlying24 rfl hinfoC (Below.refl _ _) <;> rfl))
    simp only [List.setIfInBounds_toArray, List.set_cons_zero, List.set_cons_succ]
    first
      | (refine ext_skip pre_below (i := 17) (d := 35) rfl rfl (by kernel_rfl) (by kernel_rfl) (by kernel_rfl) (fun _ _ _ h => h) (by rfl) ?_)
      | (refine ext_take pre_below (i := 17) (d := 35) (v := ?_) rfl rfl (by kernel_rfl) (by kernel_rfl) (by kernel_rfl) (fun _ _ _ h => h) (by rfl) (fun W hS => ?_) ?_
         rotate_left
         · skip
           go_simp; refine Gives.enter ((may_any ka kb _ _ da db W (HA2.out.new hS) (HB2r.out.new hS) H8A.out H8B.out).mono ?_); rintro e wn ⟨rfl, hbn⟩; rw [HAB.out]; refine ⟨?_, hbn⟩; with_reducible rfl)
    simp only [List.setIfInBounds_toArray, List.set_cons_zero, List.set_cons_succ]
    first
      | (refine ext_skip pre_below (i := 18) (d := 36) rfl rfl (by kernel_rfl) (by kernel_rfl) (by kernel_rfl) (fun _ _ _ h => h) (by rfl) ?_)
      | (refine ext_take pre_below (i := 18) (d := 36) (v := ?_) rfl rfl (by kernel_rfl) (by kernel_rfl) (by kernel_rfl) (fun _ _ _ h => h) (by rfl) (fun W hS => ?_) ?_
         rotate_left
         · skip
           refine gives_value (w := W) (by exact Below.refl _ _) ?_; go_simp; try with_reducible rfl)
    simp only [List.setIfInBounds_toArray, List.set_cons_zero, List.set_cons_succ]
    first
      | (refine ext_skip pre_below (i := 19) (d := 37) rfl rfl (by kernel_rfl) (by kernel_rfl) (by kernel_rfl) (fun _ _ _ h => h) (by rfl) ?_)
      | (refine ext_take pre_below (i := 19) (d := 37) (v := ?_) rfl rfl (by kernel_rfl) (by kernel_rfl) (by kernel_rfl) (fun _ _ _ h => h) (by rfl) (fun W hS => ?_) ?_
         rotate_left
         · skip
           (refine load_gives 24 (.tmp 4) ?_ (w.heap.size + 1) ?_ _ #[.int .i64 kb, .slice ao2 db.length cap2] (0, 0) _ ((hS.block _ (Array.getElem?_eq_some_iff.1 HZ2.out).1).trans HZ2.out) Try.underlying24 rfl hinfoC (Below.refl _ _) <;> rfl))
    simp only [List.setIfInBounds_toArray, List.set_cons_zero, List.set_cons_succ]
    first
      | (refine ext_skip pre_below (i := 20) (d := 38) rfl rfl (by kernel_rfl) (by kernel_rfl) (by kernel_rfl) (fun _ _ _ h => h) (by rfl) ?_)
      | (refine ext_take pre_below (i := 20) (d := 38) (v := ?_) rfl rfl (by kernel_rfl) (by kernel_rfl) (by kernel_rfl) (fun _ _ _ h => h) (by rfl) (fun W hS => ?_) ?_
         rotate_left
         · skip
           (refine load_gives 24 (.tmp 3) ?_ w.heap.size ?_ _ #[.int .i64 ka, .slice ao1 da.length cap1] (0, 0) _ ((hS.block _ (Array.getElem?_eq_some_iff.1 HZ1.out).1).trans HZ1.out) Try.underlying24 rfl hinfoC (Below.refl _ _) <;> rfl))
    simp only [List.setIfInBounds_toArray, List.set_cons_zero, List.set_cons_succ]
    first
      | (refine ext_skip pre_below (i := 21) (d := 39) rfl rfl (by kernel_rfl) (by kernel_rfl) (by kernel_rfl) (fun _ _ _ h => h) (by rfl) ?_)
      | (refine ext_take pre_below (i := 21) (d := 39) (v := ?_) rfl rfl (by kernel_rfl) (by kernel_rfl) (by kernel_rfl) (fun _ _ _ h => h) (by rfl) (fun W hS => ?_) ?_
         rotate_left
         · skip
           go_simp; refine Gives.enter ((may_any kb ka _ _ db da W (HB2r.out.new hS) (HA2.out.new hS) H8B.out H8A.out).mono ?_); rintro e wn ⟨rfl, hbn⟩; rw [HBA.out]; refine ⟨?_, hbn⟩; with_reducible rfl)
    simp only [List.setIfInBounds_toArray, List.set_cons_zero, List.set_cons_succ]
    first
      | (refine ext_skip pre_below (i := 22) (d := 40) rfl rfl (by kernel_rfl) (by kernel_rfl) (by kernel_rfl) (fun _ _ _ h => h) (by rfl) ?_)
      | (refine ext_take pre_below (i := 22) (d := 40) (v := ?_) rfl rfl (by kernel_rfl) (by kernel_rfl) (by kernel_rfl) (fun _ _ _ h => h) (by rfl) (fun W hS => ?_) ?_
         rotate_left
         · skip
           refine gives_value (w := W) (by exact Below.refl _ _) ?_; go_simp; try with_reducible rfl)
    simp only [List.setIfInBounds_toArray, List.set_cons_zero, List.set_cons_succ]
    first
      | (refine ext_skip pre_below (i := 23) (d := 41) rfl rfl (by kernel_rfl) (by kernel_rfl) (by kernel_rfl) (fun _ _ _ h => h) (by rfl) ?_)
      | (refine ext_take pre_below (i := 23) (d := 41) (v := ?_) rfl rfl (by kernel_rfl) (by kernel_rfl) (by kernel_rfl) (fun _ _ _ h => h) (by rfl) (fun W hS => ?_) ?_
         rotate_left
         · skip
           refine gives_value (w := W) (by exact Below.refl _ _) ?_; go_simp; try with_reducible rfl)
    simp only [List.setIfInBounds_toArray, List.set_cons_zero, List.set_cons_succ]
    first
      | (refine ext_skip pre_below (i := 24) (d := 42) rfl rfl (by kernel_rfl) (by kernel_rfl) (by kernel_rfl) (fun _ _ _ h => h) (by rfl) ?_)
      | (refine ext_take pre_below (i := 24) (d := 42) (v := ?_) rfl rfl (by kernel_rfl) (by kernel_rfl) (by kernel_rfl) (fun _ _ _ h => h) (by rfl) (fun W hS => ?_) ?_
         rotate_left
         · skip
           (refine load_gives 24 (.tmp 3) ?_ w.heap.size ?_ _ #[.int .i64 ka, .slice ao1 da.length cap1] (0, 0) _ ((hS.block _ (Array.getElem?_eq_some_iff.1 HZ1.out).1).trans HZ1.out) Try.underlying24 rfl hinfoC (Below.refl _ _) <;> rfl))
    simp only [List.setIfInBounds_toArray, List.set_cons_zero, List.set_cons_succ]
    first
      | (refine ext_skip pre_below (i := 25) (d := 43) rfl rfl (by kernel_rfl) (by kernel_rfl) (by kernel_rfl) (fun _ _ _ h => h) (by rfl) ?_)
      | (refine ext_take pre_below (i := 25) (d := 43) (v := ?_) rfl rfl (by kernel_rfl) (by kernel_rfl) (by kernel_rfl) (fun _ _ _ h => h) (by rfl) (fun W hS => ?_) ?_
         rotate_left
         · skip
           (refine load_gives 24 (.tmp 4) ?_ (w.heap.size + 1) ?_ _ #[.int .i64 kb, .slice ao2 db.length cap2] (0, 0) _ ((hS.block _ (Array.getElem?_eq_some_iff.1 HZ2.out).1).trans HZ2.out) Try.underlying24 rfl hinfoC (Below.refl _ _) <;> rfl))
    simp only [List.setIfInBounds_toArray, List.set_cons_zero, List.set_cons_succ]
    first
      | (refine ext_skip pre_below (i := 26) (d := 44) rfl rfl (by kernel_rfl) (by kernel_rfl) (by kernel_rfl) (fun _ _ _ h => h) (by rfl) ?_)
      | (refine ext_take pre_below (i := 26) (d := 44) (v := ?_) rfl rfl (by kernel_rfl) (by kernel_rfl) (by kernel_rfl) (fun _ _ _ h => h) (by rfl) (fun W hS => ?_) ?_
         rotate_left
         · skip
           go_simp; refine Gives.enter ((same_any ka kb _ _ da db W (HA2.out.new hS) (HB2r.out.new hS) H8A.out H8B.out).mono ?_); rintro e wn ⟨rfl, hbn⟩; rw [HSM.out]; refine ⟨?_, hbn⟩; with_reducible rfl)
    simp only [List.setIfInBounds_toArray, List.set_cons_zero, List.set_cons_succ]
    first
      | (refine ext_skip pre_below (i := 27) (d := 45) rfl rfl (by kernel_rfl) (by kernel_rfl) (by kernel_rfl) (fun _ _ _ h => h) (by rfl) ?_)
      | (refine ext_take pre_below (i := 27) (d := 45) (v := ?_) rfl rfl (by kernel_rfl) (by kernel_rfl) (by kernel_rfl) (fun _ _ _ h => h) (by rfl) (fun W hS => ?_) ?_
         rotate_left
         · skip
           refine gives_value (w := W) (by exact Below.refl _ _) ?_; go_simp; try with_reducible rfl)
    simp only [List.setIfInBounds_toArray, List.set_cons_zero, List.set_cons_succ]
    first
      | (refine ext_skip pre_below (i := 28) (d := 46) rfl rfl (by kernel_rfl) (by kernel_rfl) (by kernel_rfl) (fun _ _ _ h => h) (by rfl) ?_)
      | (refine ext_take pre_below (i := 28) (d := 46) (v := ?_) rfl rfl (by kernel_rfl) (by kernel_rfl) (by kernel_rfl) (fun _ _ _ h => h) (by rfl) (fun W hS => ?_) ?_
         rotate_left
         · skip
           refine gives_value (w := W) (by exact Below.refl _ _) ?_; go_simp; try with_reducible rfl)
    simp only [List.setIfInBounds_toArray, List.set_cons_zero, List.set_cons_succ]
    refine ext_take pre_below (i := 29) (d := 47) (v := ?_) rfl rfl (by kernel_rfl) (by kernel_rfl) (by kernel_rfl) (fun _ _ _ h => h) (by rfl) (fun W hS => ?_) ?_
    rotate_left
    · skip
      refine gives_value (w := W) (by exact Below.refl _ _) ?_; go_simp; try with_reducible rfl
    simp only [List.setIfInBounds_toArray, List.set_cons_zero, List.set_cons_succ]
    refine ext_take pre_below (i := 30) (d := 48) (v := ?_) rfl rfl (by kernel_rfl) (by kernel_rfl) (by kernel_rfl) (fun _ _ _ h => h) (by rfl) (fun W hS => ?_) ?_
    rotate_left
    · skip
      refine gives_value (w := W) (by exact Below.refl _ _) ?_; go_simp; try with_reducible rfl
    simp only [List.setIfInBounds_toArray, List.set_cons_zero, List.set_cons_succ]
    first
      | (refine ext_skip pre_below (i := 31) (d := 49) rfl rfl (by kernel_rfl) (by kernel_rfl) (by kernel_rfl) (fun _ _ _ h => h) (by rfl) ?_)
      | (refine ext_take pre_below (i := 31) (d := 49) (v := ?_) rfl rfl (by kernel_rfl) (by kernel_rfl) (by kernel_rfl) (fun _ _ _ h => h) (by rfl) (fun W hS => ?_) ?_
         rotate_left
         · skip
           (refine load_gives 24 (.tmp 3) ?_ w.heap.size ?_ _ #[.int .i64 ka, .slice ao1 da.length cap1] (0, 0) _ ((hS.block _ (Array.getElem?_eq_some_iff.1 HZ1.out).1).trans HZ1.out) Try.underlying24 rfl hinfoC (Below.refl _ _) <;> rfl))
    simp only [List.setIfInBounds_toArray, List.set_cons_zero, List.set_cons_succ]
    first
      | (refine ext_skip pre_below (i := 32) (d := 50) rfl rfl (by kernel_rfl) (by kernel_rfl) (by kernel_rfl) (fun _ _ _ h => h) (by rfl) ?_)
      | (refine ext_take pre_below (i := 32) (d := 50) (v := ?_) rfl rfl (by kernel_rfl) (by kernel_rfl) (by kernel_rfl) (fun _ _ _ h => h) (by rfl) (fun W hS => ?_) ?_
         rotate_left
         · skip
           go_simp; refine Gives.enter ((check_any ka _ da W (HA2.out.new hS)).mono ?_); rintro e wn ⟨rfl, hbn⟩; rw [HCK.out]; refine ⟨?_, hbn⟩; with_reducible rfl)
    simp only [List.setIfInBounds_toArray, List.set_cons_zero, List.set_cons_succ]
    first
      | (refine ext_skip pre_below (i := 33) (d := 51) rfl rfl (by kernel_rfl) (by kernel_rfl) (by kernel_rfl) (fun _ _ _ h => h) (by rfl) ?_)
      | (refine ext_take pre_below (i := 33) (d := 51) (v := ?_) rfl rfl (by kernel_rfl) (by kernel_rfl) (by kernel_rfl) (fun _ _ _ h => h) (by rfl) (fun W hS => ?_) ?_
         rotate_left
         · skip
           refine gives_value (w := W) (by exact Below.refl _ _) ?_; go_simp; try with_reducible rfl)
    simp only [List.setIfInBounds_toArray, List.set_cons_zero, List.set_cons_succ]
    first
      | (refine ext_skip pre_below (i := 34) (d := 52) rfl rfl (by kernel_rfl) (by kernel_rfl) (by kernel_rfl) (fun _ _ _ h => h) (by rfl) ?_)
      | (refine ext_take pre_below (i := 34) (d := 52) (v := ?_) rfl rfl (by kernel_rfl) (by kernel_rfl) (by kernel_rfl) (fun _ _ _ h => h) (by rfl) (fun W hS => ?_) ?_
         rotate_left
         · skip
           (refine load_gives 24 (.tmp 3) ?_ w.heap.size ?_ _ #[.int .i64 ka, .slice ao1 da.length cap1] (0, 0) _ ((hS.block _ (Array.getElem?_eq_some_iff.1 HZ1.out).1).trans HZ1.out) Try.underlying24 rfl hinfoC (Below.refl _ _) <;> rfl))
    simp only [List.setIfInBounds_toArray, List.set_cons_zero, List.set_cons_succ]
    first
      | (refine ext_skip pre_below (i := 35) (d := 53) rfl rfl (by kernel_rfl) (by kernel_rfl) (by kernel_rfl) (fun _ _ _ h => h) (by rfl) ?_)
      | (refine ext_take pre_below (i := 35) (d := 53) (v := ?_) rfl rfl (by kernel_rfl) (by kernel_rfl) (by kernel_rfl) (fun _ _ _ h => h) (by rfl) (fun W hS => ?_) ?_
         rotate_left
         · skip
           (refine load_gives 24 (.tmp 3) ?_ w.heap.size ?_ _ #[.int .i64 ka, .slice ao1 da.length cap1] (0, 0) _ ((hS.block _ (Array.getElem?_eq_some_iff.1 HZ1.out).1).trans HZ1.out) Try.underlying24 rfl hinfoC (Below.refl _ _) <;> rfl))
    simp only [List.setIfInBounds_toArray, List.set_cons_zero, List.set_cons_succ]
    first
      | (refine ext_skip pre_below (i := 36) (d := 54) rfl rfl (by kernel_rfl) (by kernel_rfl) (by kernel_rfl) (fun _ _ _ h => h) (by rfl) ?_)
      | (refine ext_take pre_below (i := 36) (d := 54) (v := ?_) rfl rfl (by kernel_rfl) (by kernel_rfl) (by kernel_rfl) (fun _ _ _ h => h) (by rfl) (fun W hS => ?_) ?_
         rotate_left
         · skip
           go_simp; refine Gives.enter ((may_any ka ka _ _ da da W (HA2.out.new hS) (HA2.out.new hS) H8A.out H8A.out).mono ?_); rintro e wn ⟨rfl, hbn⟩; rw [HAA.out]; refine ⟨?_, hbn⟩; with_reducible rfl)
    simp only [List.setIfInBounds_toArray, List.set_cons_zero, List.set_cons_succ]
    first
      | (refine ext_skip pre_below (i := 37) (d := 55) rfl rfl (by kernel_rfl) (by kernel_rfl) (by kernel_rfl) (fun _ _ _ h => h) (by rfl) ?_)
      | (refine ext_take pre_below (i := 37) (d := 55) (v := ?_) rfl rfl (by kernel_rfl) (by kernel_rfl) (by kernel_rfl) (fun _ _ _ h => h) (by rfl) (fun W hS => ?_) ?_
         rotate_left
         · skip
           refine gives_value (w := W) (by exact Below.refl _ _) ?_; go_simp; try with_reducible rfl)
    simp only [List.setIfInBounds_toArray, List.set_cons_zero, List.set_cons_succ]
    refine ext_take pre_below (i := 38) (d := 56) (v := ?_) rfl rfl (by kernel_rfl) (by kernel_rfl) (by kernel_rfl) (fun _ _ _ h => h) (by rfl) (fun W hS => ?_) ?_
    rotate_left
    · skip
      refine gives_value (w := W) (by exact Below.refl _ _) ?_; go_simp; try with_reducible rfl
    simp only [List.setIfInBounds_toArray, List.set_cons_zero, List.set_cons_succ]
    refine ext_done (by kernel_rfl) (fun w3 hS3 => ?_) _
    have HB3 : Hid (Below w.heap.size w w3) := Lib.hid (HB2.out.trans (hS3.mono HB2.out.size))
    have HV1 := Lib.hid ((hS3.block _ (Array.getElem?_eq_some_iff.1 HZ1.out).1).trans HZ1.out)
    have HV2 := Lib.hid ((hS3.block _ (Array.getElem?_eq_some_iff.1 HZ2.out).1).trans HZ2.out)
    have HA3 := Lib.hid (HA2.out.new hS3)
    have HB3r := Lib.hid (HB2r.out.new hS3)
    clear hS3 HZ1 HZ2 HZ3 HA2 HB2r HC2 HB2 HAB HBC HAC HBA HSM HAA HCK hinfoC HMX
    obtain ⟨a0, a1, _, _⟩ := blk2 HV1.out
    obtain ⟨b0, b1, _, _⟩ := blk2 HV2.out
    go_wp2_with fail
    refine (later_any ka kb _ _ da db w3 HA3.out HB3r.out H8A.out H8B.out (by have := HLA.out; omega) (by have := HLB.out; omega)).mono ?_
    rintro e w4 ⟨k, d, ok, v4, hl, rfl, ho, hb4⟩
    obtain ⟨ao4, cap4, rfl, _, _, _⟩ := ho.reads.val
    obtain ⟨W4, hW4⟩ : ∃ W4, W4 = w4.alloc (.cells #[.int .i64 k, .slice ao4 d.length cap4] 24) := ⟨_, rfl⟩
    have hb34 : Below w3.heap.size w3 W4 := by rw [hW4]; exact hb4.alloc hb4.size _
    have hx4 : W4.heap[w4.heap.size]? = some (.cells #[.int .i64 k, .slice ao4 d.length cap4] 24 (0, 0)) := by rw [hW4]; exact heap_alloc_new _ _
    have HD4 := Lib.hid (ho.reads.new (show Below w4.heap.size w4 W4 by rw [hW4]; exact (Below.refl _ _).alloc (Nat.le_refl _) _))
    have HU1 := Lib.hid ((hb34.block _ (Array.getElem?_eq_some_iff.1 HV1.out).1).trans HV1.out)
    have HU2 := Lib.hid ((hb34.block _ (Array.getElem?_eq_some_iff.1 HV2.out).1).trans HV2.out)
    have HA4 := Lib.hid (HA3.out.new hb34)
    have HB4r := Lib.hid (HB3r.out.new hb34)
    have HB4 := Lib.hid (HB3.out.trans (hb34.mono HB3.out.size))
    have HX4 := Lib.hid hx4
    have HW4 := Lib.hid hW4
    have HL := Lib.hid hl
    clear hb4 ho hb34 hx4 hW4 HV1 HV2 HA3 HB3r HB3 a0 a1 b0 b1 hl
    obtain ⟨a0, a1, _, _⟩ := blk2 HU1.out
    obtain ⟨b0, b1, _, _⟩ := blk2 HU2.out
    rw [HW4.out] at a0 a1 b0 b1
    go_wp2_with fail
    rw [← HW4.out]
    refine (later_any kb ka _ _ db da W4 HB4r.out HA4.out H8B.out H8A.out (by have := HLB.out; omega) (by have := HLA.out; omega)).mono ?_
    rintro e w5 ⟨k5, d5, ok5, v5, hl5, rfl, ho, hb5⟩
    obtain ⟨ao5, cap5, rfl, _, _, _⟩ := ho.reads.val
    obtain ⟨W5, hW5⟩ : ∃ W5, W5 = w5.alloc (.cells #[.int .i64 k5, .slice ao5 d5.length cap5] 24) := ⟨_, rfl⟩
    have hb45 : Below W4.heap.size W4 W5 := by rw [hW5]; exact hb5.alloc hb5.size _
    have hx5 : W5.heap[w5.heap.size]? = some (.cells #[.int .i64 k5, .slice ao5 d5.length cap5] 24 (0, 0)) := by rw [hW5]; exact heap_alloc_new _ _
    have HD5 := Lib.hid (ho.reads.new (show Below w5.heap.size w5 W5 by rw [hW5]; exact (Below.refl _ _).alloc (Nat.le_refl _) _))
    have HT1 := Lib.hid ((hb45.block _ (Array.getElem?_eq_some_iff.1 HU1.out).1).trans HU1.out)
    have HT2 := Lib.hid ((hb45.block _ (Array.getElem?_eq_some_iff.1 HU2.out).1).trans HU2.out)
    have HY4 := Lib.hid ((hb45.block _ (Array.getElem?_eq_some_iff.1 HX4.out).1).trans HX4.out)
    have HA5 := Lib.hid (HA4.out.new hb45)
    have HB5r := Lib.hid (HB4r.out.new hb45)
    have HL5 := Lib.hid (HD4.out.new hb45)
    have HB5 := Lib.hid (HB4.out.trans (hb45.mono HB4.out.size))
    have HX5 := Lib.hid hx5
    have HW5 := Lib.hid hW5
    have hev := later_even ka kb da db
    rw [← HL.out, ← hl5] at hev
    obtain ⟨h1, h2⟩ := hev
    simp only at h1 h2
    subst h1
    have HSS := Lib.hid h2
    have h8k := later_byte (k1 := ka) (k2 := kb) H8A.out H8B.out
    rw [← HL.out] at h8k
    have H8K := Lib.hid h8k
    have h8k5 := later_byte (k1 := kb) (k2 := ka) H8B.out H8A.out
    rw [← hl5] at h8k5
    have H8K5 := Lib.hid h8k5
    have hbt : ok = true → mayC ka da k d = true ∧ mayC kb db k d = true ∧ (sameC k d ka da = true ∨ sameC k d kb db = true) := by
      intro hok
      have := later_both (k1 := ka) (d1 := da) (k2 := kb) (d2 := db)
      rw [← HL.out] at this
      exact this hok
    have HBT := Lib.hid hbt
    clear hb5 ho hb45 hx5 hW5 HU1 HU2 HA4 HB4r HB4 HX4 HD4 a0 a1 b0 b1 hl5 h2 h8k h8k5 hbt HL HW4
    obtain ⟨e0, e1, _, _⟩ := blk2 HY4.out
    obtain ⟨f0, f1, _, _⟩ := blk2 HX5.out
    rw [HW5.out] at e0 e1 f0 f1
    have hbne : (ok != ok) = false := by cases ok <;> rfl
    go_wp2_with fail
    rw [← HW5.out]
    refine (same_any k k5 _ _ d d5 W5 HL5.out HD5.out H8K.out H8K5.out).mono ?_
    rintro e w6 ⟨rfl, hb6⟩
    rw [HSS.out]
    have HB6 := Lib.hid (HB5.out.trans (hb6.mono HB5.out.size))
    have HS1 := Lib.hid ((hb6.block _ (Array.getElem?_eq_some_iff.1 HT1.out).1).trans HT1.out)
    have HS2 := Lib.hid ((hb6.block _ (Array.getElem?_eq_some_iff.1 HT2.out).1).trans HT2.out)
    have HS4 := Lib.hid ((hb6.block _ (Array.getElem?_eq_some_iff.1 HY4.out).1).trans HY4.out)
    have HA6 := Lib.hid (HA5.out.new hb6)
    have HB6r := Lib.hid (HB5r.out.new hb6)
    have HL6 := Lib.hid (HL5.out.new hb6)
    clear hb6 HT1 HT2 HY4 HA5 HB5r HL5 HD5 HX5 HB5 e0 e1 f0 f1 HW5 HSS H8K5
    obtain ⟨a0, a1, _, _⟩ := blk2 HS1.out
    obtain ⟨b0, b1, _, _⟩ := blk2 HS2.out
    obtain ⟨e0, e1, _, _⟩ := blk2 HS4.out
    cases ok
    · go_wp2
      go_ret
      exact ⟨rfl, HB6.out⟩
    · obtain ⟨m1, m2, m3⟩ := HBT.out rfl
      have HM1 := Lib.hid m1
      have HM2 := Lib.hid m2
      have HM3 := Lib.hid m3
      clear m1 m2 m3 HBT hbne
      go_wp2_with fail
      refine (may_any ka k _ _ da d w6 HA6.out HL6.out H8A.out H8K.out).mono ?_
      rintro e w7 ⟨rfl, hb7⟩
      rw [HM1.out]
      have HB7 := Lib.hid (HB6.out.trans (hb7.mono HB6.out.size))
      have HR1 := Lib.hid ((hb7.block _ (Array.getElem?_eq_some_iff.1 HS1.out).1).trans HS1.out)
      have HR2 := Lib.hid ((hb7.block _ (Array.getElem?_eq_some_iff.1 HS2.out).1).trans HS2.out)
      have HR4 := Lib.hid ((hb7.block _ (Array.getElem?_eq_some_iff.1 HS4.out).1).trans HS4.out)
      have HA7 := Lib.hid (HA6.out.new hb7)
      have HB7r := Lib.hid (HB6r.out.new hb7)
      have HL7 := Lib.hid (HL6.out.new hb7)
      clear hb7 HS1 HS2 HS4 HA6 HB6r HL6 HB6 a0 a1 b0 b1 e0 e1
      obtain ⟨a0, a1, _, _⟩ := blk2 HR1.out
      obtain ⟨b0, b1, _, _⟩ := blk2 HR2.out
      obtain ⟨e0, e1, _, _⟩ := blk2 HR4.out
      go_wp2_with fail
      refine (may_any kb k _ _ db d w7 HB7r.out HL7.out H8B.out H8K.out).mono ?_
      rintro e w8 ⟨rfl, hb8⟩
      rw [HM2.out]
      have HB8 := Lib.hid (HB7.out.trans (hb8.mono HB7.out.size))
      have HQ1 := Lib.hid ((hb8.block _ (Array.getElem?_eq_some_iff.1 HR1.out).1).trans HR1.out)
      have HQ2 := Lib.hid ((hb8.block _ (Array.getElem?_eq_some_iff.1 HR2.out).1).trans HR2.out)
      have HQ4 := Lib.hid ((hb8.block _ (Array.getElem?_eq_some_iff.1 HR4.out).1).trans HR4.out)
      have HA8 := Lib.hid (HA7.out.new hb8)
      have HB8r := Lib.hid (HB7r.out.new hb8)
      have HL8 := Lib.hid (HL7.out.new hb8)
      clear hb8 HR1 HR2 HR4 HA7 HB7r HL7 HB7 a0 a1 b0 b1 e0 e1
      obtain ⟨a0, a1, _, _⟩ := blk2 HQ1.out
      obtain ⟨b0, b1, _, _⟩ := blk2 HQ2.out
      obtain ⟨e0, e1, _, _⟩ := blk2 HQ4.out
      go_wp2_with fail
      refine (same_any k ka _ _ d da w8 HL8.out HA8.out H8K.out H8A.out).mono ?_
      rintro e w9 ⟨rfl, hb9⟩
      cases hsa : sameC k d ka da
      · have hsb : sameC k d kb db = true := by
          rcases HM3.out with h | h
          · rw [hsa] at h; cases h
          · exact h
        have HSB := Lib.hid hsb
        clear hsb hsa
        have HB9 := Lib.hid (HB8.out.trans (hb9.mono HB8.out.size))
        have HP2 := Lib.hid ((hb9.block _ (Array.getElem?_eq_some_iff.1 HQ2.out).1).trans HQ2.out)
        have HP4 := Lib.hid ((hb9.block _ (Array.getElem?_eq_some_iff.1 HQ4.out).1).trans HQ4.out)
        have HB9r := Lib.hid (HB8r.out.new hb9)
        have HL9 := Lib.hid (HL8.out.new hb9)
        clear hb9 HQ1 HQ2 HQ4 HA8 HB8r HL8 HB8 a0 a1 b0 b1 e0 e1
        obtain ⟨b0, b1, _, _⟩ := blk2 HP2.out
        obtain ⟨e0, e1, _, _⟩ := blk2 HP4.out
        go_wp2_with fail
        refine (same_any k kb _ _ d db w9 HL9.out HB9r.out H8K.out H8B.out).mono ?_
        rintro e w10 ⟨rfl, hb10⟩
        rw [HSB.out]
        go_wp2
        go_ret
        exact ⟨rfl, HB9.out.trans (hb10.mono HB9.out.size)⟩
      · go_wp2
        go_ret
        exact ⟨rfl, HB8.out.trans (hb9.mono HB8.out.size)⟩
  · skip
    go_wp2_with fail
    refine wp_region_ext pre_below (Below.refl _ _).drew HMX.out ?_
    refine ext_take pre_below (i := 0) (d := 18) (v := ?_) rfl rfl (by kernel_rfl) (by kernel_rfl) (by kernel_rfl) (fun _ _ _ h => h) (by rfl) (fun W hS => ?_) ?_
    rotate_left
    · skip
      (refine load_gives 24 (.tmp 3) ?_ w.heap.size ?_ _ #[.int .i64 ka, .slice ao1 da.length cap1] (0, 0) _ ((hS.block _ (Array.getElem?_eq_some_iff.1 HZ1.out).1).trans HZ1.out) Try.underlying24 rfl hinfoC (Below.refl _ _) <;> rfl)
    simp only [List.setIfInBounds_toArray, List.set_cons_zero, List.set_cons_succ]
    refine ext_take pre_below (i := 1) (d := 19) (v := ?_) rfl rfl (by kernel_rfl) (by kernel_rfl) (by kernel_rfl) (fun _ _ _ h => h) (by rfl) (fun W hS => ?_) ?_
    rotate_left
    · skip
      (refine load_gives 24 (.tmp 4) ?_ (w.heap.size + 1) ?_ _ #[.int .i64 kb, .slice ao2 db.length cap2] (0, 0) _ ((hS.block _ (Array.getElem?_eq_some_iff.1 HZ2.out).1).trans HZ2.out) Try.underlying24 rfl hinfoC (Below.refl _ _) <;> rfl)
    simp only [List.setIfInBounds_toArray, List.set_cons_zero, List.set_cons_succ]
    refine ext_take pre_below (i := 2) (d := 20) (v := ?_) rfl rfl (by kernel_rfl) (by kernel_rfl) (by kernel_rfl) (fun _ _ _ h => h) (by rfl) (fun W hS => ?_) ?_
    rotate_left
    · skip
      go_simp; refine Gives.enter ((may_any ka kb _ _ da db W (HA2.out.new hS) (HB2r.out.new hS) H8A.out H8B.out).mono ?_); rintro e wn ⟨rfl, hbn⟩; rw [HAB.out]; refine ⟨?_, hbn⟩; with_reducible rfl
    simp only [List.setIfInBounds_toArray, List.set_cons_zero, List.set_cons_succ]
    refine ext_take pre_below (i := 3) (d := 21) (v := ?_) rfl rfl (by kernel_rfl) (by kernel_rfl) (by kernel_rfl) (fun _ _ _ h => h) (by rfl) (fun W hS => ?_) ?_
    rotate_left
    · skip
      refine gives_value (w := W) (by exact Below.refl _ _) ?_; go_simp; try with_reducible rfl
    simp only [List.setIfInBounds_toArray, List.set_cons_zero, List.set_cons_succ]
    first
      | (refine ext_skip pre_below (i := 4) (d := 22) rfl rfl (by kernel_rfl) (by kernel_rfl) (by kernel_rfl) (fun _ _ _ h => h) (by rfl) ?_)
      | (refine ext_take pre_below (i := 4) (d := 22) (v := ?_) rfl rfl (by kernel_rfl) (by kernel_rfl) (by kernel_rfl) (fun _ _ _ h => h) (by rfl) (fun W hS => ?_) ?_
         rotate_left
         · skip
           (refine load_gives 24 (.tmp 4) ?_ (w.heap.size + 1) ?_ _ #[.int .i64 kb, .slice ao2 db.length cap2] (0, 0) _ ((hS.block _ (Array.getElem?_eq_some_iff.1 HZ2.out).1).trans HZ2.out) Try.underlying24 rfl hinfoC (Below.refl _ _) <;> rfl))
    simp only [List.setIfInBounds_toArray, List.set_cons_zero, List.set_cons_succ]
    first
      | (refine ext_skip pre_below (i := 5) (d := 23) rfl rfl (by kernel_rfl) (by kernel_rfl) (by kernel_rfl) (fun _ _ _ h => h) (by rfl) ?_)
      | (refine ext_take pre_below (i := 5) (d := 23) (v := ?_) rfl rfl (by kernel_rfl) (by kernel_rfl) (by kernel_rfl) (fun _ _ _ h => h) (by rfl) (fun W hS => ?_) ?_
         rotate_left
         · skip
           (refine load_gives 24 (.tmp 5) ?_ (w.heap.size + 1 + 1) ?_ _ #[.int .i64 kc, .slice ao3 dc.length cap3] (0, 0) _ ((hS.block _ (Array.getElem?_eq_some_iff.1 HZ3.out).1).trans HZ3.out) Try.underlying24 rfl hinfoC (Below.refl _ _) <;> rfl))
    simp only [List.setIfInBounds_toArray, List.set_cons_zero, List.set_cons_succ]
    first
      | (refine ext_skip pre_below (i := 6) (d := 24) rfl rfl (by kernel_rfl) (by kernel_rfl) (by kernel_rfl) (fun _ _ _ h => h) (by rfl) ?_)
      | (refine ext_take pre_below (i := 6) (d := 24) (v := ?_) rfl rfl (by kernel_rfl) (by kernel_rfl) (by kernel_rfl) (fun _ _ _ h => h) (by rfl) (fun W hS => ?_) ?_
         rotate_left
         · skip
           go_simp; refine Gives.enter ((may_any kb kc _ _ db dc W (HB2r.out.new hS) (HC2.out.new hS) H8B.out H8C.out).mono ?_); rintro e wn ⟨rfl, hbn⟩; rw [HBC.out]; refine ⟨?_, hbn⟩; with_reducible rfl)
    simp only [List.setIfInBounds_toArray, List.set_cons_zero, List.set_cons_succ]
    refine ext_take pre_below (i := 7) (d := 25) (v := ?_) rfl rfl (by kernel_rfl) (by kernel_rfl) (by kernel_rfl) (fun _ _ _ h => h) (by rfl) (fun W hS => ?_) ?_
    rotate_left
    · skip
      refine gives_value (w := W) (by exact Below.refl _ _) ?_; go_simp; try with_reducible rfl
    simp only [List.setIfInBounds_toArray, List.set_cons_zero, List.set_cons_succ]
    refine ext_take pre_below (i := 8) (d := 26) (v := ?_) rfl rfl (by kernel_rfl) (by kernel_rfl) (by kernel_rfl) (fun _ _ _ h => h) (by rfl) (fun W hS => ?_) ?_
    rotate_left
    · skip
      refine gives_value (w := W) (by exact Below.refl _ _) ?_; go_simp; try with_reducible rfl
    simp only [List.setIfInBounds_toArray, List.set_cons_zero, List.set_cons_succ]
    first
      | (refine ext_skip pre_below (i := 9) (d := 27) rfl rfl (by kernel_rfl) (by kernel_rfl) (by kernel_rfl) (fun _ _ _ h => h) (by rfl) ?_)
      | (refine ext_take pre_below (i := 9) (d := 27) (v := ?_) rfl rfl (by kernel_rfl) (by kernel_rfl) (by kernel_rfl) (fun _ _ _ h => h) (by rfl) (fun W hS => ?_) ?_
         rotate_left
         · skip
           (refine load_gives 24 (.tmp 3) ?_ w.heap.size ?_ _ #[.int .i64 ka, .slice ao1 da.length cap1] (0, 0) _ ((hS.block _ (Array.getElem?_eq_some_iff.1 HZ1.out).1).trans HZ1.out) Try.underlying24 rfl hinfoC (Below.refl _ _) <;> rfl))
    simp only [List.setIfInBounds_toArray, List.set_cons_zero, List.set_cons_succ]
    first
      | (refine ext_skip pre_below (i := 10) (d := 28) rfl rfl (by kernel_rfl) (by kernel_rfl) (by kernel_rfl) (fun _ _ _ h => h) (by rfl) ?_)
      | (refine ext_take pre_below (i := 10) (d := 28) (v := ?_) rfl rfl (by kernel_rfl) (by kernel_rfl) (by kernel_rfl) (fun _ _ _ h => h) (by rfl) (fun W hS => ?_) ?_
         rotate_left
         · skip
           (refine load_gives 24 (.tmp 5) ?_ (w.heap.size + 1 + 1) ?_ _ #[.int .i64 kc, .slice ao3 dc.length cap3] (0, 0) _ ((hS.block _ (Array.getElem?_eq_some_iff.1 HZ3.out).1).trans HZ3.out) Try.underlying24 rfl hinfoC (Below.refl _ _) <;> rfl))
    simp only [List.setIfInBounds_toArray, List.set_cons_zero, List.set_cons_succ]
    first
      | (refine ext_skip pre_below (i := 11) (d := 29) rfl rfl (by kernel_rfl) (by kernel_rfl) (by kernel_rfl) (fun _ _ _ h => h) (by rfl) ?_)
      | (refine ext_take pre_below (i := 11) (d := 29) (v := ?_) rfl rfl (by kernel_rfl) (by kernel_rfl) (by kernel_rfl) (fun _ _ _ h => h) (by rfl) (fun W hS => ?_) ?_
         rotate_left
         · skip
           go_simp; refine Gives.enter ((may_any ka kc _ _ da dc W (HA2.out.new hS) (HC2.out.new hS) H8A.out H8C.out).mono ?_); rintro e wn ⟨rfl, hbn⟩; rw [HAC.out]; refine ⟨?_, hbn⟩; with_reducible rfl)
    simp only [List.setIfInBounds_toArray, List.set_cons_zero, List.set_cons_succ]
    first
      | (refine ext_skip pre_below (i := 12) (d := 30) rfl rfl (by kernel_rfl) (by kernel_rfl) (by kernel_rfl) (fun _ _ _ h => h) (by rfl) ?_)
      | (refine ext_take pre_below (i := 12) (d := 30) (v := ?_) rfl rfl (by kernel_rfl) (by kernel_rfl) (by kernel_rfl) (fun _ _ _ h => h) (by rfl) (fun W hS => ?_) ?_
         rotate_left
         · skip
           refine gives_value (w := W) (by exact Below.refl _ _) ?_; go_simp; try with_reducible rfl)
    simp only [List.setIfInBounds_toArray, List.set_cons_zero, List.set_cons_succ]
    refine ext_take pre_below (i := 13) (d := 31) (v := ?_) rfl rfl (by kernel_rfl) (by kernel_rfl) (by kernel_rfl) (fun _ _ _ h => h) (by rfl) (fun W hS => ?_) ?_
    rotate_left
    · skip
      refine gives_value (w := W) (by exact Below.refl _ _) ?_; go_simp; try with_reducible rfl
    simp only [List.setIfInBounds_toArray, List.set_cons_zero, List.set_cons_succ]
    refine ext_take pre_below (i := 14) (d := 32) (v := ?_) rfl rfl (by kernel_rfl) (by kernel_rfl) (by kernel_rfl) (fun _ _ _ h => h) (by rfl) (fun W hS => ?_) ?_
    rotate_left
    · skip
      refine gives_value (w := W) (by exact Below.refl _ _) ?_; go_simp; try with_reducible rfl
    simp only [List.setIfInBounds_toArray, List.set_cons_zero, List.set_cons_succ]
    first
      | (refine ext_skip pre_below (i := 15) (d := 33) rfl rfl (by kernel_rfl) (by kernel_rfl) (by kernel_rfl) (fun _ _ _ h => h) (by rfl) ?_)
      | (refine ext_take pre_below (i := 15) (d := 33) (v := ?_) rfl rfl (by kernel_rfl) (by kernel_rfl) (by kernel_rfl) (fun _ _ _ h => h) (by rfl) (fun W hS => ?_) ?_
         rotate_left
         · skip
           (refine load_gives 24 (.tmp 3) ?_ w.heap.size ?_ _ #[.int .i64 ka, .slice ao1 da.length cap1] (0, 0) _ ((hS.block _ (Array.getElem?_eq_some_iff.1 HZ1.out).1).trans HZ1.out) Try.underlying24 rfl hinfoC (Below.refl _ _) <;> rfl))
    simp only [List.setIfInBounds_toArray, List.set_cons_zero, List.set_cons_succ]
    first
      | (refine ext_skip pre_below (i := 16) (d := 34) rfl rfl (by kernel_rfl) (by kernel_rfl) (by kernel_rfl) (fun _ _ _ h => h) (by rfl) ?_)
      | (refine ext_take pre_below (i := 16) (d := 34) (v := ?_) rfl rfl (by kernel_rfl) (by kernel_rfl) (by kernel_rfl) (fun _ _ _ h => h) (by rfl) (fun W hS => ?_) ?_
         rotate_left
         · skip
           (refine load_gives 24 (.tmp 4) ?_ (w.heap.size + 1) ?_ _ #[.int .i64 kb, .slice ao2 db.length cap2] (0, 0) _ ((hS.block _ (Array.getElem?_eq_some_iff.1 HZ2.out).1).trans HZ2.out) Try.underlying24 rfl hinfoC (Below.refl _ _) <;> rfl))
    simp only [List.setIfInBounds_toArray, List.set_cons_zero, List.set_cons_succ]
    first
      | (refine ext_skip pre_below (i := 17) (d := 35) rfl rfl (by kernel_rfl) (by kernel_rfl) (by kernel_rfl) (fun _ _ _ h => h) (by rfl) ?_)
      | (refine ext_take pre_below (i := 17) (d := 35) (v := ?_) rfl rfl (by kernel_rfl) (by kernel_rfl) (by kernel_rfl) (fun _ _ _ h => h) (by rfl) (fun W hS => ?_) ?_
         rotate_left
         · skip
           go_simp; refine Gives.enter ((may_any ka kb _ _ da db W (HA2.out.new hS) (HB2r.out.new hS) H8A.out H8B.out).mono ?_); rintro e wn ⟨rfl, hbn⟩; rw [HAB.out]; refine ⟨?_, hbn⟩; with_reducible rfl)
    simp only [List.setIfInBounds_toArray, List.set_cons_zero, List.set_cons_succ]
    first
      | (refine ext_skip pre_below (i := 18) (d := 36) rfl rfl (by kernel_rfl) (by kernel_rfl) (by kernel_rfl) (fun _ _ _ h => h) (by rfl) ?_)
      | (refine ext_take pre_below (i := 18) (d := 36) (v := ?_) rfl rfl (by kernel_rfl) (by kernel_rfl) (by kernel_rfl) (fun _ _ _ h => h) (by rfl) (fun W hS => ?_) ?_
         rotate_left
         · skip
           refine gives_value (w := W) (by exact Below.refl _ _) ?_; go_simp; try with_reducible rfl)
    simp only [List.setIfInBounds_toArray, List.set_cons_zero, List.set_cons_succ]
    first
      | (refine ext_skip pre_below (i := 19) (d := 37) rfl rfl (by kernel_rfl) (by kernel_rfl) (by kernel_rfl) (fun _ _ _ h => h) (by rfl) ?_)
      | (refine ext_take pre_below (i := 19) (d := 37) (v := ?_) rfl rfl (by kernel_rfl) (by kernel_rfl) (by kernel_rfl) (fun _ _ _ h => h) (by rfl) (fun W hS => ?_) ?_
         rotate_left
         · skip
           (refine load_gives 24 (.tmp 4) ?_ (w.heap.size + 1) ?_ _ #[.int .i64 kb, .slice ao2 db.length cap2] (0, 0) _ ((hS.block _ (Array.getElem?_eq_some_iff.1 HZ2.out).1).trans HZ2.out) Try.underlying24 rfl hinfoC (Below.refl _ _) <;> rfl))
    simp only [List.setIfInBounds_toArray, List.set_cons_zero, List.set_cons_succ]
    first
      | (refine ext_skip pre_below (i := 20) (d := 38) rfl rfl (by kernel_rfl) (by kernel_rfl) (by kernel_rfl) (fun _ _ _ h => h) (by rfl) ?_)
      | (refine ext_take pre_below (i := 20) (d := 38) (v := ?_) rfl rfl (by kernel_rfl) (by kernel_rfl) (by kernel_rfl) (fun _ _ _ h => h) (by rfl) (fun W hS => ?_) ?_
         rotate_left
         · skip
           (refine load_gives 24 (.tmp 3) ?_ w.heap.size ?_ _ #[.int .i64 ka, .slice ao1 da.length cap1] (0, 0) _ ((hS.block _ (Array.getElem?_eq_some_iff.1 HZ1.out).1).trans HZ1.out) Try.underlying24 rfl hinfoC (Below.refl _ _) <;> rfl))
    simp only [List.setIfInBounds_toArray, List.set_cons_zero, List.set_cons_succ]
    first
      | (refine ext_skip pre_below (i := 21) (d := 39) rfl rfl (by kernel_rfl) (by kernel_rfl) (by kernel_rfl) (fun _ _ _ h => h) (by rfl) ?_)
      | (refine ext_take pre_below (i := 21) (d := 39) (v := ?_) rfl rfl (by kernel_rfl) (by kernel_rfl) (by kernel_rfl) (fun _ _ _ h => h) (by rfl) (fun W hS => ?_) ?_
         rotate_left
         · skip
           go_simp; refine Gives.enter ((may_any kb ka _ _ db da W (HB2r.out.new hS) (HA2.out.new hS) H8B.out H8A.out).mono ?_); rintro e wn ⟨rfl, hbn⟩; rw [HBA.out]; refine ⟨?_, hbn⟩; with_reducible rfl)
    simp only [List.setIfInBounds_toArray, List.set_cons_zero, List.set_cons_succ]
    first
      | (refine ext_skip pre_below (i := 22) (d := 40) rfl rfl (by kernel_rfl) (by kernel_rfl) (by kernel_rfl) (fun _ _ _ h => h) (by rfl) ?_)
      | (refine ext_take pre_below (i := 22) (d := 40) (v := ?_) rfl rfl (by kernel_rfl) (by kernel_rfl) (by kernel_rfl) (fun _ _ _ h => h) (by rfl) (fun W hS => ?_) ?_
         rotate_left
         · skip
           refine gives_value (w := W) (by exact Below.refl _ _) ?_; go_simp; try with_reducible rfl)
    simp only [List.setIfInBounds_toArray, List.set_cons_zero, List.set_cons_succ]
    first
      | (refine ext_skip pre_below (i := 23) (d := 41) rfl rfl (by kernel_rfl) (by kernel_rfl) (by kernel_rfl) (fun _ _ _ h => h) (by rfl) ?_)
      | (refine ext_take pre_below (i := 23) (d := 41) (v := ?_) rfl rfl (by kernel_rfl) (by kernel_rfl) (by kernel_rfl) (fun _ _ _ h => h) (by rfl) (fun W hS => ?_) ?_
         rotate_left
         · skip
           refine gives_value (w := W) (by exact Below.refl _ _) ?_; go_simp; try with_reducible rfl)
    simp only [List.setIfInBounds_toArray, List.set_cons_zero, List.set_cons_succ]
    first
      | (refine ext_skip pre_below (i := 24) (d := 42) rfl rfl (by kernel_rfl) (by kernel_rfl) (by kernel_rfl) (fun _ _ _ h => h) (by rfl) ?_)
      | (refine ext_take pre_below (i := 24) (d := 42) (v := ?_) rfl rfl (by kernel_rfl) (by kernel_rfl) (by kernel_rfl) (fun _ _ _ h => h) (by rfl) (fun W hS => ?_) ?_
         rotate_left
         · skip
           (refine load_gives 24 (.tmp 3) ?_ w.heap.size ?_ _ #[.int .i64 ka, .slice ao1 da.length cap1] (0, 0) _ ((hS.block _ (Array.getElem?_eq_some_iff.1 HZ1.out).1).trans HZ1.out) Try.underlying24 rfl hinfoC (Below.refl _ _) <;> rfl))
    simp only [List.setIfInBounds_toArray, List.set_cons_zero, List.set_cons_succ]
    first
      | (refine ext_skip pre_below (i := 25) (d := 43) rfl rfl (by kernel_rfl) (by kernel_rfl) (by kernel_rfl) (fun _ _ _ h => h) (by rfl) ?_)
      | (refine ext_take pre_below (i := 25) (d := 43) (v := ?_) rfl rfl (by kernel_rfl) (by kernel_rfl) (by kernel_rfl) (fun _ _ _ h => h) (by rfl) (fun W hS => ?_) ?_
         rotate_left
         · skip
           (refine load_gives 24 (.tmp 4) ?_ (w.heap.size + 1) ?_ _ #[.int .i64 kb, .slice ao2 db.length cap2] (0, 0) _ ((hS.block _ (Array.getElem?_eq_some_iff.1 HZ2.out).1).trans HZ2.out) Try.underlying24 rfl hinfoC (Below.refl _ _) <;> rfl))
    simp only [List.setIfInBounds_toArray, List.set_cons_zero, List.set_cons_succ]
    first
      | (refine ext_skip pre_below (i := 26) (d := 44) rfl rfl (by kernel_rfl) (by kernel_rfl) (by kernel_rfl) (fun _ _ _ h => h) (by rfl) ?_)
      | (refine ext_take pre_below (i := 26) (d := 44) (v := ?_) rfl rfl (by kernel_rfl) (by kernel_rfl) (by kernel_rfl) (fun _ _ _ h => h) (by rfl) (fun W hS => ?_) ?_
         rotate_left
         · skip
           go_simp; refine Gives.enter ((same_any ka kb _ _ da db W (HA2.out.new hS) (HB2r.out.new hS) H8A.out H8B.out).mono ?_); rintro e wn ⟨rfl, hbn⟩; rw [HSM.out]; refine ⟨?_, hbn⟩; with_reducible rfl)
    simp only [List.setIfInBounds_toArray, List.set_cons_zero, List.set_cons_succ]
    first
      | (refine ext_skip pre_below (i := 27) (d := 45) rfl rfl (by kernel_rfl) (by kernel_rfl) (by kernel_rfl) (fun _ _ _ h => h) (by rfl) ?_)
      | (refine ext_take pre_below (i := 27) (d := 45) (v := ?_) rfl rfl (by kernel_rfl) (by kernel_rfl) (by kernel_rfl) (fun _ _ _ h => h) (by rfl) (fun W hS => ?_) ?_
         rotate_left
         · skip
           refine gives_value (w := W) (by exact Below.refl _ _) ?_; go_simp; try with_reducible rfl)
    simp only [List.setIfInBounds_toArray, List.set_cons_zero, List.set_cons_succ]
    first
      | (refine ext_skip pre_below (i := 28) (d := 46) rfl rfl (by kernel_rfl) (by kernel_rfl) (by kernel_rfl) (fun _ _ _ h => h) (by rfl) ?_)
      | (refine ext_take pre_below (i := 28) (d := 46) (v := ?_) rfl rfl (by kernel_rfl) (by kernel_rfl) (by kernel_rfl) (fun _ _ _ h => h) (by rfl) (fun W hS => ?_) ?_
         rotate_left
         · skip
           refine gives_value (w := W) (by exact Below.refl _ _) ?_; go_simp; try with_reducible rfl)
    simp only [List.setIfInBounds_toArray, List.set_cons_zero, List.set_cons_succ]
    refine ext_take pre_below (i := 29) (d := 47) (v := ?_) rfl rfl (by kernel_rfl) (by kernel_rfl) (by kernel_rfl) (fun _ _ _ h => h) (by rfl) (fun W hS => ?_) ?_
    rotate_left
    · skip
      refine gives_value (w := W) (by exact Below.refl _ _) ?_; go_simp; try with_reducible rfl
    simp only [List.setIfInBounds_toArray, List.set_cons_zero, List.set_cons_succ]
    refine ext_take pre_below (i := 30) (d := 48) (v := ?_) rfl rfl (by kernel_rfl) (by kernel_rfl) (by kernel_rfl) (fun _ _ _ h => h) (by rfl) (fun W hS => ?_) ?_
    rotate_left
    · skip
      refine gives_value (w := W) (by exact Below.refl _ _) ?_; go_simp; try with_reducible rfl
    simp only [List.setIfInBounds_toArray, List.set_cons_zero, List.set_cons_succ]
    first
      | (refine ext_skip pre_below (i := 31) (d := 49) rfl rfl (by kernel_rfl) (by kernel_rfl) (by kernel_rfl) (fun _ _ _ h => h) (by rfl) ?_)
      | (refine ext_take pre_below (i := 31) (d := 49) (v := ?_) rfl rfl (by kernel_rfl) (by kernel_rfl) (by kernel_rfl) (fun _ _ _ h => h) (by rfl) (fun W hS => ?_) ?_
         rotate_left
         · skip
           (refine load_gives 24 (.tmp 3) ?_ w.heap.size ?_ _ #[.int .i64 ka, .slice ao1 da.length cap1] (0, 0) _ ((hS.block _ (Array.getElem?_eq_some_iff.1 HZ1.out).1).trans HZ1.out) Try.underlying24 rfl hinfoC (Below.refl _ _) <;> rfl))
    simp only [List.setIfInBounds_toArray, List.set_cons_zero, List.set_cons_succ]
    first
      | (refine ext_skip pre_below (i := 32) (d := 50) rfl rfl (by kernel_rfl) (by kernel_rfl) (by kernel_rfl) (fun _ _ _ h => h) (by rfl) ?_)
      | (refine ext_take pre_below (i := 32) (d := 50) (v := ?_) rfl rfl (by kernel_rfl) (by kernel_rfl) (by kernel_rfl) (fun _ _ _ h => h) (by rfl) (fun W hS => ?_) ?_
         rotate_left
         · skip
           go_simp; refine Gives.enter ((check_any ka _ da W (HA2.out.new hS)).mono ?_); rintro e wn ⟨rfl, hbn⟩; rw [HCK.out]; refine ⟨?_, hbn⟩; with_reducible rfl)
    simp only [List.setIfInBounds_toArray, List.set_cons_zero, List.set_cons_succ]
    first
      | (refine ext_skip pre_below (i := 33) (d := 51) rfl rfl (by kernel_rfl) (by kernel_rfl) (by kernel_rfl) (fun _ _ _ h => h) (by rfl) ?_)
      | (refine ext_take pre_below (i := 33) (d := 51) (v := ?_) rfl rfl (by kernel_rfl) (by kernel_rfl) (by kernel_rfl) (fun _ _ _ h => h) (by rfl) (fun W hS => ?_) ?_
         rotate_left
         · skip
           refine gives_value (w := W) (by exact Below.refl _ _) ?_; go_simp; try with_reducible rfl)
    simp only [List.setIfInBounds_toArray, List.set_cons_zero, List.set_cons_succ]
    first
      | (refine ext_skip pre_below (i := 34) (d := 52) rfl rfl (by kernel_rfl) (by kernel_rfl) (by kernel_rfl) (fun _ _ _ h => h) (by rfl) ?_)
      | (refine ext_take pre_below (i := 34) (d := 52) (v := ?_) rfl rfl (by kernel_rfl) (by kernel_rfl) (by kernel_rfl) (fun _ _ _ h => h) (by rfl) (fun W hS => ?_) ?_
         rotate_left
         · skip
           (refine load_gives 24 (.tmp 3) ?_ w.heap.size ?_ _ #[.int .i64 ka, .slice ao1 da.length cap1] (0, 0) _ ((hS.block _ (Array.getElem?_eq_some_iff.1 HZ1.out).1).trans HZ1.out) Try.underlying24 rfl hinfoC (Below.refl _ _) <;> rfl))
    simp only [List.setIfInBounds_toArray, List.set_cons_zero, List.set_cons_succ]
    first
      | (refine ext_skip pre_below (i := 35) (d := 53) rfl rfl (by kernel_rfl) (by kernel_rfl) (by kernel_rfl) (fun _ _ _ h => h) (by rfl) ?_)
      | (refine ext_take pre_below (i := 35) (d := 53) (v := ?_) rfl rfl (by kernel_rfl) (by kernel_rfl) (by kernel_rfl) (fun _ _ _ h => h) (by rfl) (fun W hS => ?_) ?_
         rotate_left
         · skip
           (refine load_gives 24 (.tmp 3) ?_ w.heap.size ?_ _ #[.int .i64 ka, .slice ao1 da.length cap1] (0, 0) _ ((hS.block _ (Array.getElem?_eq_some_iff.1 HZ1.out).1).trans HZ1.out) Try.underlying24 rfl hinfoC (Below.refl _ _) <;> rfl))
    simp only [List.setIfInBounds_toArray, List.set_cons_zero, List.set_cons_succ]
    first
      | (refine ext_skip pre_below (i := 36) (d := 54) rfl rfl (by kernel_rfl) (by kernel_rfl) (by kernel_rfl) (fun _ _ _ h => h) (by rfl) ?_)
      | (refine ext_take pre_below (i := 36) (d := 54) (v := ?_) rfl rfl (by kernel_rfl) (by kernel_rfl) (by kernel_rfl) (fun _ _ _ h => h) (by rfl) (fun W hS => ?_) ?_
         rotate_left
         · skip
           go_simp; refine Gives.enter ((may_any ka ka _ _ da da W (HA2.out.new hS) (HA2.out.new hS) H8A.out H8A.out).mono ?_); rintro e wn ⟨rfl, hbn⟩; rw [HAA.out]; refine ⟨?_, hbn⟩; with_reducible rfl)
    simp only [List.setIfInBounds_toArray, List.set_cons_zero, List.set_cons_succ]
    first
      | (refine ext_skip pre_below (i := 37) (d := 55) rfl rfl (by kernel_rfl) (by kernel_rfl) (by kernel_rfl) (fun _ _ _ h => h) (by rfl) ?_)
      | (refine ext_take pre_below (i := 37) (d := 55) (v := ?_) rfl rfl (by kernel_rfl) (by kernel_rfl) (by kernel_rfl) (fun _ _ _ h => h) (by rfl) (fun W hS => ?_) ?_
         rotate_left
         · skip
           refine gives_value (w := W) (by exact Below.refl _ _) ?_; go_simp; try with_reducible rfl)
    simp only [List.setIfInBounds_toArray, List.set_cons_zero, List.set_cons_succ]
    refine ext_take pre_below (i := 38) (d := 56) (v := ?_) rfl rfl (by kernel_rfl) (by kernel_rfl) (by kernel_rfl) (fun _ _ _ h => h) (by rfl) (fun W hS => ?_) ?_
    rotate_left
    · skip
      refine gives_value (w := W) (by exact Below.refl _ _) ?_; go_simp; try with_reducible rfl
    simp only [List.setIfInBounds_toArray, List.set_cons_zero, List.set_cons_succ]
    refine ext_done (by kernel_rfl) (fun w3 hS3 => ?_) _
    have HB3 : Hid (Below w.heap.size w w3) := Lib.hid (HB2.out.trans (hS3.mono HB2.out.size))
    have HV1 := Lib.hid ((hS3.block _ (Array.getElem?_eq_some_iff.1 HZ1.out).1).trans HZ1.out)
    have HV2 := Lib.hid ((hS3.block _ (Array.getElem?_eq_some_iff.1 HZ2.out).1).trans HZ2.out)
    have HA3 := Lib.hid (HA2.out.new hS3)
    have HB3r := Lib.hid (HB2r.out.new hS3)
    clear hS3 HZ1 HZ2 HZ3 HA2 HB2r HC2 HB2 HAB HBC HAC HBA HSM HAA HCK hinfoC HMX
    obtain ⟨a0, a1, _, _⟩ := blk2 HV1.out
    obtain ⟨b0, b1, _, _⟩ := blk2 HV2.out
    go_wp2_with fail
    refine (later_any ka kb _ _ da db w3 HA3.out HB3r.out H8A.out H8B.out (by have := HLA.out; omega) (by have := HLB.out; omega)).mono ?_
    rintro e w4 ⟨k, d, ok, v4, hl, rfl, ho, hb4⟩
    obtain ⟨ao4, cap4, rfl, _, _, _⟩ := ho.reads.val
    obtain ⟨W4, hW4⟩ : ∃ W4, W4 = w4.alloc (.cells #[.int .i64 k, .slice ao4 d.length cap4] 24) := ⟨_, rfl⟩
    have hb34 : Below w3.heap.size w3 W4 := by rw [hW4]; exact hb4.alloc hb4.size _
    have hx4 : W4.heap[w4.heap.size]? = some (.cells #[.int .i64 k, .slice ao4 d.length cap4] 24 (0, 0)) := by rw [hW4]; exact heap_alloc_new _ _
    have HD4 := Lib.hid (ho.reads.new (show Below w4.heap.size w4 W4 by rw [hW4]; exact (Below.refl _ _).alloc (Nat.le_refl _) _))
    have HU1 := Lib.hid ((hb34.block _ (Array.getElem?_eq_some_iff.1 HV1.out).1).trans HV1.out)
    have HU2 := Lib.hid ((hb34.block _ (Array.getElem?_eq_some_iff.1 HV2.out).1).trans HV2.out)
    have HA4 := Lib.hid (HA3.out.new hb34)
    have HB4r := Lib.hid (HB3r.out.new hb34)
    have HB4 := Lib.hid (HB3.out.trans (hb34.mono HB3.out.size))
    have HX4 := Lib.hid hx4
    have HW4 := Lib.hid hW4
    have HL := Lib.hid hl
    clear hb4 ho hb34 hx4 hW4 HV1 HV2 HA3 HB3r HB3 a0 a1 b0 b1 hl
    obtain ⟨a0, a1, _, _⟩ := blk2 HU1.out
    obtain ⟨b0, b1, _, _⟩ := blk2 HU2.out
    rw [HW4.out] at a0 a1 b0 b1
    go_wp2_with fail
    rw [← HW4.out]
    refine (later_any kb ka _ _ db da W4 HB4r.out HA4.out H8B.out H8A.out (by have := HLB.out; omega) (by have := HLA.out; omega)).mono ?_
    rintro e w5 ⟨k5, d5, ok5, v5, hl5, rfl, ho, hb5⟩
    obtain ⟨ao5, cap5, rfl, _, _, _⟩ := ho.reads.val
    obtain ⟨W5, hW5⟩ : ∃ W5, W5 = w5.alloc (.cells #[.int .i64 k5, .slice ao5 d5.length cap5] 24) := ⟨_, rfl⟩
    have hb45 : Below W4.heap.size W4 W5 := by rw [hW5]; exact hb5.alloc hb5.size _
    have hx5 : W5.heap[w5.heap.size]? = some (.cells #[.int .i64 k5, .slice ao5 d5.length cap5] 24 (0, 0)) := by rw [hW5]; exact heap_alloc_new _ _
    have HD5 := Lib.hid (ho.reads.new (show Below w5.heap.size w5 W5 by rw [hW5]; exact (Below.refl _ _).alloc (Nat.le_refl _) _))
    have HT1 := Lib.hid ((hb45.block _ (Array.getElem?_eq_some_iff.1 HU1.out).1).trans HU1.out)
    have HT2 := Lib.hid ((hb45.block _ (Array.getElem?_eq_some_iff.1 HU2.out).1).trans HU2.out)
    have HY4 := Lib.hid ((hb45.block _ (Array.getElem?_eq_some_iff.1 HX4.out).1).trans HX4.out)
    have HA5 := Lib.hid (HA4.out.new hb45)
    have HB5r := Lib.hid (HB4r.out.new hb45)
    have HL5 := Lib.hid (HD4.out.new hb45)
    have HB5 := Lib.hid (HB4.out.trans (hb45.mono HB4.out.size))
    have HX5 := Lib.hid hx5
    have HW5 := Lib.hid hW5
    have hev := later_even ka kb da db
    rw [← HL.out, ← hl5] at hev
    obtain ⟨h1, h2⟩ := hev
    simp only at h1 h2
    subst h1
    have HSS := Lib.hid h2
    have h8k := later_byte (k1 := ka) (k2 := kb) H8A.out H8B.out
    rw [← HL.out] at h8k
    have H8K := Lib.hid h8k
    have h8k5 := later_byte (k1 := kb) (k2 := ka) H8B.out H8A.out
    rw [← hl5] at h8k5
    have H8K5 := Lib.hid h8k5
    have hbt : ok = true → mayC ka da k d = true ∧ mayC kb db k d = true ∧ (sameC k d ka da = true ∨ sameC k d kb db = true) := by
      intro hok
      have := later_both (k1 := ka) (d1 := da) (k2 := kb) (d2 := db)
      rw [← HL.out] at this
      exact this hok
    have HBT := Lib.hid hbt
    clear hb5 ho hb45 hx5 hW5 HU1 HU2 HA4 HB4r HB4 HX4 HD4 a0 a1 b0 b1 hl5 h2 h8k h8k5 hbt HL HW4
    obtain ⟨e0, e1, _, _⟩ := blk2 HY4.out
    obtain ⟨f0, f1, _, _⟩ := blk2 HX5.out
    rw [HW5.out] at e0 e1 f0 f1
    have hbne : (ok != ok) = false := by cases ok <;> rfl
    go_wp2_with fail
    rw [← HW5.out]
    refine (same_any k k5 _ _ d d5 W5 HL5.out HD5.out H8K.out H8K5.out).mono ?_
    rintro e w6 ⟨rfl, hb6⟩
    rw [HSS.out]
    have HB6 := Lib.hid (HB5.out.trans (hb6.mono HB5.out.size))
    have HS1 := Lib.hid ((hb6.block _ (Array.getElem?_eq_some_iff.1 HT1.out).1).trans HT1.out)
    have HS2 := Lib.hid ((hb6.block _ (Array.getElem?_eq_some_iff.1 HT2.out).1).trans HT2.out)
    have HS4 := Lib.hid ((hb6.block _ (Array.getElem?_eq_some_iff.1 HY4.out).1).trans HY4.out)
    have HA6 := Lib.hid (HA5.out.new hb6)
    have HB6r := Lib.hid (HB5r.out.new hb6)
    have HL6 := Lib.hid (HL5.out.new hb6)
    clear hb6 HT1 HT2 HY4 HA5 HB5r HL5 HD5 HX5 HB5 e0 e1 f0 f1 HW5 HSS H8K5
    obtain ⟨a0, a1, _, _⟩ := blk2 HS1.out
    obtain ⟨b0, b1, _, _⟩ := blk2 HS2.out
    obtain ⟨e0, e1, _, _⟩ := blk2 HS4.out
    cases ok
    · go_wp2
      go_ret
      exact ⟨rfl, HB6.out⟩
    · obtain ⟨m1, m2, m3⟩ := HBT.out rfl
      have HM1 := Lib.hid m1
      have HM2 := Lib.hid m2
      have HM3 := Lib.hid m3
      clear m1 m2 m3 HBT hbne
      go_wp2_with fail
      refine (may_any ka k _ _ da d w6 HA6.out HL6.out H8A.out H8K.out).mono ?_
      rintro e w7 ⟨rfl, hb7⟩
      rw [HM1.out]
      have HB7 := Lib.hid (HB6.out.trans (hb7.mono HB6.out.size))
      have HR1 := Lib.hid ((hb7.block _ (Array.getElem?_eq_some_iff.1 HS1.out).1).trans HS1.out)
      have HR2 := Lib.hid ((hb7.block _ (Array.getElem?_eq_some_iff.1 HS2.out).1).trans HS2.out)
      have HR4 := Lib.hid ((hb7.block _ (Array.getElem?_eq_some_iff.1 HS4.out).1).trans HS4.out)
      have HA7 := Lib.hid (HA6.out.new hb7)
      have HB7r := Lib.hid (HB6r.out.new hb7)
      have HL7 := Lib.hid (HL6.out.new hb7)
      clear hb7 HS1 HS2 HS4 HA6 HB6r HL6 HB6 a0 a1 b0 b1 e0 e1
      obtain ⟨a0, a1, _, _⟩ := blk2 HR1.out
      obtain ⟨b0, b1, _, _⟩ := blk2 HR2.out
      obtain ⟨e0, e1, _, _⟩ := blk2 HR4.out
      go_wp2_with fail
      refine (may_any kb k _ _ db d w7 HB7r.out HL7.out H8B.out H8K.out).mono ?_
      rintro e w8 ⟨rfl, hb8⟩
      rw [HM2.out]
      have HB8 := Lib.hid (HB7.out.trans (hb8.mono HB7.out.size))
      have HQ1 := Lib.hid ((hb8.block _ (Array.getElem?_eq_some_iff.1 HR1.out).1).trans HR1.out)
      have HQ2 := Lib.hid ((hb8.block _ (Array.getElem?_eq_some_iff.1 HR2.out).1).trans HR2.out)
      have HQ4 := Lib.hid ((hb8.block _ (Array.getElem?_eq_some_iff.1 HR4.out).1).trans HR4.out)
      have HA8 := Lib.hid (HA7.out.new hb8)
      have HB8r := Lib.hid (HB7r.out.new hb8)
      have HL8 := Lib.hid (HL7.out.new hb8)
      clear hb8 HR1 HR2 HR4 HA7 HB7r HL7 HB7 a0 a1 b0 b1 e0 e1
      obtain ⟨a0, a1, _, _⟩ := blk2 HQ1.out
      obtain ⟨b0, b1, _, _⟩ := blk2 HQ2.out
      obtain ⟨e0, e1, _, _⟩ := blk2 HQ4.out
      go_wp2_with fail
      refine (same_any k ka _ _ d da w8 HL8.out HA8.out H8K.out H8A.out).mono ?_
      rintro e w9 ⟨rfl, hb9⟩
      cases hsa : sameC k d ka da
      · have hsb : sameC k d kb db = true := by
          rcases HM3.out with h | h
          · rw [hsa] at h; cases h
          · exact h
        have HSB := Lib.hid hsb
        clear hsb hsa
        have HB9 := Lib.hid (HB8.out.trans (hb9.mono HB8.out.size))
        have HP2 := Lib.hid ((hb9.block _ (Array.getElem?_eq_some_iff.1 HQ2.out).1).trans HQ2.out)
        have HP4 := Lib.hid ((hb9.block _ (Array.getElem?_eq_some_iff.1 HQ4.out).1).trans HQ4.out)
        have HB9r := Lib.hid (HB8r.out.new hb9)
        have HL9 := Lib.hid (HL8.out.new hb9)
        clear hb9 HQ1 HQ2 HQ4 HA8 HB8r HL8 HB8 a0 a1 b0 b1 e0 e1
        obtain ⟨b0, b1, _, _⟩ := blk2 HP2.out
        obtain ⟨e0, e1, _, _⟩ := blk2 HP4.out
        go_wp2_with fail
        refine (same_any k kb _ _ d db w9 HL9.out HB9r.out H8K.out H8B.out).mono ?_
        rintro e w10 ⟨rfl, hb10⟩
        rw [HSB.out]
        go_wp2
        go_ret
        exact ⟨rfl, HB9.out.trans (hb10.mono HB9.out.size)⟩
      · go_wp2
        go_ret
        exact ⟨rfl, HB8.out.trans (hb9.mono HB8.out.size)⟩
  · skip
    go_wp2_with fail
    refine wp_region_ext pre_below (Below.refl _ _).drew HMX.out ?_
    refine ext_take pre_below (i := 0) (d := 18) (v := ?_) rfl rfl (by kernel_rfl) (by kernel_rfl) (by kernel_rfl) (fun _ _ _ h => h) (by rfl) (fun W hS => ?_) ?_
    rotate_left
    · skip
      (refine load_gives 24 (.tmp 3) ?_ w.heap.size ?_ _ #[.int .i64 ka, .slice ao1 da.length cap1] (0, 0) _ ((hS.block _ (Array.getElem?_eq_some_iff.1 HZ1.out).1).trans HZ1.out) Try.underlying24 rfl hinfoC (Below.refl _ _) <;> rfl)
    simp only [List.setIfInBounds_toArray, List.set_cons_zero, List.set_cons_succ]
    refine ext_take pre_below (i := 1) (d := 19) (v := ?_) rfl rfl (by kernel_rfl) (by kernel_rfl) (by kernel_rfl) (fun _ _ _ h => h) (by rfl) (fun W hS => ?_) ?_
    rotate_left
    · skip
      (refine load_gives 24 (.tmp 4) ?_ (w.heap.size + 1) ?_ _ #[.int .i64 kb, .slice ao2 db.length cap2] (0, 0) _ ((hS.block _ (Array.getElem?_eq_some_iff.1 HZ2.out).1).trans HZ2.out) Try.underlying24 rfl hinfoC (Below.refl _ _) <;> rfl)
    simp only [List.setIfInBounds_toArray, List.set_cons_zero, List.set_cons_succ]
    refine ext_take pre_below (i := 2) (d := 20) (v := ?_) rfl rfl (by kernel_rfl) (by kernel_rfl) (by kernel_rfl) (fun _ _ _ h => h) (by rfl) (fun W hS => ?_) ?_
    rotate_left
    · skip
      go_simp; refine Gives.enter ((may_any ka kb _ _ da db W (HA2.out.new hS) (HB2r.out.new hS) H8A.out H8B.out).mono ?_); rintro e wn ⟨rfl, hbn⟩; rw [HAB.out]; refine ⟨?_, hbn⟩; with_reducible rfl
    simp only [List.setIfInBounds_toArray, List.set_cons_zero, List.set_cons_succ]
    refine ext_take pre_below (i := 3) (d := 21) (v := ?_) rfl rfl (by kernel_rfl) (by kernel_rfl) (by kernel_rfl) (fun _ _ _ h => h) (by rfl) (fun W hS => ?_) ?_
    rotate_left
    · skip
      refine gives_value (w := W) (by exact Below.refl _ _) ?_; go_simp; try with_reducible rfl
    simp only [List.setIfInBounds_toArray, List.set_cons_zero, List.set_cons_succ]
    first
      | (refine ext_skip pre_below (i := 4) (d := 22) rfl rfl (by kernel_rfl) (by kernel_rfl) (by kernel_rfl) (fun _ _ _ h => h) (by rfl) ?_)
      | (refine ext_take pre_below (i := 4) (d := 22) (v := ?_) rfl rfl (by kernel_rfl) (by kernel_rfl) (by kernel_rfl) (fun _ _ _ h => h) (by rfl) (fun W hS => ?_) ?_
         rotate_left
         · skip
           (refine load_gives 24 (.tmp 4) ?_ (w.heap.size + 1) ?_ _ #[.int .i64 kb, .slice ao2 db.length cap2] (0, 0) _ ((hS.block _ (Array.getElem?_eq_some_iff.1 HZ2.out).1).trans HZ2.out) Try.underlying24 rfl hinfoC (Below.refl _ _) <;> rfl))
    simp only [List.setIfInBounds_toArray, List.set_cons_zero, List.set_cons_succ]
    first
      | (refine ext_skip pre_below (i := 5) (d := 23) rfl rfl (by kernel_rfl) (by kernel_rfl) (by kernel_rfl) (fun _ _ _ h => h) (by rfl) ?_)
      | (refine ext_take pre_below (i := 5) (d := 23) (v := ?_) rfl rfl (by kernel_rfl) (by kernel_rfl) (by kernel_rfl) (fun _ _ _ h => h) (by rfl) (fun W hS => ?_) ?_
         rotate_left
         · skip
           (refine load_gives 24 (.tmp 5) ?_ (w.heap.size + 1 + 1) ?_ _ #[.int .i64 kc, .slice ao3 dc.length cap3] (0, 0) _ ((hS.block _ (Array.getElem?_eq_some_iff.1 HZ3.out).1).trans HZ3.out) Try.underlying24 rfl hinfoC (Below.refl _ _) <;> rfl))
    simp only [List.setIfInBounds_toArray, List.set_cons_zero, List.set_cons_succ]
    first
      | (refine ext_skip pre_below (i := 6) (d := 24) rfl rfl (by kernel_rfl) (by kernel_rfl) (by kernel_rfl) (fun _ _ _ h => h) (by rfl) ?_)
      | (refine ext_take pre_below (i := 6) (d := 24) (v := ?_) rfl rfl (by kernel_rfl) (by kernel_rfl) (by kernel_rfl) (fun _ _ _ h => h) (by rfl) (fun W hS => ?_) ?_
         rotate_left
         · skip
           go_simp; refine Gives.enter ((may_any kb kc _ _ db dc W (HB2r.out.new hS) (HC2.out.new hS) H8B.out H8C.out).mono ?_); rintro e wn ⟨rfl, hbn⟩; rw [HBC.out]; refine ⟨?_, hbn⟩; with_reducible rfl)
    simp only [List.setIfInBounds_toArray, List.set_cons_zero, List.set_cons_succ]
    refine ext_take pre_below (i := 7) (d := 25) (v := ?_) rfl rfl (by kernel_rfl) (by kernel_rfl) (by kernel_rfl) (fun _ _ _ h => h) (by rfl) (fun W hS => ?_) ?_
    rotate_left
    · skip
      refine gives_value (w := W) (by exact Below.refl _ _) ?_; go_simp; try with_reducible rfl
    simp only [List.setIfInBounds_toArray, List.set_cons_zero, List.set_cons_succ]
    refine ext_take pre_below (i := 8) (d := 26) (v := ?_) rfl rfl (by kernel_rfl) (by kernel_rfl) (by kernel_rfl) (fun _ _ _ h => h) (by rfl) (fun W hS => ?_) ?_
    rotate_left
    · skip
      refine gives_value (w := W) (by exact Below.refl _ _) ?_; go_simp; try with_reducible rfl
    simp only [List.setIfInBounds_toArray, List.set_cons_zero, List.set_cons_succ]
    first
      | (refine ext_skip pre_below (i := 9) (d := 27) rfl rfl (by kernel_rfl) (by kernel_rfl) (by kernel_rfl) (fun _ _ _ h => h) (by rfl) ?_)
      | (refine ext_take pre_below (i := 9) (d := 27) (v := ?_) rfl rfl (by kernel_rfl) (by kernel_rfl) (by kernel_rfl) (fun _ _ _ h => h) (by rfl) (fun W hS => ?_) ?_
         rotate_left
         · skip
           (refine load_gives 24 (.tmp 3) ?_ w.heap.size ?_ _ #[.int .i64 ka, .slice ao1 da.length cap1] (0, 0) _ ((hS.block _ (Array.getElem?_eq_some_iff.1 HZ1.out).1).trans HZ1.out) Try.underlying24 rfl hinfoC (Below.refl _ _) <;> rfl))
    simp only [List.setIfInBounds_toArray, List.set_cons_zero, List.set_cons_succ]
    first
      | (refine ext_skip pre_below (i := 10) (d := 28) rfl rfl (by kernel_rfl) (by kernel_rfl) (by kernel_rfl) (fun _ _ _ h => h) (by rfl) ?_)
      | (refine ext_take pre_below (i := 10) (d := 28) (v := ?_) rfl rfl (by kernel_rfl) (by kernel_rfl) (by kernel_rfl) (fun _ _ _ h => h) (by rfl) (fun W hS => ?_) ?_
         rotate_left
         · skip
           (refine load_gives 24 (.tmp 5) ?_ (w.heap.size + 1 + 1) ?_ _ #[.int .i64 kc, .slice ao3 dc.length cap3] (0, 0) _ ((hS.block _ (Array.getElem?_eq_some_iff.1 HZ3.out).1).trans HZ3.out) Try.underlying24 rfl hinfoC (Below.refl _ _) <;> rfl))
    simp only [List.setIfInBounds_toArray, List.set_cons_zero, List.set_cons_succ]
    first
      | (refine ext_skip pre_below (i := 11) (d := 29) rfl rfl (by kernel_rfl) (by kernel_rfl) (by kernel_rfl) (fun _ _ _ h => h) (by rfl) ?_)
      | (refine ext_take pre_below (i := 11) (d := 29) (v := ?_) rfl rfl (by kernel_rfl) (by kernel_rfl) (by kernel_rfl) (fun _ _ _ h => h) (by rfl) (fun W hS => ?_) ?_
         rotate_left
         · skip
           go_simp; refine Gives.enter ((may_any ka kc _ _ da dc W (HA2.out.new hS) (HC2.out.new hS) H8A.out H8C.out).mono ?_); rintro e wn ⟨rfl, hbn⟩; rw [HAC.out]; refine ⟨?_, hbn⟩; with_reducible rfl)
    simp only [List.setIfInBounds_toArray, List.set_cons_zero, List.set_cons_succ]
    first
      | (refine ext_skip pre_below (i := 12) (d := 30) rfl rfl (by kernel_rfl) (by kernel_rfl) (by kernel_rfl) (fun _ _ _ h => h) (by rfl) ?_)
      | (refine ext_take pre_below (i := 12) (d := 30) (v := ?_) rfl rfl (by kernel_rfl) (by kernel_rfl) (by kernel_rfl) (fun _ _ _ h => h) (by rfl) (fun W hS => ?_) ?_
         rotate_left
         · skip
           refine gives_value (w := W) (by exact Below.refl _ _) ?_; go_simp; try with_reducible rfl)
    simp only [List.setIfInBounds_toArray, List.set_cons_zero, List.set_cons_succ]
    refine ext_take pre_below (i := 13) (d := 31) (v := ?_) rfl rfl (by kernel_rfl) (by kernel_rfl) (by kernel_rfl) (fun _ _ _ h => h) (by rfl) (fun W hS => ?_) ?_
    rotate_left
    · skip
      refine gives_value (w := W) (by exact Below.refl _ _) ?_; go_simp; try with_reducible rfl
    simp only [List.setIfInBounds_toArray, List.set_cons_zero, List.set_cons_succ]
    refine ext_take pre_below (i := 14) (d := 32) (v := ?_) rfl rfl (by kernel_rfl) (by kernel_rfl) (by kernel_rfl) (fun _ _ _ h => h) (by rfl) (fun W hS => ?_) ?_
    rotate_left
    · skip
      refine gives_value (w := W) (by exact Below.refl _ _) ?_; go_simp; try with_reducible rfl
    simp only [List.setIfInBounds_toArray, List.set_cons_zero, List.set_cons_succ]
    first
      | (refine ext_skip pre_below (i := 15) (d := 33) rfl rfl (by kernel_rfl) (by kernel_rfl) (by kernel_rfl) (fun _ _ _ h => h) (by rfl) ?_)
      | (refine ext_take pre_below (i := 15) (d := 33) (v := ?_) rfl rfl (by kernel_rfl) (by kernel_rfl) (by kernel_rfl) (fun _ _ _ h => h) (by rfl) (fun W hS => ?_) ?_
         rotate_left
         · skip
           (refine load_gives 24 (.tmp 3) ?_ w.heap.size ?_ _ #[.int .i64 ka, .slice ao1 da.length cap1] (0, 0) _ ((hS.block _ (Array.getElem?_eq_some_iff.1 HZ1.out).1).trans HZ1.out) Try.underlying24 rfl hinfoC (Below.refl _ _) <;> rfl))
    simp only [List.setIfInBounds_toArray, List.set_cons_zero, List.set_cons_succ]
    first
      | (refine ext_skip pre_below (i := 16) (d := 34) rfl rfl (by kernel_rfl) (by kernel_rfl) (by kernel_rfl) (fun _ _ _ h => h) (by rfl) ?_)
      | (refine ext_take pre_below (i := 16) (d := 34) (v := ?_) rfl rfl (by kernel_rfl) (by kernel_rfl) (by kernel_rfl) (fun _ _ _ h => h) (by rfl) (fun W hS => ?_) ?_
         rotate_left
         · skip
           (refine load_gives 24 (.tmp 4) ?_ (w.heap.size + 1) ?_ _ #[.int .i64 kb, .slice ao2 db.length cap2] (0, 0) _ ((hS.block _ (Array.getElem?_eq_some_iff.1 HZ2.out).1).trans HZ2.out) Try.underlying24 rfl hinfoC (Below.refl _ _) <;> rfl))
    simp only [List.setIfInBounds_toArray, List.set_cons_zero, List.set_cons_succ]
    first
      | (refine ext_skip pre_below (i := 17) (d := 35) rfl rfl (by kernel_rfl) (by kernel_rfl) (by kernel_rfl) (fun _ _ _ h => h) (by rfl) ?_)
      | (refine ext_take pre_below (i := 17) (d := 35) (v := ?_) rfl rfl (by kernel_rfl) (by kernel_rfl) (by kernel_rfl) (fun _ _ _ h => h) (by rfl) (fun W hS => ?_) ?_
         rotate_left
         · skip
           go_simp; refine Gives.enter ((may_any ka kb _ _ da db W (HA2.out.new hS) (HB2r.out.new hS) H8A.out H8B.out).mono ?_); rintro e wn ⟨rfl, hbn⟩; rw [HAB.out]; refine ⟨?_, hbn⟩; with_reducible rfl)
    simp only [List.setIfInBounds_toArray, List.set_cons_zero, List.set_cons_succ]
    first
      | (refine ext_skip pre_below (i := 18) (d := 36) rfl rfl (by kernel_rfl) (by kernel_rfl) (by kernel_rfl) (fun _ _ _ h => h) (by rfl) ?_)
      | (refine ext_take pre_below (i := 18) (d := 36) (v := ?_) rfl rfl (by kernel_rfl) (by kernel_rfl) (by kernel_rfl) (fun _ _ _ h => h) (by rfl) (fun W hS => ?_) ?_
         rotate_left
         · skip
           refine gives_value (w := W) (by exact Below.refl _ _) ?_; go_simp; try with_reducible rfl)
    simp only [List.setIfInBounds_toArray, List.set_cons_zero, List.set_cons_succ]
    first
      | (refine ext_skip pre_below (i := 19) (d := 37) rfl rfl (by kernel_rfl) (by kernel_rfl) (by kernel_rfl) (fun _ _ _ h => h) (by rfl) ?_)
      | (refine ext_take pre_below (i := 19) (d := 37) (v := ?_) rfl rfl (by kernel_rfl) (by kernel_rfl) (by kernel_rfl) (fun _ _ _ h => h) (by rfl) (fun W hS => ?_) ?_
         rotate_left
         · skip
           (refine load_gives 24 (.tmp 4) ?_ (w.heap.size + 1) ?_ _ #[.int .i64 kb, .slice ao2 db.length cap2] (0, 0) _ ((hS.block _ (Array.getElem?_eq_some_iff.1 HZ2.out).1).trans HZ2.out) Try.underlying24 rfl hinfoC (Below.refl _ _) <;> rfl))
    simp only [List.setIfInBounds_toArray, List.set_cons_zero, List.set_cons_succ]
    first
      | (refine ext_skip pre_below (i := 20) (d := 38) rfl rfl (by kernel_rfl) (by kernel_rfl) (by kernel_rfl) (fun _ _ _ h => h) (by rfl) ?_)
      | (refine ext_take pre_below (i := 20) (d := 38) (v := ?_) rfl rfl (by kernel_rfl) (by kernel_rfl) (by kernel_rfl) (fun _ _ _ h => h) (by rfl) (fun W hS => ?_) ?_
         rotate_left
         · skip
           (refine load_gives 24 (.tmp 3) ?_ w.heap.size ?_ _ #[.int .i64 ka, .slice ao1 da.length cap1] (0, 0) _ ((hS.block _ (Array.getElem?_eq_some_iff.1 HZ1.out).1).trans HZ1.out) Try.underlying24 rfl hinfoC (Below.refl _ _) <;> rfl))
    simp only [List.setIfInBounds_toArray, List.set_cons_zero, List.set_cons_succ]
    first
      | (refine ext_skip pre_below (i := 21) (d := 39) rfl rfl (by kernel_rfl) (by kernel_rfl) (by kernel_rfl) (fun _ _ _ h => h) (by rfl) ?_)
      | (refine ext_take pre_below (i := 21) (d := 39) (v := ?_) rfl rfl (by kernel_rfl) (by kernel_rfl) (by kernel_rfl) (fun _ _ _ h => h) (by rfl) (fun W hS => ?_) ?_
         rotate_left
         · skip
           go_simp; refine Gives.enter ((may_any kb ka _ _ db da W (HB2r.out.new hS) (HA2.out.new hS) H8B.out H8A.out).mono ?_); rintro e wn ⟨rfl, hbn⟩; rw [HBA.out]; refine ⟨?_, hbn⟩; with_reducible rfl)
    simp only [List.setIfInBounds_toArray, List.set_cons_zero, List.set_cons_succ]
    first
      | (refine ext_skip pre_below (i := 22) (d := 40) rfl rfl (by kernel_rfl) (by kernel_rfl) (by kernel_rfl) (fun _ _ _ h => h) (by rfl) ?_)
      | (refine ext_take pre_below (i := 22) (d := 40) (v := ?_) rfl rfl (by kernel_rfl) (by kernel_rfl) (by kernel_rfl) (fun _ _ _ h => h) (by rfl) (fun W hS => ?_) ?_
         rotate_left
         · skip
           refine gives_value (w := W) (by exact Below.refl _ _) ?_; go_simp; try with_reducible rfl)
    simp only [List.setIfInBounds_toArray, List.set_cons_zero, List.set_cons_succ]
    first
      | (refine ext_skip pre_below (i := 23) (d := 41) rfl rfl (by kernel_rfl) (by kernel_rfl) (by kernel_rfl) (fun _ _ _ h => h) (by rfl) ?_)
      | (refine ext_take pre_below (i := 23) (d := 41) (v := ?_) rfl rfl (by kernel_rfl) (by kernel_rfl) (by kernel_rfl) (fun _ _ _ h => h) (by rfl) (fun W hS => ?_) ?_
         rotate_left
         · skip
           refine gives_value (w := W) (by exact Below.refl _ _) ?_; go_simp; try with_reducible rfl)
    simp only [List.setIfInBounds_toArray, List.set_cons_zero, List.set_cons_succ]
    first
      | (refine ext_skip pre_below (i := 24) (d := 42) rfl rfl (by kernel_rfl) (by kernel_rfl) (by kernel_rfl) (fun _ _ _ h => h) (by rfl) ?_)
      | (refine ext_take pre_below (i := 24) (d := 42) (v := ?_) rfl rfl (by kernel_rfl) (by kernel_rfl) (by kernel_rfl) (fun _ _ _ h => h) (by rfl) (fun W hS => ?_) ?_
         rotate_left
         · skip
           (refine load_gives 24 (.tmp 3) ?_ w.heap.size ?_ _ #[.int .i64 ka, .slice ao1 da.length cap1] (0, 0) _ ((hS.block _ (Array.getElem?_eq_some_iff.1 HZ1.out).1).trans HZ1.out) Try.underlying24 rfl hinfoC (Below.refl _ _) <;> rfl))
    simp only [List.setIfInBounds_toArray, List.set_cons_zero, List.set_cons_succ]
    first
      | (refine ext_skip pre_below (i := 25) (d := 43) rfl rfl (by kernel_rfl) (by kernel_rfl) (by kernel_rfl) (fun _ _ _ h => h) (by rfl) ?_)
      | (refine ext_take pre_below (i := 25) (d := 43) (v := ?_) rfl rfl (by kernel_rfl) (by kernel_rfl) (by kernel_rfl) (fun _ _ _ h => h) (by rfl) (fun W hS => ?_) ?_
         rotate_left
         · skip
           (refine load_gives 24 (.tmp 4) ?_ (w.heap.size + 1) ?_ _ #[.int .i64 kb, .slice ao2 db.length cap2] (0, 0) _ ((hS.block _ (Array.getElem?_eq_some_iff.1 HZ2.out).1).trans HZ2.out) Try.underlying24 rfl hinfoC (Below.refl _ _) <;> rfl))
    simp only [List.setIfInBounds_toArray, List.set_cons_zero, List.set_cons_succ]
    first
      | (refine ext_skip pre_below (i := 26) (d := 44) rfl rfl (by kernel_rfl) (by kernel_rfl) (by kernel_rfl) (fun _ _ _ h => h) (by rfl) ?_)
      | (refine ext_take pre_below (i := 26) (d := 44) (v := ?_) rfl rfl (by kernel_rfl) (by kernel_rfl) (by kernel_rfl) (fun _ _ _ h => h) (by rfl) (fun W hS => ?_) ?_
         rotate_left
         · skip
           go_simp; refine Gives.enter ((same_any ka kb _ _ da db W (HA2.out.new hS) (HB2r.out.new hS) H8A.out H8B.out).mono ?_); rintro e wn ⟨rfl, hbn⟩; rw [HSM.out]; refine ⟨?_, hbn⟩; with_reducible rfl)
    simp only [List.setIfInBounds_toArray, List.set_cons_zero, List.set_cons_succ]
    first
      | (refine ext_skip pre_below (i := 27) (d := 45) rfl rfl (by kernel_rfl) (by kernel_rfl) (by kernel_rfl) (fun _ _ _ h => h) (by rfl) ?_)
      | (refine ext_take pre_below (i := 27) (d := 45) (v := ?_) rfl rfl (by kernel_rfl) (by kernel_rfl) (by kernel_rfl) (fun _ _ _ h => h) (by rfl) (fun W hS => ?_) ?_
         rotate_left
         · skip
           refine gives_value (w := W) (by exact Below.refl _ _) ?_; go_simp; try with_reducible rfl)
    simp only [List.setIfInBounds_toArray, List.set_cons_zero, List.set_cons_succ]
    first
      | (refine ext_skip pre_below (i := 28) (d := 46) rfl rfl (by kernel_rfl) (by kernel_rfl) (by kernel_rfl) (fun _ _ _ h => h) (by rfl) ?_)
      | (refine ext_take pre_below (i := 28) (d := 46) (v := ?_) rfl rfl (by kernel_rfl) (by kernel_rfl) (by kernel_rfl) (fun _ _ _ h => h) (by rfl) (fun W hS => ?_) ?_
         rotate_left
         · skip
           refine gives_value (w := W) (by exact Below.refl _ _) ?_; go_simp; try with_reducible rfl)
    simp only [List.setIfInBounds_toArray, List.set_cons_zero, List.set_cons_succ]
    refine ext_take pre_below (i := 29) (d := 47) (v := ?_) rfl rfl (by kernel_rfl) (by kernel_rfl) (by kernel_rfl) (fun _ _ _ h => h) (by rfl) (fun W hS => ?_) ?_
    rotate_left
    · skip
      refine gives_value (w := W) (by exact Below.refl _ _) ?_; go_simp; try with_reducible rfl
    simp only [List.setIfInBounds_toArray, List.set_cons_zero, List.set_cons_succ]
    refine ext_take pre_below (i := 30) (d := 48) (v := ?_) rfl rfl (by kernel_rfl) (by kernel_rfl) (by kernel_rfl) (fun _ _ _ h => h) (by rfl) (fun W hS => ?_) ?_
    rotate_left
    · skip
      refine gives_value (w := W) (by exact Below.refl _ _) ?_; go_simp; try with_reducible rfl
    simp only [List.setIfInBounds_toArray, List.set_cons_zero, List.set_cons_succ]
    first
      | (refine ext_skip pre_below (i := 31) (d := 49) rfl rfl (by kernel_rfl) (by kernel_rfl) (by kernel_rfl) (fun _ _ _ h => h) (by rfl) ?_)
      | (refine ext_take pre_below (i := 31) (d := 49) (v := ?_) rfl rfl (by kernel_rfl) (by kernel_rfl) (by kernel_rfl) (fun _ _ _ h => h) (by rfl) (fun W hS => ?_) ?_
         rotate_left
         · skip
           (refine load_gives 24 (.tmp 3) ?_ w.heap.size ?_ _ #[.int .i64 ka, .slice ao1 da.length cap1] (0, 0) _ ((hS.block _ (Array.getElem?_eq_some_iff.1 HZ1.out).1).trans HZ1.out) Try.underlying24 rfl hinfoC (Below.refl _ _) <;> rfl))
    simp only [List.setIfInBounds_toArray, List.set_cons_zero, List.set_cons_succ]
    first
      | (refine ext_skip pre_below (i := 32) (d := 50) rfl rfl (by kernel_rfl) (by kernel_rfl) (by kernel_rfl) (fun _ _ _ h => h) (by rfl) ?_)
      | (refine ext_take pre_below (i := 32) (d := 50) (v := ?_) rfl rfl (by kernel_rfl) (by kernel_rfl) (by kernel_rfl) (fun _ _ _ h => h) (by rfl) (fun W hS => ?_) ?_
         rotate_left
         · skip
           go_simp; refine Gives.enter ((check_any ka _ da W (HA2.out.new hS)).mono ?_); rintro e wn ⟨rfl, hbn⟩; rw [HCK.out]; refine ⟨?_, hbn⟩; with_reducible rfl)
    simp only [List.setIfInBounds_toArray, List.set_cons_zero, List.set_cons_succ]
    first
      | (refine ext_skip pre_below (i := 33) (d := 51) rfl rfl (by kernel_rfl) (by kernel_rfl) (by kernel_rfl) (fun _ _ _ h => h) (by rfl) ?_)
      | (refine ext_take pre_below (i := 33) (d := 51) (v := ?_) rfl rfl (by kernel_rfl) (by kernel_rfl) (by kernel_rfl) (fun _ _ _ h => h) (by rfl) (fun W hS => ?_) ?_
         rotate_left
         · skip
           refine gives_value (w := W) (by exact Below.refl _ _) ?_; go_simp; try with_reducible rfl)
    simp only [List.setIfInBounds_toArray, List.set_cons_zero, List.set_cons_succ]
    first
      | (refine ext_skip pre_below (i := 34) (d := 52) rfl rfl (by kernel_rfl) (by kernel_rfl) (by kernel_rfl) (fun _ _ _ h => h) (by rfl) ?_)
      | (refine ext_take pre_below (i := 34) (d := 52) (v := ?_) rfl rfl (by kernel_rfl) (by kernel_rfl) (by kernel_rfl) (fun _ _ _ h => h) (by rfl) (fun W hS => ?_) ?_
         rotate_left
         · skip
           (refine load_gives 24 (.tmp 3) ?_ w.heap.size ?_ _ #[.int .i64 ka, .slice ao1 da.length cap1] (0, 0) _ ((hS.block _ (Array.getElem?_eq_some_iff.1 HZ1.out).1).trans HZ1.out) Try.underlying24 rfl hinfoC (Below.refl _ _) <;> rfl))
    simp only [List.setIfInBounds_toArray, List.set_cons_zero, List.set_cons_succ]
    first
      | (refine ext_skip pre_below (i := 35) (d := 53) rfl rfl (by kernel_rfl) (by kernel_rfl) (by kernel_rfl) (fun _ _ _ h => h) (by rfl) ?_)
      | (refine ext_take pre_below (i := 35) (d := 53) (v := ?_) rfl rfl (by kernel_rfl) (by kernel_rfl) (by kernel_rfl) (fun _ _ _ h => h) (by rfl) (fun W hS => ?_) ?_
         rotate_left
         · skip
           (refine load_gives 24 (.tmp 3) ?_ w.heap.size ?_ _ #[.int .i64 ka, .slice ao1 da.length cap1] (0, 0) _ ((hS.block _ (Array.getElem?_eq_some_iff.1 HZ1.out).1).trans HZ1.out) Try.underlying24 rfl hinfoC (Below.refl _ _) <;> rfl))
    simp only [List.setIfInBounds_toArray, List.set_cons_zero, List.set_cons_succ]
    first
      | (refine ext_skip pre_below (i := 36) (d := 54) rfl rfl (by kernel_rfl) (by kernel_rfl) (by kernel_rfl) (fun _ _ _ h => h) (by rfl) ?_)
      | (refine ext_take pre_below (i := 36) (d := 54) (v := ?_) rfl rfl (by kernel_rfl) (by kernel_rfl) (by kernel_rfl) (fun _ _ _ h => h) (by rfl) (fun W hS => ?_) ?_
         rotate_left
         · skip
           go_simp; refine Gives.enter ((may_any ka ka _ _ da da W (HA2.out.new hS) (HA2.out.new hS) H8A.out H8A.out).mono ?_); rintro e wn ⟨rfl, hbn⟩; rw [HAA.out]; refine ⟨?_, hbn⟩; with_reducible rfl)
    simp only [List.setIfInBounds_toArray, List.set_cons_zero, List.set_cons_succ]
    first
      | (refine ext_skip pre_below (i := 37) (d := 55) rfl rfl (by kernel_rfl) (by kernel_rfl) (by kernel_rfl) (fun _ _ _ h => h) (by rfl) ?_)
      | (refine ext_take pre_below (i := 37) (d := 55) (v := ?_) rfl rfl (by kernel_rfl) (by kernel_rfl) (by kernel_rfl) (fun _ _ _ h => h) (by rfl) (fun W hS => ?_) ?_
         rotate_left
         · skip
           refine gives_value (w := W) (by exact Below.refl _ _) ?_; go_simp; try with_reducible rfl)
    simp only [List.setIfInBounds_toArray, List.set_cons_zero, List.set_cons_succ]
    refine ext_take pre_below (i := 38) (d := 56) (v := ?_) rfl rfl (by kernel_rfl) (by kernel_rfl) (by kernel_rfl) (fun _ _ _ h => h) (by rfl) (fun W hS => ?_) ?_
    rotate_left
    · skip
      refine gives_value (w := W) (by exact Below.refl _ _) ?_; go_simp; try with_reducible rfl
    simp only [List.setIfInBounds_toArray, List.set_cons_zero, List.set_cons_succ]
    refine ext_done (by kernel_rfl) (fun w3 hS3 => ?_) _
    have HB3 : Hid (Below w.heap.size w w3) := Lib.hid (HB2.out.trans (hS3.mono HB2.out.size))
    have HV1 := Lib.hid ((hS3.block _ (Array.getElem?_eq_some_iff.1 HZ1.out).1).trans HZ1.out)
    have HV2 := Lib.hid ((hS3.block _ (Array.getElem?_eq_some_iff.1 HZ2.out).1).trans HZ2.out)
    have HA3 := Lib.hid (HA2.out.new hS3)
    have HB3r := Lib.hid (HB2r.out.new hS3)
    clear hS3 HZ1 HZ2 HZ3 HA2 HB2r HC2 HB2 HAB HBC HAC HBA HSM HAA HCK hinfoC HMX
    obtain ⟨a0, a1, _, _⟩ := blk2 HV1.out
    obtain ⟨b0, b1, _, _⟩ := blk2 HV2.out
    go_wp2_with fail
    refine (later_any ka kb _ _ da db w3 HA3.out HB3r.out H8A.out H8B.out (by have := HLA.out; omega) (by have := HLB.out; omega)).mono ?_
    rintro e w4 ⟨k, d, ok, v4, hl, rfl, ho, hb4⟩
    obtain ⟨ao4, cap4, rfl, _, _, _⟩ := ho.reads.val
    obtain ⟨W4, hW4⟩ : ∃ W4, W4 = w4.alloc (.cells #[.int .i64 k, .slice ao4 d.length cap4] 24) := ⟨_, rfl⟩
    have hb34 : Below w3.heap.size w3 W4 := by rw [hW4]; exact hb4.alloc hb4.size _
    have hx4 : W4.heap[w4.heap.size]? = some (.cells #[.int .i64 k, .slice ao4 d.length cap4] 24 (0, 0)) := by rw [hW4]; exact heap_alloc_new _ _
    have HD4 := Lib.hid (ho.reads.new (show Below w4.heap.size w4 W4 by rw [hW4]; exact (Below.refl _ _).alloc (Nat.le_refl _) _))
    have HU1 := Lib.hid ((hb34.block _ (Array.getElem?_eq_some_iff.1 HV1.out).1).trans HV1.out)
    have HU2 := Lib.hid ((hb34.block _ (Array.getElem?_eq_some_iff.1 HV2.out).1).trans HV2.out)
    have HA4 := Lib.hid (HA3.out.new hb34)
    have HB4r := Lib.hid (HB3r.out.new hb34)
    have HB4 := Lib.hid (HB3.out.trans (hb34.mono HB3.out.size))
    have HX4 := Lib.hid hx4
    have HW4 := Lib.hid hW4
    have HL := Lib.hid hl
    clear hb4 ho hb34 hx4 hW4 HV1 HV2 HA3 HB3r HB3 a0 a1 b0 b1 hl
    obtain ⟨a0, a1, _, _⟩ := blk2 HU1.out
    obtain ⟨b0, b1, _, _⟩ := blk2 HU2.out
    rw [HW4.out] at a0 a1 b0 b1
    go_wp2_with fail
    rw [← HW4.out]
    refine (later_any kb ka _ _ db da W4 HB4r.out HA4.out H8B.out H8A.out (by have := HLB.out; omega) (by have := HLA.out; omega)).mono ?_
    rintro e w5 ⟨k5, d5, ok5, v5, hl5, rfl, ho, hb5⟩
    obtain ⟨ao5, cap5, rfl, _, _, _⟩ := ho.reads.val
    obtain ⟨W5, hW5⟩ : ∃ W5, W5 = w5.alloc (.cells #[.int .i64 k5, .slice ao5 d5.length cap5] 24) := ⟨_, rfl⟩
    have hb45 : Below W4.heap.size W4 W5 := by rw [hW5]; exact hb5.alloc hb5.size _
    have hx5 : W5.heap[w5.heap.size]? = some (.cells #[.int .i64 k5, .slice ao5 d5.length cap5] 24 (0, 0)) := by rw [hW5]; exact heap_alloc_new _ _
    have HD5 := Lib.hid (ho.reads.new (show Below w5.heap.size w5 W5 by rw [hW5]; exact (Below.refl _ _).alloc (Nat.le_refl _) _))
    have HT1 := Lib.hid ((hb45.block _ (Array.getElem?_eq_some_iff.1 HU1.out).1).trans HU1.out)
    have HT2 := Lib.hid ((hb45.block _ (Array.getElem?_eq_some_iff.1 HU2.out).1).trans HU2.out)
    have HY4 := Lib.hid ((hb45.block _ (Array.getElem?_eq_some_iff.1 HX4.out).1).trans HX4.out)
    have HA5 := Lib.hid (HA4.out.new hb45)
    have HB5r := Lib.hid (HB4r.out.new hb45)
    have HL5 := Lib.hid (HD4.out.new hb45)
    have HB5 := Lib.hid (HB4.out.trans (hb45.mono HB4.out.size))
    have HX5 := Lib.hid hx5
    have HW5 := Lib.hid hW5
    have hev := later_even ka kb da db
    rw [← HL.out, ← hl5] at hev
    obtain ⟨h1, h2⟩ := hev
    simp only at h1 h2
    subst h1
    have HSS := Lib.hid h2
    have h8k := later_byte (k1 := ka) (k2 := kb) H8A.out H8B.out
    rw [← HL.out] at h8k
    have H8K := Lib.hid h8k
    have h8k5 := later_byte (k1 := kb) (k2 := ka) H8B.out H8A.out
    rw [← hl5] at h8k5
    have H8K5 := Lib.hid h8k5
    have hbt : ok = true → mayC ka da k d = true ∧ mayC kb db k d = true ∧ (sameC k d ka da = true ∨ sameC k d kb db = true) := by
      intro hok
      have := later_both (k1 := ka) (d1 := da) (k2 := kb) (d2 := db)
      rw [← HL.out] at this
      exact this hok
    have HBT := Lib.hid hbt
    clear hb5 ho hb45 hx5 hW5 HU1 HU2 HA4 HB4r HB4 HX4 HD4 a0 a1 b0 b1 hl5 h2 h8k h8k5 hbt HL HW4
    obtain ⟨e0, e1, _, _⟩ := blk2 HY4.out
    obtain ⟨f0, f1, _, _⟩ := blk2 HX5.out
    rw [HW5.out] at e0 e1 f0 f1
    have hbne : (ok != ok) = false := by cases ok <;> rfl
    go_wp2_with fail
    rw [← HW5.out]
    refine (same_any k k5 _ _ d d5 W5 HL5.out HD5.out H8K.out H8K5.out).mono ?_
    rintro e w6 ⟨rfl, hb6⟩
    rw [HSS.out]
    have HB6 := Lib.hid (HB5.out.trans (hb6.mono HB5.out.size))
    have HS1 := Lib.hid ((hb6.block _ (Array.getElem?_eq_some_iff.1 HT1.out).1).trans HT1.out)
    have HS2 := Lib.hid ((hb6.block _ (Array.getElem?_eq_some_iff.1 HT2.out).1).trans HT2.out)
    have HS4 := Lib.hid ((hb6.block _ (Array.getElem?_eq_some_iff.1 HY4.out).1).trans HY4.out)
    have HA6 := Lib.hid (HA5.out.new hb6)
    have HB6r := Lib.hid (HB5r.out.new hb6)
    have HL6 := Lib.hid (HL5.out.new hb6)
    clear hb6 HT1 HT2 HY4 HA5 HB5r HL5 HD5 HX5 HB5 e0 e1 f0 f1 HW5 HSS H8K5
    obtain ⟨a0, a1, _, _⟩ := blk2 HS1.out
    obtain ⟨b0, b1, _, _⟩ := blk2 HS2.out
    obtain ⟨e0, e1, _, _⟩ := blk2 HS4.out
    cases ok
    · go_wp2
      go_ret
      exact ⟨rfl, HB6.out⟩
    · obtain ⟨m1, m2, m3⟩ := HBT.out rfl
      have HM1 := Lib.hid m1
      have HM2 := Lib.hid m2
      have HM3 := Lib.hid m3
      clear m1 m2 m3 HBT hbne
      go_wp2_with fail
      refine (may_any ka k _ _ da d w6 HA6.out HL6.out H8A.out H8K.out).mono ?_
      rintro e w7 ⟨rfl, hb7⟩
      rw [HM1.out]
      have HB7 := Lib.hid (HB6.out.trans (hb7.mono HB6.out.size))
      have HR1 := Lib.hid ((hb7.block _ (Array.getElem?_eq_some_iff.1 HS1.out).1).trans HS1.out)
      have HR2 := Lib.hid ((hb7.block _ (Array.getElem?_eq_some_iff.1 HS2.out).1).trans HS2.out)
      have HR4 := Lib.hid ((hb7.block _ (Array.getElem?_eq_some_iff.1 HS4.out).1).trans HS4.out)
      have HA7 := Lib.hid (HA6.out.new hb7)
      have HB7r := Lib.hid (HB6r.out.new hb7)
      have HL7 := Lib.hid (HL6.out.new hb7)
      clear hb7 HS1 HS2 HS4 HA6 HB6r HL6 HB6 a0 a1 b0 b1 e0 e1
      obtain ⟨a0, a1, _, _⟩ := blk2 HR1.out
      obtain ⟨b0, b1, _, _⟩ := blk2 HR2.out
      obtain ⟨e0, e1, _, _⟩ := blk2 HR4.out
      go_wp2_with fail
      refine (may_any kb k _ _ db d w7 HB7r.out HL7.out H8B.out H8K.out).mono ?_
      rintro e w8 ⟨rfl, hb8⟩
      rw [HM2.out]
      have HB8 := Lib.hid (HB7.out.trans (hb8.mono HB7.out.size))
      have HQ1 := Lib.hid ((hb8.block _ (Array.getElem?_eq_some_iff.1 HR1.out).1).trans HR1.out)
      have HQ2 := Lib.hid ((hb8.block _ (Array.getElem?_eq_some_iff.1 HR2.out).1).trans HR2.out)
      have HQ4 := Lib.hid ((hb8.block _ (Array.getElem?_eq_some_iff.1 HR4.out).1).trans HR4.out)
      have HA8 := Lib.hid (HA7.out.new hb8)
      have HB8r := Lib.hid (HB7r.out.new hb8)
      have HL8 := Lib.hid (HL7.out.new hb8)
      clear hb8 HR1 HR2 HR4 HA7 HB7r HL7 HB7 a0 a1 b0 b1 e0 e1
      obtain ⟨a0, a1, _, _⟩ := blk2 HQ1.out
      obtain ⟨b0, b1, _, _⟩ := blk2 HQ2.out
      obtain ⟨e0, e1, _, _⟩ := blk2 HQ4.out
      go_wp2_with fail
      refine (same_any k ka _ _ d da w8 HL8.out HA8.out H8K.out H8A.out).mono ?_
      rintro e w9 ⟨rfl, hb9⟩
      cases hsa : sameC k d ka da
      · have hsb : sameC k d kb db = true := by
          rcases HM3.out with h | h
          · rw [hsa] at h; cases h
          · exact h
        have HSB := Lib.hid hsb
        clear hsb hsa
        have HB9 := Lib.hid (HB8.out.trans (hb9.mono HB8.out.size))
        have HP2 := Lib.hid ((hb9.block _ (Array.getElem?_eq_some_iff.1 HQ2.out).1).trans HQ2.out)
        have HP4 := Lib.hid ((hb9.block _ (Array.getElem?_eq_some_iff.1 HQ4.out).1).trans HQ4.out)
        have HB9r := Lib.hid (HB8r.out.new hb9)
        have HL9 := Lib.hid (HL8.out.new hb9)
        clear hb9 HQ1 HQ2 HQ4 HA8 HB8r HL8 HB8 a0 a1 b0 b1 e0 e1
        obtain ⟨b0, b1, _, _⟩ := blk2 HP2.out
        obtain ⟨e0, e1, _, _⟩ := blk2 HP4.out
        go_wp2_with fail
        refine (same_any k kb _ _ d db w9 HL9.out HB9r.out H8K.out H8B.out).mono ?_
        rintro e w10 ⟨rfl, hb10⟩
        rw [HSB.out]
        go_wp2
        go_ret
        exact ⟨rfl, HB9.out.trans (hb10.mono HB9.out.size)⟩
      · go_wp2
        go_ret
        exact ⟨rfl, HB8.out.trans (hb9.mono HB8.out.size)⟩
  · skip
    go_wp2_with fail
    refine wp_region_ext pre_below (Below.refl _ _).drew HMX.out ?_
    refine ext_take pre_below (i := 0) (d := 18) (v := ?_) rfl rfl (by kernel_rfl) (by kernel_rfl) (by kernel_rfl) (fun _ _ _ h => h) (by rfl) (fun W hS => ?_) ?_
    rotate_left
    · skip
      (refine load_gives 24 (.tmp 3) ?_ w.heap.size ?_ _ #[.int .i64 ka, .slice ao1 da.length cap1] (0, 0) _ ((hS.block _ (Array.getElem?_eq_some_iff.1 HZ1.out).1).trans HZ1.out) Try.underlying24 rfl hinfoC (Below.refl _ _) <;> rfl)
    simp only [List.setIfInBounds_toArray, List.set_cons_zero, List.set_cons_succ]
    refine ext_take pre_below (i := 1) (d := 19) (v := ?_) rfl rfl (by kernel_rfl) (by kernel_rfl) (by kernel_rfl) (fun _ _ _ h => h) (by rfl) (fun W hS => ?_) ?_
    rotate_left
    · skip
      (refine load_gives 24 (.tmp 4) ?_ (w.heap.size + 1) ?_ _ #[.int .i64 kb, .slice ao2 db.length cap2] (0, 0) _ ((hS.block _ (Array.getElem?_eq_some_iff.1 HZ2.out).1).trans HZ2.out) Try.underlying24 rfl hinfoC (Below.refl _ _) <;> rfl)
    simp only [List.setIfInBounds_toArray, List.set_cons_zero, List.set_cons_succ]
    refine ext_take pre_below (i := 2) (d := 20) (v := ?_) rfl rfl (by kernel_rfl) (by kernel_rfl) (by kernel_rfl) (fun _ _ _ h => h) (by rfl) (fun W hS => ?_) ?_
    rotate_left
    · skip
      go_simp; refine Gives.enter ((may_any ka kb _ _ da db W (HA2.out.new hS) (HB2r.out.new hS) H8A.out H8B.out).mono ?_); rintro e wn ⟨rfl, hbn⟩; rw [HAB.out]; refine ⟨?_, hbn⟩; with_reducible rfl
    simp only [List.setIfInBounds_toArray, List.set_cons_zero, List.set_cons_succ]
    refine ext_take pre_below (i := 3) (d := 21) (v := ?_) rfl rfl (by kernel_rfl) (by kernel_rfl) (by kernel_rfl) (fun _ _ _ h => h) (by rfl) (fun W hS => ?_) ?_
    rotate_left
    · skip
      refine gives_value (w := W) (by exact Below.refl _ _) ?_; go_simp; try with_reducible rfl
    simp only [List.setIfInBounds_toArray, List.set_cons_zero, List.set_cons_succ]
    first
      | (refine ext_skip pre_below (i := 4) (d := 22) rfl rfl (by kernel_rfl) (by kernel_rfl) (by kernel_rfl) (fun _ _ _ h => h) (by rfl) ?_)
      | (refine ext_take pre_below (i := 4) (d := 22) (v := ?_) rfl rfl (by kernel_rfl) (by kernel_rfl) (by kernel_rfl) (fun _ _ _ h => h) (by rfl) (fun W hS => ?_) ?_
         rotate_left
         · skip
           (refine load_gives 24 (.tmp 4) ?_ (w.heap.size + 1) ?_ _ #[.int .i64 kb, .slice ao2 db.length cap2] (0, 0) _ ((hS.block _ (Array.getElem?_eq_some_iff.1 HZ2.out).1).trans HZ2.out) Try.underlying24 rfl hinfoC (Below.refl _ _) <;> rfl))
    simp only [List.setIfInBounds_toArray, List.set_cons_zero, List.set_cons_succ]
    first
      | (refine ext_skip pre_below (i := 5) (d := 23) rfl rfl (by kernel_rfl) (by kernel_rfl) (by kernel_rfl) (fun _ _ _ h => h) (by rfl) ?_)
      | (refine ext_take pre_below (i := 5) (d := 23) (v := ?_) rfl rfl (by kernel_rfl) (by kernel_rfl) (by kernel_rfl) (fun _ _ _ h => h) (by rfl) (fun W hS => ?_) ?_
         rotate_left
         · skip
           (refine load_gives 24 (.tmp 5) ?_ (w.heap.size + 1 + 1) ?_ _ #[.int .i64 kc, .slice ao3 dc.length cap3] (0, 0) _ ((hS.block _ (Array.getElem?_eq_some_iff.1 HZ3.out).1).trans HZ3.out) Try.underlying24 rfl hinfoC (Below.refl _ _) <;> rfl))
    simp only [List.setIfInBounds_toArray, List.set_cons_zero, List.set_cons_succ]
    first
      | (refine ext_skip pre_below (i := 6) (d := 24) rfl rfl (by kernel_rfl) (by kernel_rfl) (by kernel_rfl) (fun _ _ _ h => h) (by rfl) ?_)
      | (refine ext_take pre_below (i := 6) (d := 24) (v := ?_) rfl rfl (by kernel_rfl) (by kernel_rfl) (by kernel_rfl) (fun _ _ _ h => h) (by rfl) (fun W hS => ?_) ?_
         rotate_left
         · skip
           go_simp; refine Gives.enter ((may_any kb kc _ _ db dc W (HB2r.out.new hS) (HC2.out.new hS) H8B.out H8C.out).mono ?_); rintro e wn ⟨rfl, hbn⟩; rw [HBC.out]; refine ⟨?_, hbn⟩; with_reducible rfl)
    simp only [List.setIfInBounds_toArray, List.set_cons_zero, List.set_cons_succ]
    refine ext_take pre_below (i := 7) (d := 25) (v := ?_) rfl rfl (by kernel_rfl) (by kernel_rfl) (by kernel_rfl) (fun _ _ _ h => h) (by rfl) (fun W hS => ?_) ?_
    rotate_left
    · skip
      refine gives_value (w := W) (by exact Below.refl _ _) ?_; go_simp; try with_reducible rfl
    simp only [List.setIfInBounds_toArray, List.set_cons_zero, List.set_cons_succ]
    refine ext_take pre_below (i := 8) (d := 26) (v := ?_) rfl rfl (by kernel_rfl) (by kernel_rfl) (by kernel_rfl) (fun _ _ _ h => h) (by rfl) (fun W hS => ?_) ?_
    rotate_left
    · skip
      refine gives_value (w := W) (by exact Below.refl _ _) ?_; go_simp; try with_reducible rfl
    simp only [List.setIfInBounds_toArray, List.set_cons_zero, List.set_cons_succ]
    first
      | (refine ext_skip pre_below (i := 9) (d := 27) rfl rfl (by kernel_rfl) (by kernel_rfl) (by kernel_rfl) (fun _ _ _ h => h) (by rfl) ?_)
      | (refine ext_take pre_below (i := 9) (d := 27) (v := ?_) rfl rfl (by kernel_rfl) (by kernel_rfl) (by kernel_rfl) (fun _ _ _ h => h) (by rfl) (fun W hS => ?_) ?_
         rotate_left
         · skip
           (refine load_gives 24 (.tmp 3) ?_ w.heap.size ?_ _ #[.int .i64 ka, .slice ao1 da.length cap1] (0, 0) _ ((hS.block _ (Array.getElem?_eq_some_iff.1 HZ1.out).1).trans HZ1.out) Try.underlying24 rfl hinfoC (Below.refl _ _) <;> rfl))
    simp only [List.setIfInBounds_toArray, List.set_cons_zero, List.set_cons_succ]
    first
      | (refine ext_skip pre_below (i := 10) (d := 28) rfl rfl (by kernel_rfl) (by kernel_rfl) (by kernel_rfl) (fun _ _ _ h => h) (by rfl) ?_)
      | (refine ext_take pre_below (i := 10) (d := 28) (v := ?_) rfl rfl (by kernel_rfl) (by kernel_rfl) (by kernel_rfl) (fun _ _ _ h => h) (by rfl) (fun W hS => ?_) ?_
         rotate_left
         · skip
           (refine load_gives 24 (.tmp 5) ?_ (w.heap.size + 1 + 1) ?_ _ #[.int .i64 kc, .slice ao3 dc.length cap3] (0, 0) _ ((hS.block _ (Array.getElem?_eq_some_iff.1 HZ3.out).1).trans HZ3.out) Try.underlying24 rfl hinfoC (Below.refl _ _) <;> rfl))
    simp only [List.setIfInBounds_toArray, List.set_cons_zero, List.set_cons_succ]
    first
      | (refine ext_skip pre_below (i := 11) (d := 29) rfl rfl (by kernel_rfl) (by kernel_rfl) (by kernel_rfl) (fun _ _ _ h => h) (by rfl) ?_)
      | (refine ext_take pre_below (i := 11) (d := 29) (v := ?_) rfl rfl (by kernel_rfl) (by kernel_rfl) (by kernel_rfl) (fun _ _ _ h => h) (by rfl) (fun W hS => ?_) ?_
         rotate_left
         · skip
           go_simp; refine Gives.enter ((may_any ka kc _ _ da dc W (HA2.out.new hS) (HC2.out.new hS) H8A.out H8C.out).mono ?_); rintro e wn ⟨rfl, hbn⟩; rw [HAC.out]; refine ⟨?_, hbn⟩; with_reducible rfl)
    simp only [List.setIfInBounds_toArray, List.set_cons_zero, List.set_cons_succ]
    first
      | (refine ext_skip pre_below (i := 12) (d := 30) rfl rfl (by kernel_rfl) (by kernel_rfl) (by kernel_rfl) (fun _ _ _ h => h) (by rfl) ?_)
      | (refine ext_take pre_below (i := 12) (d := 30) (v := ?_) rfl rfl (by kernel_rfl) (by kernel_rfl) (by kernel_rfl) (fun _ _ _ h => h) (by rfl) (fun W hS => ?_) ?_
         rotate_left
         · skip
           refine gives_value (w := W) (by exact Below.refl _ _) ?_; go_simp; try with_reducible rfl)
    simp only [List.setIfInBounds_toArray, List.set_cons_zero, List.set_cons_succ]
    refine ext_take pre_below (i := 13) (d := 31) (v := ?_) rfl rfl (by kernel_rfl) (by kernel_rfl) (by kernel_rfl) (fun _ _ _ h => h) (by rfl) (fun W hS => ?_) ?_
    rotate_left
    · skip
      refine gives_value (w := W) (by exact Below.refl _ _) ?_; go_simp; try with_reducible rfl
    simp only [List.setIfInBounds_toArray, List.set_cons_zero, List.set_cons_succ]
    refine ext_take pre_below (i := 14) (d := 32) (v := ?_) rfl rfl (by kernel_rfl) (by kernel_rfl) (by kernel_rfl) (fun _ _ _ h => h) (by rfl) (fun W hS => ?_) ?_
    rotate_left
    · skip
      refine gives_value (w := W) (by exact Below.refl _ _) ?_; go_simp; try with_reducible rfl
    simp only [List.setIfInBounds_toArray, List.set_cons_zero, List.set_cons_succ]
    first
      | (refine ext_skip pre_below (i := 15) (d := 33) rfl rfl (by kernel_rfl) (by kernel_rfl) (by kernel_rfl) (fun _ _ _ h => h) (by rfl) ?_)
      | (refine ext_take pre_below (i := 15) (d := 33) (v := ?_) rfl rfl (by kernel_rfl) (by kernel_rfl) (by kernel_rfl) (fun _ _ _ h => h) (by rfl) (fun W hS => ?_) ?_
         rotate_left
         · skip
           (refine load_gives 24 (.tmp 3) ?_ w.heap.size ?_ _ #[.int .i64 ka, .slice ao1 da.length cap1] (0, 0) _ ((hS.block _ (Array.getElem?_eq_some_iff.1 HZ1.out).1).trans HZ1.out) Try.underlying24 rfl hinfoC (Below.refl _ _) <;> rfl))
    simp only [List.setIfInBounds_toArray, List.set_cons_zero, List.set_cons_succ]
    first
      | (refine ext_skip pre_below (i := 16) (d := 34) rfl rfl (by kernel_rfl) (by kernel_rfl) (by kernel_rfl) (fun _ _ _ h => h) (by rfl) ?_)
      | (refine ext_take pre_below (i := 16) (d := 34) (v := ?_) rfl rfl (by kernel_rfl) (by kernel_rfl) (by kernel_rfl) (fun _ _ _ h => h) (by rfl) (fun W hS => ?_) ?_
         rotate_left
         · skip
           (refine load_gives 24 (.tmp 4) ?_ (w.heap.size + 1) ?_ _ #[.int .i64 kb, .slice ao2 db.length cap2] (0, 0) _ ((hS.block _ (Array.getElem?_eq_some_iff.1 HZ2.out).1).trans HZ2.out) Try.underlying24 rfl hinfoC (Below.refl _ _) <;> rfl))
    simp only [List.setIfInBounds_toArray, List.set_cons_zero, List.set_cons_succ]
    first
      | (refine ext_skip pre_below (i := 17) (d := 35) rfl rfl (by kernel_rfl) (by kernel_rfl) (by kernel_rfl) (fun _ _ _ h => h) (by rfl) ?_)
      | (refine ext_take pre_below (i := 17) (d := 35) (v := ?_) rfl rfl (by kernel_rfl) (by kernel_rfl) (by kernel_rfl) (fun _ _ _ h => h) (by rfl) (fun W hS => ?_) ?_
         rotate_left
         · skip
           go_simp; refine Gives.enter ((may_any ka kb _ _ da db W (HA2.out.new hS) (HB2r.out.new hS) H8A.out H8B.out).mono ?_); rintro e wn ⟨rfl, hbn⟩; rw [HAB.out]; refine ⟨?_, hbn⟩; with_reducible rfl)
    simp only [List.setIfInBounds_toArray, List.set_cons_zero, List.set_cons_succ]
    first
      | (refine ext_skip pre_below (i := 18) (d := 36) rfl rfl (by kernel_rfl) (by kernel_rfl) (by kernel_rfl) (fun _ _ _ h => h) (by rfl) ?_)
      | (refine ext_take pre_below (i := 18) (d := 36) (v := ?_) rfl rfl (by kernel_rfl) (by kernel_rfl) (by kernel_rfl) (fun _ _ _ h => h) (by rfl) (fun W hS => ?_) ?_
         rotate_left
         · skip
           refine gives_value (w := W) (by exact Below.refl _ _) ?_; go_simp; try with_reducible rfl)
    simp only [List.setIfInBounds_toArray, List.set_cons_zero, List.set_cons_succ]
    first
      | (refine ext_skip pre_below (i := 19) (d := 37) rfl rfl (by kernel_rfl) (by kernel_rfl) (by kernel_rfl) (fun _ _ _ h => h) (by rfl) ?_)
      | (refine ext_take pre_below (i := 19) (d := 37) (v := ?_) rfl rfl (by kernel_rfl) (by kernel_rfl) (by kernel_rfl) (fun _ _ _ h => h) (by rfl) (fun W hS => ?_) ?_
         rotate_left
         · skip
           (refine load_gives 24 (.tmp 4) ?_ (w.heap.size + 1) ?_ _ #[.int .i64 kb, .slice ao2 db.length cap2] (0, 0) _ ((hS.block _ (Array.getElem?_eq_some_iff.1 HZ2.out).1).trans HZ2.out) Try.underlying24 rfl hinfoC (Below.refl _ _) <;> rfl))
    simp only [List.setIfInBounds_toArray, List.set_cons_zero, List.set_cons_succ]
    first
      | (refine ext_skip pre_below (i := 20) (d := 38) rfl rfl (by kernel_rfl) (by kernel_rfl) (by kernel_rfl) (fun _ _ _ h => h) (by rfl) ?_)
      | (refine ext_take pre_below (i := 20) (d := 38) (v := ?_) rfl rfl (by kernel_rfl) (by kernel_rfl) (by kernel_rfl) (fun _ _ _ h => h) (by rfl) (fun W hS => ?_) ?_
         rotate_left
         · skip
           (refine load_gives 24 (.tmp 3) ?_ w.heap.size ?_ _ #[.int .i64 ka, .slice ao1 da.length cap1] (0, 0) _ ((hS.block _ (Array.getElem?_eq_some_iff.1 HZ1.out).1).trans HZ1.out) Try.underlying24 rfl hinfoC (Below.refl _ _) <;> rfl))
    simp only [List.setIfInBounds_toArray, List.set_cons_zero, List.set_cons_succ]
    first
      | (refine ext_skip pre_below (i := 21) (d := 39) rfl rfl (by kernel_rfl) (by kernel_rfl) (by kernel_rfl) (fun _ _ _ h => h) (by rfl) ?_)
      | (refine ext_take pre_below (i := 21) (d := 39) (v := ?_) rfl rfl (by kernel_rfl) (by kernel_rfl) (by kernel_rfl) (fun _ _ _ h => h) (by rfl) (fun W hS => ?_) ?_
         rotate_left
         · skip
           go_simp; refine Gives.enter ((may_any kb ka _ _ db da W (HB2r.out.new hS) (HA2.out.new hS) H8B.out H8A.out).mono ?_); rintro e wn ⟨rfl, hbn⟩; rw [HBA.out]; refine ⟨?_, hbn⟩; with_reducible rfl)
    simp only [List.setIfInBounds_toArray, List.set_cons_zero, List.set_cons_succ]
    first
      | (refine ext_skip pre_below (i := 22) (d := 40) rfl rfl (by kernel_rfl) (by kernel_rfl) (by kernel_rfl) (fun _ _ _ h => h) (by rfl) ?_)
      | (refine ext_take pre_below (i := 22) (d := 40) (v := ?_) rfl rfl (by kernel_rfl) (by kernel_rfl) (by kernel_rfl) (fun _ _ _ h => h) (by rfl) (fun W hS => ?_) ?_
         rotate_left
         · skip
           refine gives_value (w := W) (by exact Below.refl _ _) ?_; go_simp; try with_reducible rfl)
    simp only [List.setIfInBounds_toArray, List.set_cons_zero, List.set_cons_succ]
    first
      | (refine ext_skip pre_below (i := 23) (d := 41) rfl rfl (by kernel_rfl) (by kernel_rfl) (by kernel_rfl) (fun _ _ _ h => h) (by rfl) ?_)
      | (refine ext_take pre_below (i := 23) (d := 41) (v := ?_) rfl rfl (by kernel_rfl) (by kernel_rfl) (by kernel_rfl) (fun _ _ _ h => h) (by rfl) (fun W hS => ?_) ?_
         rotate_left
         · skip
           refine gives_value (w := W) (by exact Below.refl _ _) ?_; go_simp; try with_reducible rfl)
    simp only [List.setIfInBounds_toArray, List.set_cons_zero, List.set_cons_succ]
    first
      | (refine ext_skip pre_below (i := 24) (d := 42) rfl rfl (by kernel_rfl) (by kernel_rfl) (by kernel_rfl) (fun _ _ _ h => h) (by rfl) ?_)
      | (refine ext_take pre_below (i := 24) (d := 42) (v := ?_) rfl rfl (by kernel_rfl) (by kernel_rfl) (by kernel_rfl) (fun _ _ _ h => h) (by rfl) (fun W hS => ?_) ?_
         rotate_left
         · skip
           (refine load_gives 24 (.tmp 3) ?_ w.heap.size ?_ _ #[.int .i64 ka, .slice ao1 da.length cap1] (0, 0) _ ((hS.block _ (Array.getElem?_eq_some_iff.1 HZ1.out).1).trans HZ1.out) Try.underlying24 rfl hinfoC (Below.refl _ _) <;> rfl))
    simp only [List.setIfInBounds_toArray, List.set_cons_zero, List.set_cons_succ]
    first
      | (refine ext_skip pre_below (i := 25) (d := 43) rfl rfl (by kernel_rfl) (by kernel_rfl) (by kernel_rfl) (fun _ _ _ h => h) (by rfl) ?_)
      | (refine ext_take pre_below (i := 25) (d := 43) (v := ?_) rfl rfl (by kernel_rfl) (by kernel_rfl) (by kernel_rfl) (fun _ _ _ h => h) (by rfl) (fun W hS => ?_) ?_
         rotate_left
         · skip
           (refine load_gives 24 (.tmp 4) ?_ (w.heap.size + 1) ?_ _ #[.int .i64 kb, .slice ao2 db.length cap2] (0, 0) _ ((hS.block _ (Array.getElem?_eq_some_iff.1 HZ2.out).1).trans HZ2.out) Try.underlying24 rfl hinfoC (Below.refl _ _) <;> rfl))
    simp only [List.setIfInBounds_toArray, List.set_cons_zero, List.set_cons_succ]
    first
      | (refine ext_skip pre_below (i := 26) (d := 44) rfl rfl (by kernel_rfl) (by kernel_rfl) (by kernel_rfl) (fun _ _ _ h => h) (by rfl) ?_)
      | (refine ext_take pre_below (i := 26) (d := 44) (v := ?_) rfl rfl (by kernel_rfl) (by kernel_rfl) (by kernel_rfl) (fun _ _ _ h => h) (by rfl) (fun W hS => ?_) ?_
         rotate_left
         · skip
           go_simp; refine Gives.enter ((same_any ka kb _ _ da db W (HA2.out.new hS) (HB2r.out.new hS) H8A.out H8B.out).mono ?_); rintro e wn ⟨rfl, hbn⟩; rw [HSM.out]; refine ⟨?_, hbn⟩; with_reducible rfl)
    simp only [List.setIfInBounds_toArray, List.set_cons_zero, List.set_cons_succ]
    first
      | (refine ext_skip pre_below (i := 27) (d := 45) rfl rfl (by kernel_rfl) (by kernel_rfl) (by kernel_rfl) (fun _ _ _ h => h) (by rfl) ?_)
      | (refine ext_take pre_below (i := 27) (d := 45) (v := ?_) rfl rfl (by kernel_rfl) (by kernel_rfl) (by kernel_rfl) (fun _ _ _ h => h) (by rfl) (fun W hS => ?_) ?_
         rotate_left
         · skip
           refine gives_value (w := W) (by exact Below.refl _ _) ?_; go_simp; try with_reducible rfl)
    simp only [List.setIfInBounds_toArray, List.set_cons_zero, List.set_cons_succ]
    first
      | (refine ext_skip pre_below (i := 28) (d := 46) rfl rfl (by kernel_rfl) (by kernel_rfl) (by kernel_rfl) (fun _ _ _ h => h) (by rfl) ?_)
      | (refine ext_take pre_below (i := 28) (d := 46) (v := ?_) rfl rfl (by kernel_rfl) (by kernel_rfl) (by kernel_rfl) (fun _ _ _ h => h) (by rfl) (fun W hS => ?_) ?_
         rotate_left
         · skip
           refine gives_value (w := W) (by exact Below.refl _ _) ?_; go_simp; try with_reducible rfl)
    simp only [List.setIfInBounds_toArray, List.set_cons_zero, List.set_cons_succ]
    refine ext_take pre_below (i := 29) (d := 47) (v := ?_) rfl rfl (by kernel_rfl) (by kernel_rfl) (by kernel_rfl) (fun _ _ _ h => h) (by rfl) (fun W hS => ?_) ?_
    rotate_left
    · skip
      refine gives_value (w := W) (by exact Below.refl _ _) ?_; go_simp; try with_reducible rfl
    simp only [List.setIfInBounds_toArray, List.set_cons_zero, List.set_cons_succ]
    refine ext_take pre_below (i := 30) (d := 48) (v := ?_) rfl rfl (by kernel_rfl) (by kernel_rfl) (by kernel_rfl) (fun _ _ _ h => h) (by rfl) (fun W hS => ?_) ?_
    rotate_left
    · skip
      refine gives_value (w := W) (by exact Below.refl _ _) ?_; go_simp; try with_reducible rfl
    simp only [List.setIfInBounds_toArray, List.set_cons_zero, List.set_cons_succ]
    first
      | (refine ext_skip pre_below (i := 31) (d := 49) rfl rfl (by kernel_rfl) (by kernel_rfl) (by kernel_rfl) (fun _ _ _ h => h) (by rfl) ?_)
      | (refine ext_take pre_below (i := 31) (d := 49) (v := ?_) rfl rfl (by kernel_rfl) (by kernel_rfl) (by kernel_rfl) (fun _ _ _ h => h) (by rfl) (fun W hS => ?_) ?_
         rotate_left
         · skip
           (refine load_gives 24 (.tmp 3) ?_ w.heap.size ?_ _ #[.int .i64 ka, .slice ao1 da.length cap1] (0, 0) _ ((hS.block _ (Array.getElem?_eq_some_iff.1 HZ1.out).1).trans HZ1.out) Try.underlying24 rfl hinfoC (Below.refl _ _) <;> rfl))
    simp only [List.setIfInBounds_toArray, List.set_cons_zero, List.set_cons_succ]
    first
      | (refine ext_skip pre_below (i := 32) (d := 50) rfl rfl (by kernel_rfl) (by kernel_rfl) (by kernel_rfl) (fun _ _ _ h => h) (by rfl) ?_)
      | (refine ext_take pre_below (i := 32) (d := 50) (v := ?_) rfl rfl (by kernel_rfl) (by kernel_rfl) (by kernel_rfl) (fun _ _ _ h => h) (by rfl) (fun W hS => ?_) ?_
         rotate_left
         · skip
           go_simp; refine Gives.enter ((check_any ka _ da W (HA2.out.new hS)).mono ?_); rintro e wn ⟨rfl, hbn⟩; rw [HCK.out]; refine ⟨?_, hbn⟩; with_reducible rfl)
    simp only [List.setIfInBounds_toArray, List.set_cons_zero, List.set_cons_succ]
    first
      | (refine ext_skip pre_below (i := 33) (d := 51) rfl rfl (by kernel_rfl) (by kernel_rfl) (by kernel_rfl) (fun _ _ _ h => h) (by rfl) ?_)
      | (refine ext_take pre_below (i := 33) (d := 51) (v := ?_) rfl rfl (by kernel_rfl) (by kernel_rfl) (by kernel_rfl) (fun _ _ _ h => h) (by rfl) (fun W hS => ?_) ?_
         rotate_left
         · skip
           refine gives_value (w := W) (by exact Below.refl _ _) ?_; go_simp; try with_reducible rfl)
    simp only [List.setIfInBounds_toArray, List.set_cons_zero, List.set_cons_succ]
    first
      | (refine ext_skip pre_below (i := 34) (d := 52) rfl rfl (by kernel_rfl) (by kernel_rfl) (by kernel_rfl) (fun _ _ _ h => h) (by rfl) ?_)
      | (refine ext_take pre_below (i := 34) (d := 52) (v := ?_) rfl rfl (by kernel_rfl) (by kernel_rfl) (by kernel_rfl) (fun _ _ _ h => h) (by rfl) (fun W hS => ?_) ?_
         rotate_left
         · skip
           (refine load_gives 24 (.tmp 3) ?_ w.heap.size ?_ _ #[.int .i64 ka, .slice ao1 da.length cap1] (0, 0) _ ((hS.block _ (Array.getElem?_eq_some_iff.1 HZ1.out).1).trans HZ1.out) Try.underlying24 rfl hinfoC (Below.refl _ _) <;> rfl))
    simp only [List.setIfInBounds_toArray, List.set_cons_zero, List.set_cons_succ]
    first
      | (refine ext_skip pre_below (i := 35) (d := 53) rfl rfl (by kernel_rfl) (by kernel_rfl) (by kernel_rfl) (fun _ _ _ h => h) (by rfl) ?_)
      | (refine ext_take pre_below (i := 35) (d := 53) (v := ?_) rfl rfl (by kernel_rfl) (by kernel_rfl) (by kernel_rfl) (fun _ _ _ h => h) (by rfl) (fun W hS => ?_) ?_
         rotate_left
         · skip
           (refine load_gives 24 (.tmp 3) ?_ w.heap.size ?_ _ #[.int .i64 ka, .slice ao1 da.length cap1] (0, 0) _ ((hS.block _ (Array.getElem?_eq_some_iff.1 HZ1.out).1).trans HZ1.out) Try.underlying24 rfl hinfoC (Below.refl _ _) <;> rfl))
    simp only [List.setIfInBounds_toArray, List.set_cons_zero, List.set_cons_succ]
    first
      | (refine ext_skip pre_below (i := 36) (d := 54) rfl rfl (by kernel_rfl) (by kernel_rfl) (by kernel_rfl) (fun _ _ _ h => h) (by rfl) ?_)
      | (refine ext_take pre_below (i := 36) (d := 54) (v := ?_) rfl rfl (by kernel_rfl) (by kernel_rfl) (by kernel_rfl) (fun _ _ _ h => h) (by rfl) (fun W hS => ?_) ?_
         rotate_left
         · skip
           go_simp; refine Gives.enter ((may_any ka ka _ _ da da W (HA2.out.new hS) (HA2.out.new hS) H8A.out H8A.out).mono ?_); rintro e wn ⟨rfl, hbn⟩; rw [HAA.out]; refine ⟨?_, hbn⟩; with_reducible rfl)
    simp only [List.setIfInBounds_toArray, List.set_cons_zero, List.set_cons_succ]
    first
      | (refine ext_skip pre_below (i := 37) (d := 55) rfl rfl (by kernel_rfl) (by kernel_rfl) (by kernel_rfl) (fun _ _ _ h => h) (by rfl) ?_)
      | (refine ext_take pre_below (i := 37) (d := 55) (v := ?_) rfl rfl (by kernel_rfl) (by kernel_rfl) (by kernel_rfl) (fun _ _ _ h => h) (by rfl) (fun W hS => ?_) ?_
         rotate_left
         · skip
           refine gives_value (w := W) (by exact Below.refl _ _) ?_; go_simp; try with_reducible rfl)
    simp only [List.setIfInBounds_toArray, List.set_cons_zero, List.set_cons_succ]
    refine ext_take pre_below (i := 38) (d := 56) (v := ?_) rfl rfl (by kernel_rfl) (by kernel_rfl) (by kernel_rfl) (fun _ _ _ h => h) (by rfl) (fun W hS => ?_) ?_
    rotate_left
    · skip
      refine gives_value (w := W) (by exact Below.refl _ _) ?_; go_simp; try with_reducible rfl
    simp only [List.setIfInBounds_toArray, List.set_cons_zero, List.set_cons_succ]
    refine ext_done (by kernel_rfl) (fun w3 hS3 => ?_) _
    have HB3 : Hid (Below w.heap.size w w3) := Lib.hid (HB2.out.trans (hS3.mono HB2.out.size))
    have HV1 := Lib.hid ((hS3.block _ (Array.getElem?_eq_some_iff.1 HZ1.out).1).trans HZ1.out)
    have HV2 := Lib.hid ((hS3.block _ (Array.getElem?_eq_some_iff.1 HZ2.out).1).trans HZ2.out)
    have HA3 := Lib.hid (HA2.out.new hS3)
    have HB3r := Lib.hid (HB2r.out.new hS3)
    clear hS3 HZ1 HZ2 HZ3 HA2 HB2r HC2 HB2 HAB HBC HAC HBA HSM HAA HCK hinfoC HMX
    obtain ⟨a0, a1, _, _⟩ := blk2 HV1.out
    obtain ⟨b0, b1, _, _⟩ := blk2 HV2.out
    go_wp2_with fail
    refine (later_any ka kb _ _ da db w3 HA3.out HB3r.out H8A.out H8B.out (by have := HLA.out; omega) (by have := HLB.out; omega)).mono ?_
    rintro e w4 ⟨k, d, ok, v4, hl, rfl, ho, hb4⟩
    obtain ⟨ao4, cap4, rfl, _, _, _⟩ := ho.reads.val
    obtain ⟨W4, hW4⟩ : ∃ W4, W4 = w4.alloc (.cells #[.int .i64 k, .slice ao4 d.length cap4] 24) := ⟨_, rfl⟩
    have hb34 : Below w3.heap.size w3 W4 := by rw [hW4]; exact hb4.alloc hb4.size _
    have hx4 : W4.heap[w4.heap.size]? = some (.cells #[.int .i64 k, .slice ao4 d.length cap4] 24 (0, 0)) := by rw [hW4]; exact heap_alloc_new _ _
    have HD4 := Lib.hid (ho.reads.new (show Below w4.heap.size w4 W4 by rw [hW4]; exact (Below.refl _ _).alloc (Nat.le_refl _) _))
    have HU1 := Lib.hid ((hb34.block _ (Array.getElem?_eq_some_iff.1 HV1.out).1).trans HV1.out)
    have HU2 := Lib.hid ((hb34.block _ (Array.getElem?_eq_some_iff.1 HV2.out).1).trans HV2.out)
    have HA4 := Lib.hid (HA3.out.new hb34)
    have HB4r := Lib.hid (HB3r.out.new hb34)
    have HB4 := Lib.hid (HB3.out.trans (hb34.mono HB3.out.size))
    have HX4 := Lib.hid hx4
    have HW4 := Lib.hid hW4
    have HL := Lib.hid hl
    clear hb4 ho hb34 hx4 hW4 HV1 HV2 HA3 HB3r HB3 a0 a1 b0 b1 hl
    obtain ⟨a0, a1, _, _⟩ := blk2 HU1.out
    obtain ⟨b0, b1, _, _⟩ := blk2 HU2.out
    rw [HW4.out] at a0 a1 b0 b1
    go_wp2_with fail
    rw [← HW4.out]
    refine (later_any kb ka _ _ db da W4 HB4r.out HA4.out H8B.out H8A.out (by have := HLB.out; omega) (by have := HLA.out; omega)).mono ?_
    rintro e w5 ⟨k5, d5, ok5, v5, hl5, rfl, ho, hb5⟩
    obtain ⟨ao5, cap5, rfl, _, _, _⟩ := ho.reads.val
    obtain ⟨W5, hW5⟩ : ∃ W5, W5 = w5.alloc (.cells #[.int .i64 k5, .slice ao5 d5.length cap5] 24) := ⟨_, rfl⟩
    have hb45 : Below W4.heap.size W4 W5 := by rw [hW5]; exact hb5.alloc hb5.size _
    have hx5 : W5.heap[w5.heap.size]? = some (.cells #[.int .i64 k5, .slice ao5 d5.length cap5] 24 (0, 0)) := by rw [hW5]; exact heap_alloc_new _ _
    have HD5 := Lib.hid (ho.reads.new (show Below w5.heap.size w5 W5 by rw [hW5]; exact (Below.refl _ _).alloc (Nat.le_refl _) _))
    have HT1 := Lib.hid ((hb45.block _ (Array.getElem?_eq_some_iff.1 HU1.out).1).trans HU1.out)
    have HT2 := Lib.hid ((hb45.block _ (Array.getElem?_eq_some_iff.1 HU2.out).1).trans HU2.out)
    have HY4 := Lib.hid ((hb45.block _ (Array.getElem?_eq_some_iff.1 HX4.out).1).trans HX4.out)
    have HA5 := Lib.hid (HA4.out.new hb45)
    have HB5r := Lib.hid (HB4r.out.new hb45)
    have HL5 := Lib.hid (HD4.out.new hb45)
    have HB5 := Lib.hid (HB4.out.trans (hb45.mono HB4.out.size))
    have HX5 := Lib.hid hx5
    have HW5 := Lib.hid hW5
    have hev := later_even ka kb da db
    rw [← HL.out, ← hl5] at hev
    obtain ⟨h1, h2⟩ := hev
    simp only at h1 h2
    subst h1
    have HSS := Lib.hid h2
    have h8k := later_byte (k1 := ka) (k2 := kb) H8A.out H8B.out
    rw [← HL.out] at h8k
    have H8K := Lib.hid h8k
    have h8k5 := later_byte (k1 := kb) (k2 := ka) H8B.out H8A.out
    rw [← hl5] at h8k5
    have H8K5 := Lib.hid h8k5
    have hbt : ok = true → mayC ka da k d = true ∧ mayC kb db k d = true ∧ (sameC k d ka da = true ∨ sameC k d kb db = true) := by
      intro hok
      have := later_both (k1 := ka) (d1 := da) (k2 := kb) (d2 := db)
      rw [← HL.out] at this
      exact this hok
    have HBT := Lib.hid hbt
    clear hb5 ho hb45 hx5 hW5 HU1 HU2 HA4 HB4r HB4 HX4 HD4 a0 a1 b0 b1 hl5 h2 h8k h8k5 hbt HL HW4
    obtain ⟨e0, e1, _, _⟩ := blk2 HY4.out
    obtain ⟨f0, f1, _, _⟩ := blk2 HX5.out
    rw [HW5.out] at e0 e1 f0 f1
    have hbne : (ok != ok) = false := by cases ok <;> rfl
    go_wp2_with fail
    rw [← HW5.out]
    refine (same_any k k5 _ _ d d5 W5 HL5.out HD5.out H8K.out H8K5.out).mono ?_
    rintro e w6 ⟨rfl, hb6⟩
    rw [HSS.out]
    have HB6 := Lib.hid (HB5.out.trans (hb6.mono HB5.out.size))
    have HS1 := Lib.hid ((hb6.block _ (Array.getElem?_eq_some_iff.1 HT1.out).1).trans HT1.out)
    have HS2 := Lib.hid ((hb6.block _ (Array.getElem?_eq_some_iff.1 HT2.out).1).trans HT2.out)
    have HS4 := Lib.hid ((hb6.block _ (Array.getElem?_eq_some_iff.1 HY4.out).1).trans HY4.out)
    have HA6 := Lib.hid (HA5.out.new hb6)
    have HB6r := Lib.hid (HB5r.out.new hb6)
    have HL6 := Lib.hid (HL5.out.new hb6)
    clear hb6 HT1 HT2 HY4 HA5 HB5r HL5 HD5 HX5 HB5 e0 e1 f0 f1 HW5 HSS H8K5
    obtain ⟨a0, a1, _, _⟩ := blk2 HS1.out
    obtain ⟨b0, b1, _, _⟩ := blk2 HS2.out
    obtain ⟨e0, e1, _, _⟩ := blk2 HS4.out
    cases ok
    · go_wp2
      go_ret
      exact ⟨rfl, HB6.out⟩
    · obtain ⟨m1, m2, m3⟩ := HBT.out rfl
      have HM1 := Lib.hid m1
      have HM2 := Lib.hid m2
      have HM3 := Lib.hid m3
      clear m1 m2 m3 HBT hbne
      go_wp2_with fail
      refine (may_any ka k _ _ da d w6 HA6.out HL6.out H8A.out H8K.out).mono ?_
      rintro e w7 ⟨rfl, hb7⟩
      rw [HM1.out]
      have HB7 := Lib.hid (HB6.out.trans (hb7.mono HB6.out.size))
      have HR1 := Lib.hid ((hb7.block _ (Array.getElem?_eq_some_iff.1 HS1.out).1).trans HS1.out)
      have HR2 := Lib.hid ((hb7.block _ (Array.getElem?_eq_some_iff.1 HS2.out).1).trans HS2.out)
      have HR4 := Lib.hid ((hb7.block _ (Array.getElem?_eq_some_iff.1 HS4.out).1).trans HS4.out)
      have HA7 := Lib.hid (HA6.out.new hb7)
      have HB7r := Lib.hid (HB6r.out.new hb7)
      have HL7 := Lib.hid (HL6.out.new hb7)
      clear hb7 HS1 HS2 HS4 HA6 HB6r HL6 HB6 a0 a1 b0 b1 e0 e1
      obtain ⟨a0, a1, _, _⟩ := blk2 HR1.out
      obtain ⟨b0, b1, _, _⟩ := blk2 HR2.out
      obtain ⟨e0, e1, _, _⟩ := blk2 HR4.out
      go_wp2_with fail
      refine (may_any kb k _ _ db d w7 HB7r.out HL7.out H8B.out H8K.out).mono ?_
      rintro e w8 ⟨rfl, hb8⟩
      rw [HM2.out]
      have HB8 := Lib.hid (HB7.out.trans (hb8.mono HB7.out.size))
      have HQ1 := Lib.hid ((hb8.block _ (Array.getElem?_eq_some_iff.1 HR1.out).1).trans HR1.out)
      have HQ2 := Lib.hid ((hb8.block _ (Array.getElem?_eq_some_iff.1 HR2.out).1).trans HR2.out)
      have HQ4 := Lib.hid ((hb8.block _ (Array.getElem?_eq_some_iff.1 HR4.out).1).trans HR4.out)
      have HA8 := Lib.hid (HA7.out.new hb8)
      have HB8r := Lib.hid (HB7r.out.new hb8)
      have HL8 := Lib.hid (HL7.out.new hb8)
      clear hb8 HR1 HR2 HR4 HA7 HB7r HL7 HB7 a0 a1 b0 b1 e0 e1
      obtain ⟨a0, a1, _, _⟩ := blk2 HQ1.out
      obtain ⟨b0, b1, _, _⟩ := blk2 HQ2.out
      obtain ⟨e0, e1, _, _⟩ := blk2 HQ4.out
      go_wp2_with fail
      refine (same_any k ka _ _ d da w8 HL8.out HA8.out H8K.out H8A.out).mono ?_
      rintro e w9 ⟨rfl, hb9⟩
      cases hsa : sameC k d ka da
      · have hsb : sameC k d kb db = true := by
          rcases HM3.out with h | h
          · rw [hsa] at h; cases h
          · exact h
        have HSB := Lib.hid hsb
        clear hsb hsa
        have HB9 := Lib.hid (HB8.out.trans (hb9.mono HB8.out.size))
        have HP2 := Lib.hid ((hb9.block _ (Array.getElem?_eq_some_iff.1 HQ2.out).1).trans HQ2.out)
        have HP4 := Lib.hid ((hb9.block _ (Array.getElem?_eq_some_iff.1 HQ4.out).1).trans HQ4.out)
        have HB9r := Lib.hid (HB8r.out.new hb9)
        have HL9 := Lib.hid (HL8.out.new hb9)
        clear hb9 HQ1 HQ2 HQ4 HA8 HB8r HL8 HB8 a0 a1 b0 b1 e0 e1
        obtain ⟨b0, b1, _, _⟩ := blk2 HP2.out
        obtain ⟨e0, e1, _, _⟩ := blk2 HP4.out
        go_wp2_with fail
        refine (same_any k kb _ _ d db w9 HL9.out HB9r.out H8K.out H8B.out).mono ?_
        rintro e w10 ⟨rfl, hb10⟩
        rw [HSB.out]
        go_wp2
        go_ret
        exact ⟨rfl, HB9.out.trans (hb10.mono HB9.out.size)⟩
      · go_wp2
        go_ret
        exact ⟨rfl, HB8.out.trans (hb9.mono HB8.out.size)⟩
  · skip
    go_wp2_with fail
    refine wp_region_ext pre_below (Below.refl _ _).drew HMX.out ?_
    refine ext_take pre_below (i := 0) (d := 18) (v := ?_) rfl rfl (by kernel_rfl) (by kernel_rfl) (by kernel_rfl) (fun _ _ _ h => h) (by rfl) (fun W hS => ?_) ?_
    rotate_left
    · skip
      (refine load_gives 24 (.tmp 3) ?_ w.heap.size ?_ _ #[.int .i64 ka, .slice ao1 da.length cap1] (0, 0) _ ((hS.block _ (Array.getElem?_eq_some_iff.1 HZ1.out).1).trans HZ1.out) Try.underlying24 rfl hinfoC (Below.refl _ _) <;> rfl)
    simp only [List.setIfInBounds_toArray, List.set_cons_zero, List.set_cons_succ]
    refine ext_take pre_below (i := 1) (d := 19) (v := ?_) rfl rfl (by kernel_rfl) (by kernel_rfl) (by kernel_rfl) (fun _ _ _ h => h) (by rfl) (fun W hS => ?_) ?_
    rotate_left
    · skip
      (refine load_gives 24 (.tmp 4) ?_ (w.heap.size + 1) ?_ _ #[.int .i64 kb, .slice ao2 db.length cap2] (0, 0) _ ((hS.block _ (Array.getElem?_eq_some_iff.1 HZ2.out).1).trans HZ2.out) Try.underlying24 rfl hinfoC (Below.refl _ _) <;> rfl)
    simp only [List.setIfInBounds_toArray, List.set_cons_zero, List.set_cons_succ]
    refine ext_take pre_below (i := 2) (d := 20) (v := ?_) rfl rfl (by kernel_rfl) (by kernel_rfl) (by kernel_rfl) (fun _ _ _ h => h) (by rfl) (fun W hS => ?_) ?_
    rotate_left
    · skip
      go_simp; refine Gives.enter ((may_any ka kb _ _ da db W (HA2.out.new hS) (HB2r.out.new hS) H8A.out H8B.out).mono ?_); rintro e wn ⟨rfl, hbn⟩; rw [HAB.out]; refine ⟨?_, hbn⟩; with_reducible rfl
    simp only [List.setIfInBounds_toArray, List.set_cons_zero, List.set_cons_succ]
    refine ext_take pre_below (i := 3) (d := 21) (v := ?_) rfl rfl (by kernel_rfl) (by kernel_rfl) (by kernel_rfl) (fun _ _ _ h => h) (by rfl) (fun W hS => ?_) ?_
    rotate_left
    · skip
      refine gives_value (w := W) (by exact Below.refl _ _) ?_; go_simp; try with_reducible rfl
    simp only [List.setIfInBounds_toArray, List.set_cons_zero, List.set_cons_succ]
    first
      | (refine ext_skip pre_below (i := 4) (d := 22) rfl rfl (by kernel_rfl) (by kernel_rfl) (by kernel_rfl) (fun _ _ _ h => h) (by rfl) ?_)
      | (refine ext_take pre_below (i := 4) (d := 22) (v := ?_) rfl rfl (by kernel_rfl) (by kernel_rfl) (by kernel_rfl) (fun _ _ _ h => h) (by rfl) (fun W hS => ?_) ?_
         rotate_left
         · skip
           (refine load_gives 24 (.tmp 4) ?_ (w.heap.size + 1) ?_ _ #[.int .i64 kb, .slice ao2 db.length cap2] (0, 0) _ ((hS.block _ (Array.getElem?_eq_some_iff.1 HZ2.out).1).trans HZ2.out) Try.underlying24 rfl hinfoC (Below.refl _ _) <;> rfl))
    simp only [List.setIfInBounds_toArray, List.set_cons_zero, List.set_cons_succ]
    first
      | (refine ext_skip pre_below (i := 5) (d := 23) rfl rfl (by kernel_rfl) (by kernel_rfl) (by kernel_rfl) (fun _ _ _ h => h) (by rfl) ?_)
      | (refine ext_take pre_below (i := 5) (d := 23) (v := ?_) rfl rfl (by kernel_rfl) (by kernel_rfl) (by kernel_rfl) (fun _ _ _ h => h) (by rfl) (fun W hS => ?_) ?_
         rotate_left
         · skip
           (refine load_gives 24 (.tmp 5) ?_ (w.heap.size + 1 + 1) ?_ _ #[.int .i64 kc, .slice ao3 dc.length cap3] (0, 0) _ ((hS.block _ (Array.getElem?_eq_some_iff.1 HZ3.out).1).trans HZ3.out) Try.underlying24 rfl hinfoC (Below.refl _ _) <;> rfl))
    simp only [List.setIfInBounds_toArray, List.set_cons_zero, List.set_cons_succ]
    first
      | (refine ext_skip pre_below (i := 6) (d := 24) rfl rfl (by kernel_rfl) (by kernel_rfl) (by kernel_rfl) (fun _ _ _ h => h) (by rfl) ?_)
      | (refine ext_take pre_below (i := 6) (d := 24) (v := ?_) rfl rfl (by kernel_rfl) (by kernel_rfl) (by kernel_rfl) (fun _ _ _ h => h) (by rfl) (fun W hS => ?_) ?_
         rotate_left
         · skip
           go_simp; refine Gives.enter ((may_any kb kc _ _ db dc W (HB2r.out.new hS) (HC2.out.new hS) H8B.out H8C.out).mono ?_); rintro e wn ⟨rfl, hbn⟩; rw [HBC.out]; refine ⟨?_, hbn⟩; with_reducible rfl)
    simp only [List.setIfInBounds_toArray, List.set_cons_zero, List.set_cons_succ]
    refine ext_take pre_below (i := 7) (d := 25) (v := ?_) rfl rfl (by kernel_rfl) (by kernel_rfl) (by kernel_rfl) (fun _ _ _ h => h) (by rfl) (fun W hS => ?_) ?_
    rotate_left
    · skip
      refine gives_value (w := W) (by exact Below.refl _ _) ?_; go_simp; try with_reducible rfl
    simp only [List.setIfInBounds_toArray, List.set_cons_zero, List.set_cons_succ]
    refine ext_take pre_below (i := 8) (d := 26) (v := ?_) rfl rfl (by kernel_rfl) (by kernel_rfl) (by kernel_rfl) (fun _ _ _ h => h) (by rfl) (fun W hS => ?_) ?_
    rotate_left
    · skip
      refine gives_value (w := W) (by exact Below.refl _ _) ?_; go_simp; try with_reducible rfl
    simp only [List.setIfInBounds_toArray, List.set_cons_zero, List.set_cons_succ]
    first
      | (refine ext_skip pre_below (i := 9) (d := 27) rfl rfl (by kernel_rfl) (by kernel_rfl) (by kernel_rfl) (fun _ _ _ h => h) (by rfl) ?_)
      | (refine ext_take pre_below (i := 9) (d := 27) (v := ?_) rfl rfl (by kernel_rfl) (by kernel_rfl) (by kernel_rfl) (fun _ _ _ h => h) (by rfl) (fun W hS => ?_) ?_
         rotate_left
         · skip
           (refine load_gives 24 (.tmp 3) ?_ w.heap.size ?_ _ #[.int .i64 ka, .slice ao1 da.length cap1] (0, 0) _ ((hS.block _ (Array.getElem?_eq_some_iff.1 HZ1.out).1).trans HZ1.out) Try.underlying24 rfl hinfoC (Below.refl _ _) <;> rfl))
    simp only [List.setIfInBounds_toArray, List.set_cons_zero, List.set_cons_succ]
    first
      | (refine ext_skip pre_below (i := 10) (d := 28) rfl rfl (by kernel_rfl) (by kernel_rfl) (by kernel_rfl) (fun _ _ _ h => h) (by rfl) ?_)
      | (refine ext_take pre_below (i := 10) (d := 28) (v := ?_) rfl rfl (by kernel_rfl) (by kernel_rfl) (by kernel_rfl) (fun _ _ _ h => h) (by rfl) (fun W hS => ?_) ?_
         rotate_left
         · skip
           (refine load_gives 24 (.tmp 5) ?_ (w.heap.size + 1 + 1) ?_ _ #[.int .i64 kc, .slice ao3 dc.length cap3] (0, 0) _ ((hS.block _ (Array.getElem?_eq_some_iff.1 HZ3.out).1).trans HZ3.out) Try.underlying24 rfl hinfoC (Below.refl _ _) <;> rfl))
    simp only [List.setIfInBounds_toArray, List.set_cons_zero, List.set_cons_succ]
    first
      | (refine ext_skip pre_below (i := 11) (d := 29) rfl rfl (by kernel_rfl) (by kernel_rfl) (by kernel_rfl) (fun _ _ _ h => h) (by rfl) ?_)
      | (refine ext_take pre_below (i := 11) (d := 29) (v := ?_) rfl rfl (by kernel_rfl) (by kernel_rfl) (by kernel_rfl) (fun _ _ _ h => h) (by rfl) (fun W hS => ?_) ?_
         rotate_left
         · skip
           go_simp; refine Gives.enter ((may_any ka kc _ _ da dc W (HA2.out.new hS) (HC2.out.new hS) H8A.out H8C.out).mono ?_); rintro e wn ⟨rfl, hbn⟩; rw [HAC.out]; refine ⟨?_, hbn⟩; with_reducible rfl)
    simp only [List.setIfInBounds_toArray, List.set_cons_zero, List.set_cons_succ]
    first
      | (refine ext_skip pre_below (i := 12) (d := 30) rfl rfl (by kernel_rfl) (by kernel_rfl) (by kernel_rfl) (fun _ _ _ h => h) (by rfl) ?_)
      | (refine ext_take pre_below (i := 12) (d := 30) (v := ?_) rfl rfl (by kernel_rfl) (by kernel_rfl) (by kernel_rfl) (fun _ _ _ h => h) (by rfl) (fun W hS => ?_) ?_
         rotate_left
         · skip
           refine gives_value (w := W) (by exact Below.refl _ _) ?_; go_simp; try with_reducible rfl)
    simp only [List.setIfInBounds_toArray, List.set_cons_zero, List.set_cons_succ]
    refine ext_take pre_below (i := 13) (d := 31) (v := ?_) rfl rfl (by kernel_rfl) (by kernel_rfl) (by kernel_rfl) (fun _ _ _ h => h) (by rfl) (fun W hS => ?_) ?_
    rotate_left
    · skip
      refine gives_value (w := W) (by exact Below.refl _ _) ?_; go_simp; try with_reducible rfl
    simp only [List.setIfInBounds_toArray, List.set_cons_zero, List.set_cons_succ]
    refine ext_take pre_below (i := 14) (d := 32) (v := ?_) rfl rfl (by kernel_rfl) (by kernel_rfl) (by kernel_rfl) (fun _ _ _ h => h) (by rfl) (fun W hS => ?_) ?_
    rotate_left
    · skip
      refine gives_value (w := W) (by exact Below.refl _ _) ?_; go_simp; try with_reducible rfl
    simp only [List.setIfInBounds_toArray, List.set_cons_zero, List.set_cons_succ]
    first
      | (refine ext_skip pre_below (i := 15) (d := 33) rfl rfl (by kernel_rfl) (by kernel_rfl) (by kernel_rfl) (fun _ _ _ h => h) (by rfl) ?_)
      | (refine ext_take pre_below (i := 15) (d := 33) (v := ?_) rfl rfl (by kernel_rfl) (by kernel_rfl) (by kernel_rfl) (fun _ _ _ h => h) (by rfl) (fun W hS => ?_) ?_
         rotate_left
         · skip
           (refine load_gives 24 (.tmp 3) ?_ w.heap.size ?_ _ #[.int .i64 ka, .slice ao1 da.length cap1] (0, 0) _ ((hS.block _ (Array.getElem?_eq_some_iff.1 HZ1.out).1).trans HZ1.out) Try.underlying24 rfl hinfoC (Below.refl _ _) <;> rfl))
    simp only [List.setIfInBounds_toArray, List.set_cons_zero, List.set_cons_succ]
    first
      | (refine ext_skip pre_below (i := 16) (d := 34) rfl rfl (by kernel_rfl) (by kernel_rfl) (by kernel_rfl) (fun _ _ _ h => h) (by rfl) ?_)
      | (refine ext_take pre_below (i := 16) (d := 34) (v := ?_) rfl rfl (by kernel_rfl) (by kernel_rfl) (by kernel_rfl) (fun _ _ _ h => h) (by rfl) (fun W hS => ?_) ?_
         rotate_left
         · skip
           (refine load_gives 24 (.tmp 4) ?_ (w.heap.size + 1) ?_ _ #[.int .i64 kb, .slice ao2 db.length cap2] (0, 0) _ ((hS.block _ (Array.getElem?_eq_some_iff.1 HZ2.out).1).trans HZ2.out) Try.underlying24 rfl hinfoC (Below.refl _ _) <;> rfl))
    simp only [List.setIfInBounds_toArray, List.set_cons_zero, List.set_cons_succ]
    first
      | (refine ext_skip pre_below (i := 17) (d := 35) rfl rfl (by kernel_rfl) (by kernel_rfl) (by kernel_rfl) (fun _ _ _ h => h) (by rfl) ?_)
      | (refine ext_take pre_below (i := 17) (d := 35) (v := ?_) rfl rfl (by kernel_rfl) (by kernel_rfl) (by kernel_rfl) (fun _ _ _ h => h) (by rfl) (fun W hS => ?_) ?_
         rotate_left
         · skip
           go_simp; refine Gives.enter ((may_any ka kb _ _ da db W (HA2.out.new hS) (HB2r.out.new hS) H8A.out H8B.out).mono ?_); rintro e wn ⟨rfl, hbn⟩; rw [HAB.out]; refine ⟨?_, hbn⟩; with_reducible rfl)
    simp only [List.setIfInBounds_toArray, List.set_cons_zero, List.set_cons_succ]
    first
      | (refine ext_skip pre_below (i := 18) (d := 36) rfl rfl (by kernel_rfl) (by kernel_rfl) (by kernel_rfl) (fun _ _ _ h => h) (by rfl) ?_)
      | (refine ext_take pre_below (i := 18) (d := 36) (v := ?_) rfl rfl (by kernel_rfl) (by kernel_rfl) (by kernel_rfl) (fun _ _ _ h => h) (by rfl) (fun W hS => ?_) ?_
         rotate_left
         · skip
           refine gives_value (w := W) (by exact Below.refl _ _) ?_; go_simp; try with_reducible rfl)
    simp only [List.setIfInBounds_toArray, List.set_cons_zero, List.set_cons_succ]
    first
      | (refine ext_skip pre_below (i := 19) (d := 37) rfl rfl (by kernel_rfl) (by kernel_rfl) (by kernel_rfl) (fun _ _ _ h => h) (by rfl) ?_)
      | (refine ext_take pre_below (i := 19) (d := 37) (v := ?_) rfl rfl (by kernel_rfl) (by kernel_rfl) (by kernel_rfl) (fun _ _ _ h => h) (by rfl) (fun W hS => ?_) ?_
         rotate_left
         · skip
           (refine load_gives 24 (.tmp 4) ?_ (w.heap.size + 1) ?_ _ #[.int .i64 kb, .slice ao2 db.length cap2] (0, 0) _ ((hS.block _ (Array.getElem?_eq_some_iff.1 HZ2.out).1).trans HZ2.out) Try.underlying24 rfl hinfoC (Below.refl _ _) <;> rfl))
    simp only [List.setIfInBounds_toArray, List.set_cons_zero, List.set_cons_succ]
    first
      | (refine ext_skip pre_below (i := 20) (d := 38) rfl rfl (by kernel_rfl) (by kernel_rfl) (by kernel_rfl) (fun _ _ _ h => h) (by rfl) ?_)
      | (refine ext_take pre_below (i := 20) (d := 38) (v := ?_) rfl rfl (by kernel_rfl) (by kernel_rfl) (by kernel_rfl) (fun _ _ _ h => h) (by rfl) (fun W hS => ?_) ?_
         rotate_left
         · skip
           (refine load_gives 24 (.tmp 3) ?_ w.heap.size ?_ _ #[.int .i64 ka, .slice ao1 da.length cap1] (0, 0) _ ((hS.block _ (Array.getElem?_eq_some_iff.1 HZ1.out).1).trans HZ1.out) Try.underlying24 rfl hinfoC (Below.refl _ _) <;> rfl))
    simp only [List.setIfInBounds_toArray, List.set_cons_zero, List.set_cons_succ]
    first
      | (refine ext_skip pre_below (i := 21) (d := 39) rfl rfl (by kernel_rfl) (by kernel_rfl) (by kernel_rfl) (fun _ _ _ h => h) (by rfl) ?_)
      | (refine ext_take pre_below (i := 21) (d := 39) (v := ?_) rfl rfl (by kernel_rfl) (by kernel_rfl) (by kernel_rfl) (fun _ _ _ h => h) (by rfl) (fun W hS => ?_) ?_
         rotate_left
         · skip
           go_simp; refine Gives.enter ((may_any kb ka _ _ db da W (HB2r.out.new hS) (HA2.out.new hS) H8B.out H8A.out).mono ?_); rintro e wn ⟨rfl, hbn⟩; rw [HBA.out]; refine ⟨?_, hbn⟩; with_reducible rfl)
    simp only [List.setIfInBounds_toArray, List.set_cons_zero, List.set_cons_succ]
    first
      | (refine ext_skip pre_below (i := 22) (d := 40) rfl rfl (by kernel_rfl) (by kernel_rfl) (by kernel_rfl) (fun _ _ _ h => h) (by rfl) ?_)
      | (refine ext_take pre_below (i := 22) (d := 40) (v := ?_) rfl rfl (by kernel_rfl) (by kernel_rfl) (by kernel_rfl) (fun _ _ _ h => h) (by rfl) (fun W hS => ?_) ?_
         rotate_left
         · skip
           refine gives_value (w := W) (by exact Below.refl _ _) ?_; go_simp; try with_reducible rfl)
    simp only [List.setIfInBounds_toArray, List.set_cons_zero, List.set_cons_succ]
    first
      | (refine ext_skip pre_below (i := 23) (d := 41) rfl rfl (by kernel_rfl) (by kernel_rfl) (by kernel_rfl) (fun _ _ _ h => h) (by rfl) ?_)
      | (refine ext_take pre_below (i := 23) (d := 41) (v := ?_) rfl rfl (by kernel_rfl) (by kernel_rfl) (by kernel_rfl) (fun _ _ _ h => h) (by rfl) (fun W hS => ?_) ?_
         rotate_left
         · skip
           refine gives_value (w := W) (by exact Below.refl _ _) ?_; go_simp; try with_reducible rfl)
    simp only [List.setIfInBounds_toArray, List.set_cons_zero, List.set_cons_succ]
    first
      | (refine ext_skip pre_below (i := 24) (d := 42) rfl rfl (by kernel_rfl) (by kernel_rfl) (by kernel_rfl) (fun _ _ _ h => h) (by rfl) ?_)
      | (refine ext_take pre_below (i := 24) (d := 42) (v := ?_) rfl rfl (by kernel_rfl) (by kernel_rfl) (by kernel_rfl) (fun _ _ _ h => h) (by rfl) (fun W hS => ?_) ?_
         rotate_left
         · skip
           (refine load_gives 24 (.tmp 3) ?_ w.heap.size ?_ _ #[.int .i64 ka, .slice ao1 da.length cap1] (0, 0) _ ((hS.block _ (Array.getElem?_eq_some_iff.1 HZ1.out).1).trans HZ1.out) Try.underlying24 rfl hinfoC (Below.refl _ _) <;> rfl))
    simp only [List.setIfInBounds_toArray, List.set_cons_zero, List.set_cons_succ]
    first
      | (refine ext_skip pre_below (i := 25) (d := 43) rfl rfl (by kernel_rfl) (by kernel_rfl) (by kernel_rfl) (fun _ _ _ h => h) (by rfl) ?_)
      | (refine ext_take pre_below (i := 25) (d := 43) (v := ?_) rfl rfl (by kernel_rfl) (by kernel_rfl) (by kernel_rfl) (fun _ _ _ h => h) (by rfl) (fun W hS => ?_) ?_
         rotate_left
         · skip
           (refine load_gives 24 (.tmp 4) ?_ (w.heap.size + 1) ?_ _ #[.int .i64 kb, .slice ao2 db.length cap2] (0, 0) _ ((hS.block _ (Array.getElem?_eq_some_iff.1 HZ2.out).1).trans HZ2.out) Try.underlying24 rfl hinfoC (Below.refl _ _) <;> rfl))
    simp only [List.setIfInBounds_toArray, List.set_cons_zero, List.set_cons_succ]
    first
      | (refine ext_skip pre_below (i := 26) (d := 44) rfl rfl (by kernel_rfl) (by kernel_rfl) (by kernel_rfl) (fun _ _ _ h => h) (by rfl) ?_)
      | (refine ext_take pre_below (i := 26) (d := 44) (v := ?_) rfl rfl (by kernel_rfl) (by kernel_rfl) (by kernel_rfl) (fun _ _ _ h => h) (by rfl) (fun W hS => ?_) ?_
         rotate_left
         · skip
           go_simp; refine Gives.enter ((same_any ka kb _ _ da db W (HA2.out.new hS) (HB2r.out.new hS) H8A.out H8B.out).mono ?_); rintro e wn ⟨rfl, hbn⟩; rw [HSM.out]; refine ⟨?_, hbn⟩; with_reducible rfl)
    simp only [List.setIfInBounds_toArray, List.set_cons_zero, List.set_cons_succ]
    first
      | (refine ext_skip pre_below (i := 27) (d := 45) rfl rfl (by kernel_rfl) (by kernel_rfl) (by kernel_rfl) (fun _ _ _ h => h) (by rfl) ?_)
      | (refine ext_take pre_below (i := 27) (d := 45) (v := ?_) rfl rfl (by kernel_rfl) (by kernel_rfl) (by kernel_rfl) (fun _ _ _ h => h) (by rfl) (fun W hS => ?_) ?_
         rotate_left
         · skip
           refine gives_value (w := W) (by exact Below.refl _ _) ?_; go_simp; try with_reducible rfl)
    simp only [List.setIfInBounds_toArray, List.set_cons_zero, List.set_cons_succ]
    first
      | (refine ext_skip pre_below (i := 28) (d := 46) rfl rfl (by kernel_rfl) (by kernel_rfl) (by kernel_rfl) (fun _ _ _ h => h) (by rfl) ?_)
      | (refine ext_take pre_below (i := 28) (d := 46) (v := ?_) rfl rfl (by kernel_rfl) (by kernel_rfl) (by kernel_rfl) (fun _ _ _ h => h) (by rfl) (fun W hS => ?_) ?_
         rotate_left
         · skip
           refine gives_value (w := W) (by exact Below.refl _ _) ?_; go_simp; try with_reducible rfl)
    simp only [List.setIfInBounds_toArray, List.set_cons_zero, List.set_cons_succ]
    refine ext_take pre_below (i := 29) (d := 47) (v := ?_) rfl rfl (by kernel_rfl) (by kernel_rfl) (by kernel_rfl) (fun _ _ _ h => h) (by rfl) (fun W hS => ?_) ?_
    rotate_left
    · skip
      refine gives_value (w := W) (by exact Below.refl _ _) ?_; go_simp; try with_reducible rfl
    simp only [List.setIfInBounds_toArray, List.set_cons_zero, List.set_cons_succ]
    refine ext_take pre_below (i := 30) (d := 48) (v := ?_) rfl rfl (by kernel_rfl) (by kernel_rfl) (by kernel_rfl) (fun _ _ _ h => h) (by rfl) (fun W hS => ?_) ?_
    rotate_left
    · skip
      refine gives_value (w := W) (by exact Below.refl _ _) ?_; go_simp; try with_reducible rfl
    simp only [List.setIfInBounds_toArray, List.set_cons_zero, List.set_cons_succ]
    first
      | (refine ext_skip pre_below (i := 31) (d := 49) rfl rfl (by kernel_rfl) (by kernel_rfl) (by kernel_rfl) (fun _ _ _ h => h) (by rfl) ?_)
      | (refine ext_take pre_below (i := 31) (d := 49) (v := ?_) rfl rfl (by kernel_rfl) (by kernel_rfl) (by kernel_rfl) (fun _ _ _ h => h) (by rfl) (fun W hS => ?_) ?_
         rotate_left
         · skip
           (refine load_gives 24 (.tmp 3) ?_ w.heap.size ?_ _ #[.int .i64 ka, .slice ao1 da.length cap1] (0, 0) _ ((hS.block _ (Array.getElem?_eq_some_iff.1 HZ1.out).1).trans HZ1.out) Try.underlying24 rfl hinfoC (Below.refl _ _) <;> rfl))
    simp only [List.setIfInBounds_toArray, List.set_cons_zero, List.set_cons_succ]
    first
      | (refine ext_skip pre_below (i := 32) (d := 50) rfl rfl (by kernel_rfl) (by kernel_rfl) (by kernel_rfl) (fun _ _ _ h => h) (by rfl) ?_)
      | (refine ext_take pre_below (i := 32) (d := 50) (v := ?_) rfl rfl (by kernel_rfl) (by kernel_rfl) (by kernel_rfl) (fun _ _ _ h => h) (by rfl) (fun W hS => ?_) ?_
         rotate_left
         · skip
           go_simp; refine Gives.enter ((check_any ka _ da W (HA2.out.new hS)).mono ?_); rintro e wn ⟨rfl, hbn⟩; rw [HCK.out]; refine ⟨?_, hbn⟩; with_reducible rfl)
    simp only [List.setIfInBounds_toArray, List.set_cons_zero, List.set_cons_succ]
    first
      | (refine ext_skip pre_below (i := 33) (d := 51) rfl rfl (by kernel_rfl) (by kernel_rfl) (by kernel_rfl) (fun _ _ _ h => h) (by rfl) ?_)
      | (refine ext_take pre_below (i := 33) (d := 51) (v := ?_) rfl rfl (by kernel_rfl) (by kernel_rfl) (by kernel_rfl) (fun _ _ _ h => h) (by rfl) (fun W hS => ?_) ?_
         rotate_left
         · skip
           refine gives_value (w := W) (by exact Below.refl _ _) ?_; go_simp; try with_reducible rfl)
    simp only [List.setIfInBounds_toArray, List.set_cons_zero, List.set_cons_succ]
    first
      | (refine ext_skip pre_below (i := 34) (d := 52) rfl rfl (by kernel_rfl) (by kernel_rfl) (by kernel_rfl) (fun _ _ _ h => h) (by rfl) ?_)
      | (refine ext_take pre_below (i := 34) (d := 52) (v := ?_) rfl rfl (by kernel_rfl) (by kernel_rfl) (by kernel_rfl) (fun _ _ _ h => h) (by rfl) (fun W hS => ?_) ?_
         rotate_left
         · skip
           (refine load_gives 24 (.tmp 3) ?_ w.heap.size ?_ _ #[.int .i64 ka, .slice ao1 da.length cap1] (0, 0) _ ((hS.block _ (Array.getElem?_eq_some_iff.1 HZ1.out).1).trans HZ1.out) Try.underlying24 rfl hinfoC (Below.refl _ _) <;> rfl))
    simp only [List.setIfInBounds_toArray, List.set_cons_zero, List.set_cons_succ]
    first
      | (refine ext_skip pre_below (i := 35) (d := 53) rfl rfl (by kernel_rfl) (by kernel_rfl) (by kernel_rfl) (fun _ _ _ h => h) (by rfl) ?_)
      | (refine ext_take pre_below (i := 35) (d := 53) (v := ?_) rfl rfl (by kernel_rfl) (by kernel_rfl) (by kernel_rfl) (fun _ _ _ h => h) (by rfl) (fun W hS => ?_) ?_
         rotate_left
         · skip
           (refine load_gives 24 (.tmp 3) ?_ w.heap.size ?_ _ #[.int .i64 ka, .slice ao1 da.length cap1] (0, 0) _ ((hS.block _ (Array.getElem?_eq_some_iff.1 HZ1.out).1).trans HZ1.out) Try.underlying24 rfl hinfoC (Below.refl _ _) <;> rfl))
    simp only [List.setIfInBounds_toArray, List.set_cons_zero, List.set_cons_succ]
    first
      | (refine ext_skip pre_below (i := 36) (d := 54) rfl rfl (by kernel_rfl) (by kernel_rfl) (by kernel_rfl) (fun _ _ _ h => h) (by rfl) ?_)
      | (refine ext_take pre_below (i := 36) (d := 54) (v := ?_) rfl rfl (by kernel_rfl) (by kernel_rfl) (by kernel_rfl) (fun _ _ _ h => h) (by rfl) (fun W hS => ?_) ?_
         rotate_left
         · skip
           go_simp; refine Gives.enter ((may_any ka ka _ _ da da W (HA2.out.new hS) (HA2.out.new hS) H8A.out H8A.out).mono ?_); rintro e wn ⟨rfl, hbn⟩; rw [HAA.out]; refine ⟨?_, hbn⟩; with_reducible rfl)
    simp only [List.setIfInBounds_toArray, List.set_cons_zero, List.set_cons_succ]
    first
      | (refine ext_skip pre_below (i := 37) (d := 55) rfl rfl (by kernel_rfl) (by kernel_rfl) (by kernel_rfl) (fun _ _ _ h => h) (by rfl) ?_)
      | (refine ext_take pre_below (i := 37) (d := 55) (v := ?_) rfl rfl (by kernel_rfl) (by kernel_rfl) (by kernel_rfl) (fun _ _ _ h => h) (by rfl) (fun W hS => ?_) ?_
         rotate_left
         · skip
           refine gives_value (w := W) (by exact Below.refl _ _) ?_; go_simp; try with_reducible rfl)
    simp only [List.setIfInBounds_toArray, List.set_cons_zero, List.set_cons_succ]
    refine ext_take pre_below (i := 38) (d := 56) (v := ?_) rfl rfl (by kernel_rfl) (by kernel_rfl) (by kernel_rfl) (fun _ _ _ h => h) (by rfl) (fun W hS => ?_) ?_
    rotate_left
    · skip
      refine gives_value (w := W) (by exact Below.refl _ _) ?_; go_simp; try with_reducible rfl
    simp only [List.setIfInBounds_toArray, List.set_cons_zero, List.set_cons_succ]
    refine ext_done (by kernel_rfl) (fun w3 hS3 => ?_) _
    have HB3 : Hid (Below w.heap.size w w3) := Lib.hid (HB2.out.trans (hS3.mono HB2.out.size))
    have HV1 := Lib.hid ((hS3.block _ (Array.getElem?_eq_some_iff.1 HZ1.out).1).trans HZ1.out)
    have HV2 := Lib.hid ((hS3.block _ (Array.getElem?_eq_some_iff.1 HZ2.out).1).trans HZ2.out)
    have HA3 := Lib.hid (HA2.out.new hS3)
    have HB3r := Lib.hid (HB2r.out.new hS3)
    clear hS3 HZ1 HZ2 HZ3 HA2 HB2r HC2 HB2 HAB HBC HAC HBA HSM HAA HCK hinfoC HMX
    obtain ⟨a0, a1, _, _⟩ := blk2 HV1.out
    obtain ⟨b0, b1, _, _⟩ := blk2 HV2.out
    go_wp2_with fail
    refine (later_any ka kb _ _ da db w3 HA3.out HB3r.out H8A.out H8B.out (by have := HLA.out; omega) (by have := HLB.out; omega)).mono ?_
    rintro e w4 ⟨k, d, ok, v4, hl, rfl, ho, hb4⟩
    obtain ⟨ao4, cap4, rfl, _, _, _⟩ := ho.reads.val
    obtain ⟨W4, hW4⟩ : ∃ W4, W4 = w4.alloc (.cells #[.int .i64 k, .slice ao4 d.length cap4] 24) := ⟨_, rfl⟩
    have hb34 : Below w3.heap.size w3 W4 := by rw [hW4]; exact hb4.alloc hb4.size _
    have hx4 : W4.heap[w4.heap.size]? = some (.cells #[.int .i64 k, .slice ao4 d.length cap4] 24 (0, 0)) := by rw [hW4]; exact heap_alloc_new _ _
    have HD4 := Lib.hid (ho.reads.new (show Below w4.heap.size w4 W4 by rw [hW4]; exact (Below.refl _ _).alloc (Nat.le_refl _) _))
    have HU1 := Lib.hid ((hb34.block _ (Array.getElem?_eq_some_iff.1 HV1.out).1).trans HV1.out)
    have HU2 := Lib.hid ((hb34.block _ (Array.getElem?_eq_some_iff.1 HV2.out).1).trans HV2.out)
    have HA4 := Lib.hid (HA3.out.new hb34)
    have HB4r := Lib.hid (HB3r.out.new hb34)
    have HB4 := Lib.hid (HB3.out.trans (hb34.mono HB3.out.size))
    have HX4 := Lib.hid hx4
    have HW4 := Lib.hid hW4
    have HL := Lib.hid hl
    clear hb4 ho hb34 hx4 hW4 HV1 HV2 HA3 HB3r HB3 a0 a1 b0 b1 hl
    obtain ⟨a0, a1, _, _⟩ := blk2 HU1.out
    obtain ⟨b0, b1, _, _⟩ := blk2 HU2.out
    rw [HW4.out] at a0 a1 b0 b1
    go_wp2_with fail
    rw [← HW4.out]
    refine (later_any kb ka _ _ db da W4 HB4r.out HA4.out H8B.out H8A.out (by have := HLB.out; omega) (by have := HLA.out; omega)).mono ?_
    rintro e w5 ⟨k5, d5, ok5, v5, hl5, rfl, ho, hb5⟩
    obtain ⟨ao5, cap5, rfl, _, _, _⟩ := ho.reads.val
    obtain ⟨W5, hW5⟩ : ∃ W5, W5 = w5.alloc (.cells #[.int .i64 k5, .slice ao5 d5.length cap5] 24) := ⟨_, rfl⟩
    have hb45 : Below W4.heap.size W4 W5 := by rw [hW5]; exact hb5.alloc hb5.size _
    have hx5 : W5.heap[w5.heap.size]? = some (.cells #[.int .i64 k5, .slice ao5 d5.length cap5] 24 (0, 0)) := by rw [hW5]; exact heap_alloc_new _ _
    have HD5 := Lib.hid (ho.reads.new (show Below w5.heap.size w5 W5 by rw [hW5]; exact (Below.refl _ _).alloc (Nat.le_refl _) _))
    have HT1 := Lib.hid ((hb45.block _ (Array.getElem?_eq_some_iff.1 HU1.out).1).trans HU1.out)
    have HT2 := Lib.hid ((hb45.block _ (Array.getElem?_eq_some_iff.1 HU2.out).1).trans HU2.out)
    have HY4 := Lib.hid ((hb45.block _ (Array.getElem?_eq_some_iff.1 HX4.out).1).trans HX4.out)
    have HA5 := Lib.hid (HA4.out.new hb45)
    have HB5r := Lib.hid (HB4r.out.new hb45)
    have HL5 := Lib.hid (HD4.out.new hb45)
    have HB5 := Lib.hid (HB4.out.trans (hb45.mono HB4.out.size))
    have HX5 := Lib.hid hx5
    have HW5 := Lib.hid hW5
    have hev := later_even ka kb da db
    rw [← HL.out, ← hl5] at hev
    obtain ⟨h1, h2⟩ := hev
    simp only at h1 h2
    subst h1
    have HSS := Lib.hid h2
    have h8k := later_byte (k1 := ka) (k2 := kb) H8A.out H8B.out
    rw [← HL.out] at h8k
    have H8K := Lib.hid h8k
    have h8k5 := later_byte (k1 := kb) (k2 := ka) H8B.out H8A.out
    rw [← hl5] at h8k5
    have H8K5 := Lib.hid h8k5
    have hbt : ok = true → mayC ka da k d = true ∧ mayC kb db k d = true ∧ (sameC k d ka da = true ∨ sameC k d kb db = true) := by
      intro hok
      have := later_both (k1 := ka) (d1 := da) (k2 := kb) (d2 := db)
      rw [← HL.out] at this
      exact this hok
    have HBT := Lib.hid hbt
    clear hb5 ho hb45 hx5 hW5 HU1 HU2 HA4 HB4r HB4 HX4 HD4 a0 a1 b0 b1 hl5 h2 h8k h8k5 hbt HL HW4
    obtain ⟨e0, e1, _, _⟩ := blk2 HY4.out
    obtain ⟨f0, f1, _, _⟩ := blk2 HX5.out
    rw [HW5.out] at e0 e1 f0 f1
    have hbne : (ok != ok) = false := by cases ok <;> rfl
    go_wp2_with fail
    rw [← HW5.out]
    refine (same_any k k5 _ _ d d5 W5 HL5.out HD5.out H8K.out H8K5.out).mono ?_
    rintro e w6 ⟨rfl, hb6⟩
    rw [HSS.out]
    have HB6 := Lib.hid (HB5.out.trans (hb6.mono HB5.out.size))
    have HS1 := Lib.hid ((hb6.block _ (Array.getElem?_eq_some_iff.1 HT1.out).1).trans HT1.out)
    have HS2 := Lib.hid ((hb6.block _ (Array.getElem?_eq_some_iff.1 HT2.out).1).trans HT2.out)
    have HS4 := Lib.hid ((hb6.block _ (Array.getElem?_eq_some_iff.1 HY4.out).1).trans HY4.out)
    have HA6 := Lib.hid (HA5.out.new hb6)
    have HB6r := Lib.hid (HB5r.out.new hb6)
    have HL6 := Lib.hid (HL5.out.new hb6)
    clear hb6 HT1 HT2 HY4 HA5 HB5r HL5 HD5 HX5 HB5 e0 e1 f0 f1 HW5 HSS H8K5
    obtain ⟨a0, a1, _, _⟩ := blk2 HS1.out
    obtain ⟨b0, b1, _, _⟩ := blk2 HS2.out
    obtain ⟨e0, e1, _, _⟩ := blk2 HS4.out
    cases ok
    · go_wp2
      go_ret
      exact ⟨rfl, HB6.out⟩
    · obtain ⟨m1, m2, m3⟩ := HBT.out rfl
      have HM1 := Lib.hid m1
      have HM2 := Lib.hid m2
      have HM3 := Lib.hid m3
      clear m1 m2 m3 HBT hbne
      go_wp2_with fail
      refine (may_any ka k _ _ da d w6 HA6.out HL6.out H8A.out H8K.out).mono ?_
      rintro e w7 ⟨rfl, hb7⟩
      rw [HM1.out]
      have HB7 := Lib.hid (HB6.out.trans (hb7.mono HB6.out.size))
      have HR1 := Lib.hid ((hb7.block _ (Array.getElem?_eq_some_iff.1 HS1.out).1).trans HS1.out)
      have HR2 := Lib.hid ((hb7.block _ (Array.getElem?_eq_some_iff.1 HS2.out).1).trans HS2.out)
      have HR4 := Lib.hid ((hb7.block _ (Array.getElem?_eq_some_iff.1 HS4.out).1).trans HS4.out)
      have HA7 := Lib.hid (HA6.out.new hb7)
      have HB7r := Lib.hid (HB6r.out.new hb7)
      have HL7 := Lib.hid (HL6.out.new hb7)
      clear hb7 HS1 HS2 HS4 HA6 HB6r HL6 HB6 a0 a1 b0 b1 e0 e1
      obtain ⟨a0, a1, _, _⟩ := blk2 HR1.out
      obtain ⟨b0, b1, _, _⟩ := blk2 HR2.out
      obtain ⟨e0, e1, _, _⟩ := blk2 HR4.out
      go_wp2_with fail
      refine (may_any kb k _ _ db d w7 HB7r.out HL7.out H8B.out H8K.out).mono ?_
      rintro e w8 ⟨rfl, hb8⟩
      rw [HM2.out]
      have HB8 := Lib.hid (HB7.out.trans (hb8.mono HB7.out.size))
      have HQ1 := Lib.hid ((hb8.block _ (Array.getElem?_eq_some_iff.1 HR1.out).1).trans HR1.out)
      have HQ2 := Lib.hid ((hb8.block _ (Array.getElem?_eq_some_iff.1 HR2.out).1).trans HR2.out)
      have HQ4 := Lib.hid ((hb8.block _ (Array.getElem?_eq_some_iff.1 HR4.out).1).trans HR4.out)
      have HA8 := Lib.hid (HA7.out.new hb8)
      have HB8r := Lib.hid (HB7r.out.new hb8)
      have HL8 := Lib.hid (HL7.out.new hb8)
      clear hb8 HR1 HR2 HR4 HA7 HB7r HL7 HB7 a0 a1 b0 b1 e0 e1
      obtain ⟨a0, a1, _, _⟩ := blk2 HQ1.out
      obtain ⟨b0, b1, _, _⟩ := blk2 HQ2.out
      obtain ⟨e0, e1, _, _⟩ := blk2 HQ4.out
      go_wp2_with fail
      refine (same_any k ka _ _ d da w8 HL8.out HA8.out H8K.out H8A.out).mono ?_
      rintro e w9 ⟨rfl, hb9⟩
      cases hsa : sameC k d ka da
      · have hsb : sameC k d kb db = true := by
          rcases HM3.out with h | h
          · rw [hsa] at h; cases h
          · exact h
        have HSB := Lib.hid hsb
        clear hsb hsa
        have HB9 := Lib.hid (HB8.out.trans (hb9.mono HB8.out.size))
        have HP2 := Lib.hid ((hb9.block _ (Array.getElem?_eq_some_iff.1 HQ2.out).1).trans HQ2.out)
        have HP4 := Lib.hid ((hb9.block _ (Array.getElem?_eq_some_iff.1 HQ4.out).1).trans HQ4.out)
        have HB9r := Lib.hid (HB8r.out.new hb9)
        have HL9 := Lib.hid (HL8.out.new hb9)
        clear hb9 HQ1 HQ2 HQ4 HA8 HB8r HL8 HB8 a0 a1 b0 b1 e0 e1
        obtain ⟨b0, b1, _, _⟩ := blk2 HP2.out
        obtain ⟨e0, e1, _, _⟩ := blk2 HP4.out
        go_wp2_with fail
        refine (same_any k kb _ _ d db w9 HL9.out HB9r.out H8K.out H8B.out).mono ?_
        rintro e w10 ⟨rfl, hb10⟩
        rw [HSB.out]
        go_wp2
        go_ret
        exact ⟨rfl, HB9.out.trans (hb10.mono HB9.out.size)⟩
      · go_wp2
        go_ret
        exact ⟨rfl, HB8.out.trans (hb9.mono HB8.out.size)⟩
  · skip
    go_wp2_with fail
    refine wp_region_ext pre_below (Below.refl _ _).drew HMX.out ?_
    refine ext_take pre_below (i := 0) (d := 18) (v := ?_) rfl rfl (by kernel_rfl) (by kernel_rfl) (by kernel_rfl) (fun _ _ _ h => h) (by rfl) (fun W hS => ?_) ?_
    rotate_left
    · skip
      (refine load_gives 24 (.tmp 3) ?_ w.heap.size ?_ _ #[.int .i64 ka, .slice ao1 da.length cap1] (0, 0) _ ((hS.block _ (Array.getElem?_eq_some_iff.1 HZ1.out).1).trans HZ1.out) Try.underlying24 rfl hinfoC (Below.refl _ _) <;> rfl)
    simp only [List.setIfInBounds_toArray, List.set_cons_zero, List.set_cons_succ]
    refine ext_take pre_below (i := 1) (d := 19) (v := ?_) rfl rfl (by kernel_rfl) (by kernel_rfl) (by kernel_rfl) (fun _ _ _ h => h) (by rfl) (fun W hS => ?_) ?_
    rotate_left
    · skip
      (refine load_gives 24 (.tmp 4) ?_ (w.heap.size + 1) ?_ _ #[.int .i64 kb, .slice ao2 db.length cap2] (0, 0) _ ((hS.block _ (Array.getElem?_eq_some_iff.1 HZ2.out).1).trans HZ2.out) Try.underlying24 rfl hinfoC (Below.refl _ _) <;> rfl)
    simp only [List.setIfInBounds_toArray, List.set_cons_zero, List.set_cons_succ]
    refine ext_take pre_below (i := 2) (d := 20) (v := ?_) rfl rfl (by kernel_rfl) (by kernel_rfl) (by kernel_rfl) (fun _ _ _ h => h) (by rfl) (fun W hS => ?_) ?_
    rotate_left
    · skip
      go_simp; refine Gives.enter ((may_any ka kb _ _ da db W (HA2.out.new hS) (HB2r.out.new hS) H8A.out H8B.out).mono ?_); rintro e wn ⟨rfl, hbn⟩; rw [HAB.out]; refine ⟨?_, hbn⟩; with_reducible rfl
    simp only [List.setIfInBounds_toArray, List.set_cons_zero, List.set_cons_succ]
    refine ext_take pre_below (i := 3) (d := 21) (v := ?_) rfl rfl (by kernel_rfl) (by kernel_rfl) (by kernel_rfl) (fun _ _ _ h => h) (by rfl) (fun W hS => ?_) ?_
    rotate_left
    · skip
      refine gives_value (w := W) (by exact Below.refl _ _) ?_; go_simp; try with_reducible rfl
    simp only [List.setIfInBounds_toArray, List.set_cons_zero, List.set_cons_succ]
    first
      | (refine ext_skip pre_below (i := 4) (d := 22) rfl rfl (by kernel_rfl) (by kernel_rfl) (by kernel_rfl) (fun _ _ _ h => h) (by rfl) ?_)
      | (refine ext_take pre_below (i := 4) (d := 22) (v := ?_) rfl rfl (by kernel_rfl) (by kernel_rfl) (by kernel_rfl) (fun _ _ _ h => h) (by rfl) (fun W hS => ?_) ?_
         rotate_left
         · skip
           (refine load_gives 24 (.tmp 4) ?_ (w.heap.size + 1) ?_ _ #[.int .i64 kb, .slice ao2 db.length cap2] (0, 0) _ ((hS.block _ (Array.getElem?_eq_some_iff.1 HZ2.out).1).trans HZ2.out) Try.underlying24 rfl hinfoC (Below.refl _ _) <;> rfl))
    simp only [List.setIfInBounds_toArray, List.set_cons_zero, List.set_cons_succ]
    first
      | (refine ext_skip pre_below (i := 5) (d := 23) rfl rfl (by kernel_rfl) (by kernel_rfl) (by kernel_rfl) (fun _ _ _ h => h) (by rfl) ?_)
      | (refine ext_take pre_below (i := 5) (d := 23) (v := ?_) rfl rfl (by kernel_rfl) (by kernel_rfl) (by kernel_rfl) (fun _ _ _ h => h) (by rfl) (fun W hS => ?_) ?_
         rotate_left
         · skip
           (refine load_gives 24 (.tmp 5) ?_ (w.heap.size + 1 + 1) ?_ _ #[.int .i64 kc, .slice ao3 dc.length cap3] (0, 0) _ ((hS.block _ (Array.getElem?_eq_some_iff.1 HZ3.out).1).trans HZ3.out) Try.underlying24 rfl hinfoC (Below.refl _ _) <;> rfl))
    simp only [List.setIfInBounds_toArray, List.set_cons_zero, List.set_cons_succ]
    first
      | (refine ext_skip pre_below (i := 6) (d := 24) rfl rfl (by kernel_rfl) (by kernel_rfl) (by kernel_rfl) (fun _ _ _ h => h) (by rfl) ?_)
      | (refine ext_take pre_below (i := 6) (d := 24) (v := ?_) rfl rfl (by kernel_rfl) (by kernel_rfl) (by kernel_rfl) (fun _ _ _ h => h) (by rfl) (fun W hS => ?_) ?_
         rotate_left
         · skip
           go_simp; refine Gives.enter ((may_any kb kc _ _ db dc W (HB2r.out.new hS) (HC2.out.new hS) H8B.out H8C.out).mono ?_); rintro e wn ⟨rfl, hbn⟩; rw [HBC.out]; refine ⟨?_, hbn⟩; with_reducible rfl)
    simp only [List.setIfInBounds_toArray, List.set_cons_zero, List.set_cons_succ]
    refine ext_take pre_below (i := 7) (d := 25) (v := ?_) rfl rfl (by kernel_rfl) (by kernel_rfl) (by kernel_rfl) (fun _ _ _ h => h) (by rfl) (fun W hS => ?_) ?_
    rotate_left
    · skip
      refine gives_value (w := W) (by exact Below.refl _ _) ?_; go_simp; try with_reducible rfl
    simp only [List.setIfInBounds_toArray, List.set_cons_zero, List.set_cons_succ]
    refine ext_take pre_below (i := 8) (d := 26) (v := ?_) rfl rfl (by kernel_rfl) (by kernel_rfl) (by kernel_rfl) (fun _ _ _ h => h) (by rfl) (fun W hS => ?_) ?_
    rotate_left
    · skip
      refine gives_value (w := W) (by exact Below.refl _ _) ?_; go_simp; try with_reducible rfl
    simp only [List.setIfInBounds_toArray, List.set_cons_zero, List.set_cons_succ]
    first
      | (refine ext_skip pre_below (i := 9) (d := 27) rfl rfl (by kernel_rfl) (by kernel_rfl) (by kernel_rfl) (fun _ _ _ h => h) (by rfl) ?_)
      | (refine ext_take pre_below (i := 9) (d := 27) (v := ?_) rfl rfl (by kernel_rfl) (by kernel_rfl) (by kernel_rfl) (fun _ _ _ h => h) (by rfl) (fun W hS => ?_) ?_
         rotate_left
         · skip
           (refine load_gives 24 (.tmp 3) ?_ w.heap.size ?_ _ #[.int .i64 ka, .slice ao1 da.length cap1] (0, 0) _ ((hS.block _ (Array.getElem?_eq_some_iff.1 HZ1.out).1).trans HZ1.out) Try.underlying24 rfl hinfoC (Below.refl _ _) <;> rfl))
    simp only [List.setIfInBounds_toArray, List.set_cons_zero, List.set_cons_succ]
    first
      | (refine ext_skip pre_below (i := 10) (d := 28) rfl rfl (by kernel_rfl) (by kernel_rfl) (by kernel_rfl) (fun _ _ _ h => h) (by rfl) ?_)
      | (refine ext_take pre_below (i := 10) (d := 28) (v := ?_) rfl rfl (by kernel_rfl) (by kernel_rfl) (by kernel_rfl) (fun _ _ _ h => h) (by rfl) (fun W hS => ?_) ?_
         rotate_left
         · skip
           (refine load_gives 24 (.tmp 5) ?_ (w.heap.size + 1 + 1) ?_ _ #[.int .i64 kc, .slice ao3 dc.length cap3] (0, 0) _ ((hS.block _ (Array.getElem?_eq_some_iff.1 HZ3.out).1).trans HZ3.out) Try.underlying24 rfl hinfoC (Below.refl _ _) <;> rfl))
    simp only [List.setIfInBounds_toArray, List.set_cons_zero, List.set_cons_succ]
    first
      | (refine ext_skip pre_below (i := 11) (d := 29) rfl rfl (by kernel_rfl) (by kernel_rfl) (by kernel_rfl) (fun _ _ _ h => h) (by rfl) ?_)
      | (refine ext_take pre_below (i := 11) (d := 29) (v := ?_) rfl rfl (by kernel_rfl) (by kernel_rfl) (by kernel_rfl) (fun _ _ _ h => h) (by rfl) (fun W hS => ?_) ?_
         rotate_left
         · skip
           go_simp; refine Gives.enter ((may_any ka kc _ _ da dc W (HA2.out.new hS) (HC2.out.new hS) H8A.out H8C.out).mono ?_); rintro e wn ⟨rfl, hbn⟩; rw [HAC.out]; refine ⟨?_, hbn⟩; with_reducible rfl)
    simp only [List.setIfInBounds_toArray, List.set_cons_zero, List.set_cons_succ]
    first
      | (refine ext_skip pre_below (i := 12) (d := 30) rfl rfl (by kernel_rfl) (by kernel_rfl) (by kernel_rfl) (fun _ _ _ h => h) (by rfl) ?_)
      | (refine ext_take pre_below (i := 12) (d := 30) (v := ?_) rfl rfl (by kernel_rfl) (by kernel_rfl) (by kernel_rfl) (fun _ _ _ h => h) (by rfl) (fun W hS => ?_) ?_
         rotate_left
         · skip
           refine gives_value (w := W) (by exact Below.refl _ _) ?_; go_simp; try with_reducible rfl)
    simp only [List.setIfInBounds_toArray, List.set_cons_zero, List.set_cons_succ]
    refine ext_take pre_below (i := 13) (d := 31) (v := ?_) rfl rfl (by kernel_rfl) (by kernel_rfl) (by kernel_rfl) (fun _ _ _ h => h) (by rfl) (fun W hS => ?_) ?_
    rotate_left
    · skip
      refine gives_value (w := W) (by exact Below.refl _ _) ?_; go_simp; try with_reducible rfl
    simp only [List.setIfInBounds_toArray, List.set_cons_zero, List.set_cons_succ]
    refine ext_take pre_below (i := 14) (d := 32) (v := ?_) rfl rfl (by kernel_rfl) (by kernel_rfl) (by kernel_rfl) (fun _ _ _ h => h) (by rfl) (fun W hS => ?_) ?_
    rotate_left
    · skip
      refine gives_value (w := W) (by exact Below.refl _ _) ?_; go_simp; try with_reducible rfl
    simp only [List.setIfInBounds_toArray, List.set_cons_zero, List.set_cons_succ]
    first
      | (refine ext_skip pre_below (i := 15) (d := 33) rfl rfl (by kernel_rfl) (by kernel_rfl) (by kernel_rfl) (fun _ _ _ h => h) (by rfl) ?_)
      | (refine ext_take pre_below (i := 15) (d := 33) (v := ?_) rfl rfl (by kernel_rfl) (by kernel_rfl) (by kernel_rfl) (fun _ _ _ h => h) (by rfl) (fun W hS => ?_) ?_
         rotate_left
         · skip
           (refine load_gives 24 (.tmp 3) ?_ w.heap.size ?_ _ #[.int .i64 ka, .slice ao1 da.length cap1] (0, 0) _ ((hS.block _ (Array.getElem?_eq_some_iff.1 HZ1.out).1).trans HZ1.out) Try.underlying24 rfl hinfoC (Below.refl _ _) <;> rfl))
    simp only [List.setIfInBounds_toArray, List.set_cons_zero, List.set_cons_succ]
    first
      | (refine ext_skip pre_below (i := 16) (d := 34) rfl rfl (by kernel_rfl) (by kernel_rfl) (by kernel_rfl) (fun _ _ _ h => h) (by rfl) ?_)
      | (refine ext_take pre_below (i := 16) (d := 34) (v := ?_) rfl rfl (by kernel_rfl) (by kernel_rfl) (by kernel_rfl) (fun _ _ _ h => h) (by rfl) (fun W hS => ?_) ?_
         rotate_left
         · skip
           (refine load_gives 24 (.tmp 4) ?_ (w.heap.size + 1) ?_ _ #[.int .i64 kb, .slice ao2 db.length cap2] (0, 0) _ ((hS.block _ (Array.getElem?_eq_some_iff.1 HZ2.out).1).trans HZ2.out) Try.underlying24 rfl hinfoC (Below.refl _ _) <;> rfl))
    simp only [List.setIfInBounds_toArray, List.set_cons_zero, List.set_cons_succ]
    first
      | (refine ext_skip pre_below (i := 17) (d := 35) rfl rfl (by kernel_rfl) (by kernel_rfl) (by kernel_rfl) (fun _ _ _ h => h) (by rfl) ?_)
      | (refine ext_take pre_below (i := 17) (d := 35) (v := ?_) rfl rfl (by kernel_rfl) (by kernel_rfl) (by kernel_rfl) (fun _ _ _ h => h) (by rfl) (fun W hS => ?_) ?_
         rotate_left
         · skip
           go_simp; refine Gives.enter ((may_any ka kb _ _ da db W (HA2.out.new hS) (HB2r.out.new hS) H8A.out H8B.out).mono ?_); rintro e wn ⟨rfl, hbn⟩; rw [HAB.out]; refine ⟨?_, hbn⟩; with_reducible rfl)
    simp only [List.setIfInBounds_toArray, List.set_cons_zero, List.set_cons_succ]
    first
      | (refine ext_skip pre_below (i := 18) (d := 36) rfl rfl (by kernel_rfl) (by kernel_rfl) (by kernel_rfl) (fun _ _ _ h => h) (by rfl) ?_)
      | (refine ext_take pre_below (i := 18) (d := 36) (v := ?_) rfl rfl (by kernel_rfl) (by kernel_rfl) (by kernel_rfl) (fun _ _ _ h => h) (by rfl) (fun W hS => ?_) ?_
         rotate_left
         · skip
           refine gives_value (w := W) (by exact Below.refl _ _) ?_; go_simp; try with_reducible rfl)
    simp only [List.setIfInBounds_toArray, List.set_cons_zero, List.set_cons_succ]
    first
      | (refine ext_skip pre_below (i := 19) (d := 37) rfl rfl (by kernel_rfl) (by kernel_rfl) (by kernel_rfl) (fun _ _ _ h => h) (by rfl) ?_)
      | (refine ext_take pre_below (i := 19) (d := 37) (v := ?_) rfl rfl (by kernel_rfl) (by kernel_rfl) (by kernel_rfl) (fun _ _ _ h => h) (by rfl) (fun W hS => ?_) ?_
         rotate_left
         · skip
           (refine load_gives 24 (.tmp 4) ?_ (w.heap.size + 1) ?_ _ #[.int .i64 kb, .slice ao2 db.length cap2] (0, 0) _ ((hS.block _ (Array.getElem?_eq_some_iff.1 HZ2.out).1).trans HZ2.out) Try.underlying24 rfl hinfoC (Below.refl _ _) <;> rfl))
    simp only [List.setIfInBounds_toArray, List.set_cons_zero, List.set_cons_succ]
    first
      | (refine ext_skip pre_below (i := 20) (d := 38) rfl rfl (by kernel_rfl) (by kernel_rfl) (by kernel_rfl) (fun _ _ _ h => h) (by rfl) ?_)
      | (refine ext_take pre_below (i := 20) (d := 38) (v := ?_) rfl rfl (by kernel_rfl) (by kernel_rfl) (by kernel_rfl) (fun _ _ _ h => h) (by rfl) (fun W hS => ?_) ?_
         rotate_left
         · skip
           (refine load_gives 24 (.tmp 3) ?_ w.heap.size ?_ _ #[.int .i64 ka, .slice ao1 da.length cap1] (0, 0) _ ((hS.block _ (Array.getElem?_eq_some_iff.1 HZ1.out).1).trans HZ1.out) Try.underlying24 rfl hinfoC (Below.refl _ _) <;> rfl))
    simp only [List.setIfInBounds_toArray, List.set_cons_zero, List.set_cons_succ]
    first
      | (refine ext_skip pre_below (i := 21) (d := 39) rfl rfl (by kernel_rfl) (by kernel_rfl) (by kernel_rfl) (fun _ _ _ h => h) (by rfl) ?_)
      | (refine ext_take pre_below (i := 21) (d := 39) (v := ?_) rfl rfl (by kernel_rfl) (by kernel_rfl) (by kernel_rfl) (fun _ _ _ h => h) (by rfl) (fun W hS => ?_) ?_
         rotate_left
         · skip
           go_simp; refine Gives.enter ((may_any kb ka _ _ db da W (HB2r.out.new hS) (HA2.out.new hS) H8B.out H8A.out).mono ?_); rintro e wn ⟨rfl, hbn⟩; rw [HBA.out]; refine ⟨?_, hbn⟩; with_reducible rfl)
    simp only [List.setIfInBounds_toArray, List.set_cons_zero, List.set_cons_succ]
    first
      | (refine ext_skip pre_below (i := 22) (d := 40) rfl rfl (by kernel_rfl) (by kernel_rfl) (by kernel_rfl) (fun _ _ _ h => h) (by rfl) ?_)
      | (refine ext_take pre_below (i := 22) (d := 40) (v := ?_) rfl rfl (by kernel_rfl) (by kernel_rfl) (by kernel_rfl) (fun _ _ _ h => h) (by rfl) (fun W hS => ?_) ?_
         rotate_left
         · skip
           refine gives_value (w := W) (by exact Below.refl _ _) ?_; go_simp; try with_reducible rfl)
    simp only [List.setIfInBounds_toArray, List.set_cons_zero, List.set_cons_succ]
    first
      | (refine ext_skip pre_below (i := 23) (d := 41) rfl rfl (by kernel_rfl) (by kernel_rfl) (by kernel_rfl) (fun _ _ _ h => h) (by rfl) ?_)
      | (refine ext_take pre_below (i := 23) (d := 41) (v := ?_) rfl rfl (by kernel_rfl) (by kernel_rfl) (by kernel_rfl) (fun _ _ _ h => h) (by rfl) (fun W hS => ?_) ?_
         rotate_left
         · skip
           refine gives_value (w := W) (by exact Below.refl _ _) ?_; go_simp; try with_reducible rfl)
    simp only [List.setIfInBounds_toArray, List.set_cons_zero, List.set_cons_succ]
    first
      | (refine ext_skip pre_below (i := 24) (d := 42) rfl rfl (by kernel_rfl) (by kernel_rfl) (by kernel_rfl) (fun _ _ _ h => h) (by rfl) ?_)
      | (refine ext_take pre_below (i := 24) (d := 42) (v := ?_) rfl rfl (by kernel_rfl) (by kernel_rfl) (by kernel_rfl) (fun _ _ _ h => h) (by rfl) (fun W hS => ?_) ?_
         rotate_left
         · skip
           (refine load_gives 24 (.tmp 3) ?_ w.heap.size ?_ _ #[.int .i64 ka, .slice ao1 da.length cap1] (0, 0) _ ((hS.block _ (Array.getElem?_eq_some_iff.1 HZ1.out).1).trans HZ1.out) Try.underlying24 rfl hinfoC (Below.refl _ _) <;> rfl))
    simp only [List.setIfInBounds_toArray, List.set_cons_zero, List.set_cons_succ]
    first
      | (refine ext_skip pre_below (i := 25) (d := 43) rfl rfl (by kernel_rfl) (by kernel_rfl) (by kernel_rfl) (fun _ _ _ h => h) (by rfl) ?_)
      | (refine ext_take pre_below (i := 25) (d := 43) (v := ?_) rfl rfl (by kernel_rfl) (by kernel_rfl) (by kernel_rfl) (fun _ _ _ h => h) (by rfl) (fun W hS => ?_) ?_
         rotate_left
         · skip
           (refine load_gives 24 (.tmp 4) ?_ (w.heap.size + 1) ?_ _ #[.int .i64 kb, .slice ao2 db.length cap2] (0, 0) _ ((hS.block _ (Array.getElem?_eq_some_iff.1 HZ2.out).1).trans HZ2.out) Try.underlying24 rfl hinfoC (Below.refl _ _) <;> rfl))
    simp only [List.setIfInBounds_toArray, List.set_cons_zero, List.set_cons_succ]
    first
      | (refine ext_skip pre_below (i := 26) (d := 44) rfl rfl (by kernel_rfl) (by kernel_rfl) (by kernel_rfl) (fun _ _ _ h => h) (by rfl) ?_)
      | (refine ext_take pre_below (i := 26) (d := 44) (v := ?_) rfl rfl (by kernel_rfl) (by kernel_rfl) (by kernel_rfl) (fun _ _ _ h => h) (by rfl) (fun W hS => ?_) ?_
         rotate_left
         · skip
           go_simp; refine Gives.enter ((same_any ka kb _ _ da db W (HA2.out.new hS) (HB2r.out.new hS) H8A.out H8B.out).mono ?_); rintro e wn ⟨rfl, hbn⟩; rw [HSM.out]; refine ⟨?_, hbn⟩; with_reducible rfl)
    simp only [List.setIfInBounds_toArray, List.set_cons_zero, List.set_cons_succ]
    first
      | (refine ext_skip pre_below (i := 27) (d := 45) rfl rfl (by kernel_rfl) (by kernel_rfl) (by kernel_rfl) (fun _ _ _ h => h) (by rfl) ?_)
      | (refine ext_take pre_below (i := 27) (d := 45) (v := ?_) rfl rfl (by kernel_rfl) (by kernel_rfl) (by kernel_rfl) (fun _ _ _ h => h) (by rfl) (fun W hS => ?_) ?_
         rotate_left
         · skip
           refine gives_value (w := W) (by exact Below.refl _ _) ?_; go_simp; try with_reducible rfl)
    simp only [List.setIfInBounds_toArray, List.set_cons_zero, List.set_cons_succ]
    first
      | (refine ext_skip pre_below (i := 28) (d := 46) rfl rfl (by kernel_rfl) (by kernel_rfl) (by kernel_rfl) (fun _ _ _ h => h) (by rfl) ?_)
      | (refine ext_take pre_below (i := 28) (d := 46) (v := ?_) rfl rfl (by kernel_rfl) (by kernel_rfl) (by kernel_rfl) (fun _ _ _ h => h) (by rfl) (fun W hS => ?_) ?_
         rotate_left
         · skip
           refine gives_value (w := W) (by exact Below.refl _ _) ?_; go_simp; try with_reducible rfl)
    simp only [List.setIfInBounds_toArray, List.set_cons_zero, List.set_cons_succ]
    refine ext_take pre_below (i := 29) (d := 47) (v := ?_) rfl rfl (by kernel_rfl) (by kernel_rfl) (by kernel_rfl) (fun _ _ _ h => h) (by rfl) (fun W hS => ?_) ?_
    rotate_left
    · skip
      refine gives_value (w := W) (by exact Below.refl _ _) ?_; go_simp; try with_reducible rfl
    simp only [List.setIfInBounds_toArray, List.set_cons_zero, List.set_cons_succ]
    refine ext_take pre_below (i := 30) (d := 48) (v := ?_) rfl rfl (by kernel_rfl) (by kernel_rfl) (by kernel_rfl) (fun _ _ _ h => h) (by rfl) (fun W hS => ?_) ?_
    rotate_left
    · skip
      refine gives_value (w := W) (by exact Below.refl _ _) ?_; go_simp; try with_reducible rfl
    simp only [List.setIfInBounds_toArray, List.set_cons_zero, List.set_cons_succ]
    first
      | (refine ext_skip pre_below (i := 31) (d := 49) rfl rfl (by kernel_rfl) (by kernel_rfl) (by kernel_rfl) (fun _ _ _ h => h) (by rfl) ?_)
      | (refine ext_take pre_below (i := 31) (d := 49) (v := ?_) rfl rfl (by kernel_rfl) (by kernel_rfl) (by kernel_rfl) (fun _ _ _ h => h) (by rfl) (fun W hS => ?_) ?_
         rotate_left
         · skip
           (refine load_gives 24 (.tmp 3) ?_ w.heap.size ?_ _ #[.int .i64 ka, .slice ao1 da.length cap1] (0, 0) _ ((hS.block _ (Array.getElem?_eq_some_iff.1 HZ1.out).1).trans HZ1.out) Try.underlying24 rfl hinfoC (Below.refl _ _) <;> rfl))
    simp only [List.setIfInBounds_toArray, List.set_cons_zero, List.set_cons_succ]
    first
      | (refine ext_skip pre_below (i := 32) (d := 50) rfl rfl (by kernel_rfl) (by kernel_rfl) (by kernel_rfl) (fun _ _ _ h => h) (by rfl) ?_)
      | (refine ext_take pre_below (i := 32) (d := 50) (v := ?_) rfl rfl (by kernel_rfl) (by kernel_rfl) (by kernel_rfl) (fun _ _ _ h => h) (by rfl) (fun W hS => ?_) ?_
         rotate_left
         · skip
           go_simp; refine Gives.enter ((check_any ka _ da W (HA2.out.new hS)).mono ?_); rintro e wn ⟨rfl, hbn⟩; rw [HCK.out]; refine ⟨?_, hbn⟩; with_reducible rfl)
    simp only [List.setIfInBounds_toArray, List.set_cons_zero, List.set_cons_succ]
    first
      | (refine ext_skip pre_below (i := 33) (d := 51) rfl rfl (by kernel_rfl) (by kernel_rfl) (by kernel_rfl) (fun _ _ _ h => h) (by rfl) ?_)
      | (refine ext_take pre_below (i := 33) (d := 51) (v := ?_) rfl rfl (by kernel_rfl) (by kernel_rfl) (by kernel_rfl) (fun _ _ _ h => h) (by rfl) (fun W hS => ?_) ?_
         rotate_left
         · skip
           refine gives_value (w := W) (by exact Below.refl _ _) ?_; go_simp; try with_reducible rfl)
    simp only [List.setIfInBounds_toArray, List.set_cons_zero, List.set_cons_succ]
    first
      | (refine ext_skip pre_below (i := 34) (d := 52) rfl rfl (by kernel_rfl) (by kernel_rfl) (by kernel_rfl) (fun _ _ _ h => h) (by rfl) ?_)
      | (refine ext_take pre_below (i := 34) (d := 52) (v := ?_) rfl rfl (by kernel_rfl) (by kernel_rfl) (by kernel_rfl) (fun _ _ _ h => h) (by rfl) (fun W hS => ?_) ?_
         rotate_left
         · skip
           (refine load_gives 24 (.tmp 3) ?_ w.heap.size ?_ _ #[.int .i64 ka, .slice ao1 da.length cap1] (0, 0) _ ((hS.block _ (Array.getElem?_eq_some_iff.1 HZ1.out).1).trans HZ1.out) Try.underlying24 rfl hinfoC (Below.refl _ _) <;> rfl))
    simp only [List.setIfInBounds_toArray, List.set_cons_zero, List.set_cons_succ]
    first
      | (refine ext_skip pre_below (i := 35) (d := 53) rfl rfl (by kernel_rfl) (by kernel_rfl) (by kernel_rfl) (fun _ _ _ h => h) (by rfl) ?_)
      | (refine ext_take pre_below (i := 35) (d := 53) (v := ?_) rfl rfl (by kernel_rfl) (by kernel_rfl) (by kernel_rfl) (fun _ _ _ h => h) (by rfl) (fun W hS => ?_) ?_
         rotate_left
         · skip
           (refine load_gives 24 (.tmp 3) ?_ w.heap.size ?_ _ #[.int .i64 ka, .slice ao1 da.length cap1] (0, 0) _ ((hS.block _ (Array.getElem?_eq_some_iff.1 HZ1.out).1).trans HZ1.out) Try.underlying24 rfl hinfoC (Below.refl _ _) <;> rfl))
    simp only [List.setIfInBounds_toArray, List.set_cons_zero, List.set_cons_succ]
    first
      | (refine ext_skip pre_below (i := 36) (d := 54) rfl rfl (by kernel_rfl) (by kernel_rfl) (by kernel_rfl) (fun _ _ _ h => h) (by rfl) ?_)
      | (refine ext_take pre_below (i := 36) (d := 54) (v := ?_) rfl rfl (by kernel_rfl) (by kernel_rfl) (by kernel_rfl) (fun _ _ _ h => h) (by rfl) (fun W hS => ?_) ?_
         rotate_left
         · skip
           go_simp; refine Gives.enter ((may_any ka ka _ _ da da W (HA2.out.new hS) (HA2.out.new hS) H8A.out H8A.out).mono ?_); rintro e wn ⟨rfl, hbn⟩; rw [HAA.out]; refine ⟨?_, hbn⟩; with_reducible rfl)
    simp only [List.setIfInBounds_toArray, List.set_cons_zero, List.set_cons_succ]
    first
      | (refine ext_skip pre_below (i := 37) (d := 55) rfl rfl (by kernel_rfl) (by kernel_rfl) (by kernel_rfl) (fun _ _ _ h => h) (by rfl) ?_)
      | (refine ext_take pre_below (i := 37) (d := 55) (v := ?_) rfl rfl (by kernel_rfl) (by kernel_rfl) (by kernel_rfl) (fun _ _ _ h => h) (by rfl) (fun W hS => ?_) ?_
         rotate_left
         · skip
           refine gives_value (w := W) (by exact Below.refl _ _) ?_; go_simp; try with_reducible rfl)
    simp only [List.setIfInBounds_toArray, List.set_cons_zero, List.set_cons_succ]
    refine ext_take pre_below (i := 38) (d := 56) (v := ?_) rfl rfl (by kernel_rfl) (by kernel_rfl) (by kernel_rfl) (fun _ _ _ h => h) (by rfl) (fun W hS => ?_) ?_
    rotate_left
    · skip
      refine gives_value (w := W) (by exact Below.refl _ _) ?_; go_simp; try with_reducible rfl
    simp only [List.setIfInBounds_toArray, List.set_cons_zero, List.set_cons_succ]
    refine ext_done (by kernel_rfl) (fun w3 hS3 => ?_) _
    have HB3 : Hid (Below w.heap.size w w3) := Lib.hid (HB2.out.trans (hS3.mono HB2.out.size))
    have HV1 := Lib.hid ((hS3.block _ (Array.getElem?_eq_some_iff.1 HZ1.out).1).trans HZ1.out)
    have HV2 := Lib.hid ((hS3.block _ (Array.getElem?_eq_some_iff.1 HZ2.out).1).trans HZ2.out)
    have HA3 := Lib.hid (HA2.out.new hS3)
    have HB3r := Lib.hid (HB2r.out.new hS3)
    clear hS3 HZ1 HZ2 HZ3 HA2 HB2r HC2 HB2 HAB HBC HAC HBA HSM HAA HCK hinfoC HMX
    obtain ⟨a0, a1, _, _⟩ := blk2 HV1.out
    obtain ⟨b0, b1, _, _⟩ := blk2 HV2.out
    go_wp2_with fail
    refine (later_any ka kb _ _ da db w3 HA3.out HB3r.out H8A.out H8B.out (by have := HLA.out; omega) (by have := HLB.out; omega)).mono ?_
    rintro e w4 ⟨k, d, ok, v4, hl, rfl, ho, hb4⟩
    obtain ⟨ao4, cap4, rfl, _, _, _⟩ := ho.reads.val
    obtain ⟨W4, hW4⟩ : ∃ W4, W4 = w4.alloc (.cells #[.int .i64 k, .slice ao4 d.length cap4] 24) := ⟨_, rfl⟩
    have hb34 : Below w3.heap.size w3 W4 := by rw [hW4]; exact hb4.alloc hb4.size _
    have hx4 : W4.heap[w4.heap.size]? = some (.cells #[.int .i64 k, .slice ao4 d.length cap4] 24 (0, 0)) := by rw [hW4]; exact heap_alloc_new _ _
    have HD4 := Lib.hid (ho.reads.new (show Below w4.heap.size w4 W4 by rw [hW4]; exact (Below.refl _ _).alloc (Nat.le_refl _) _))
    have HU1 := Lib.hid ((hb34.block _ (Array.getElem?_eq_some_iff.1 HV1.out).1).trans HV1.out)
    have HU2 := Lib.hid ((hb34.block _ (Array.getElem?_eq_some_iff.1 HV2.out).1).trans HV2.out)
    have HA4 := Lib.hid (HA3.out.new hb34)
    have HB4r := Lib.hid (HB3r.out.new hb34)
    have HB4 := Lib.hid (HB3.out.trans (hb34.mono HB3.out.size))
    have HX4 := Lib.hid hx4
    have HW4 := Lib.hid hW4
    have HL := Lib.hid hl
    clear hb4 ho hb34 hx4 hW4 HV1 HV2 HA3 HB3r HB3 a0 a1 b0 b1 hl
    obtain ⟨a0, a1, _, _⟩ := blk2 HU1.out
    obtain ⟨b0, b1, _, _⟩ := blk2 HU2.out
    rw [HW4.out] at a0 a1 b0 b1
    go_wp2_with fail
    rw [← HW4.out]
    refine (later_any kb ka _ _ db da W4 HB4r.out HA4.out H8B.out H8A.out (by have := HLB.out; omega) (by have := HLA.out; omega)).mono ?_
    rintro e w5 ⟨k5, d5, ok5, v5, hl5, rfl, ho, hb5⟩
    obtain ⟨ao5, cap5, rfl, _, _, _⟩ := ho.reads.val
    obtain ⟨W5, hW5⟩ : ∃ W5, W5 = w5.alloc (.cells #[.int .i64 k5, .slice ao5 d5.length cap5] 24) := ⟨_, rfl⟩
    have hb45 : Below W4.heap.size W4 W5 := by rw [hW5]; exact hb5.alloc hb5.size _
    have hx5 : W5.heap[w5.heap.size]? = some (.cells #[.int .i64 k5, .slice ao5 d5.length cap5] 24 (0, 0)) := by rw [hW5]; exact heap_alloc_new _ _
    have HD5 := Lib.hid (ho.reads.new (show Below w5.heap.size w5 W5 by rw [hW5]; exact (Below.refl _ _).alloc (Nat.le_refl _) _))
    have HT1 := Lib.hid ((hb45.block _ (Array.getElem?_eq_some_iff.1 HU1.out).1).trans HU1.out)
    have HT2 := Lib.hid ((hb45.block _ (Array.getElem?_eq_some_iff.1 HU2.out).1).trans HU2.out)
    have HY4 := Lib.hid ((hb45.block _ (Array.getElem?_eq_some_iff.1 HX4.out).1).trans HX4.out)
    have HA5 := Lib.hid (HA4.out.new hb45)
    have HB5r := Lib.hid (HB4r.out.new hb45)
    have HL5 := Lib.hid (HD4.out.new hb45)
    have HB5 := Lib.hid (HB4.out.trans (hb45.mono HB4.out.size))
    have HX5 := Lib.hid hx5
    have HW5 := Lib.hid hW5
    have hev := later_even ka kb da db
    rw [← HL.out, ← hl5] at hev
    obtain ⟨h1, h2⟩ := hev
    simp only at h1 h2
    subst h1
    have HSS := Lib.hid h2
    have h8k := later_byte (k1 := ka) (k2 := kb) H8A.out H8B.out
    rw [← HL.out] at h8k
    have H8K := Lib.hid h8k
    have h8k5 := later_byte (k1 := kb) (k2 := ka) H8B.out H8A.out
    rw [← hl5] at h8k5
    have H8K5 := Lib.hid h8k5
    have hbt : ok = true → mayC ka da k d = true ∧ mayC kb db k d = true ∧ (sameC k d ka da = true ∨ sameC k d kb db = true) := by
      intro hok
      have := later_both (k1 := ka) (d1 := da) (k2 := kb) (d2 := db)
      rw [← HL.out] at this
      exact this hok
    have HBT := Lib.hid hbt
    clear hb5 ho hb45 hx5 hW5 HU1 HU2 HA4 HB4r HB4 HX4 HD4 a0 a1 b0 b1 hl5 h2 h8k h8k5 hbt HL HW4
    obtain ⟨e0, e1, _, _⟩ := blk2 HY4.out
    obtain ⟨f0, f1, _, _⟩ := blk2 HX5.out
    rw [HW5.out] at e0 e1 f0 f1
    have hbne : (ok != ok) = false := by cases ok <;> rfl
    go_wp2_with fail
    rw [← HW5.out]
    refine (same_any k k5 _ _ d d5 W5 HL5.out HD5.out H8K.out H8K5.out).mono ?_
    rintro e w6 ⟨rfl, hb6⟩
    rw [HSS.out]
    have HB6 := Lib.hid (HB5.out.trans (hb6.mono HB5.out.size))
    have HS1 := Lib.hid ((hb6.block _ (Array.getElem?_eq_some_iff.1 HT1.out).1).trans HT1.out)
    have HS2 := Lib.hid ((hb6.block _ (Array.getElem?_eq_some_iff.1 HT2.out).1).trans HT2.out)
    have HS4 := Lib.hid ((hb6.block _ (Array.getElem?_eq_some_iff.1 HY4.out).1).trans HY4.out)
    have HA6 := Lib.hid (HA5.out.new hb6)
    have HB6r := Lib.hid (HB5r.out.new hb6)
    have HL6 := Lib.hid (HL5.out.new hb6)
    clear hb6 HT1 HT2 HY4 HA5 HB5r HL5 HD5 HX5 HB5 e0 e1 f0 f1 HW5 HSS H8K5
    obtain ⟨a0, a1, _, _⟩ := blk2 HS1.out
    obtain ⟨b0, b1, _, _⟩ := blk2 HS2.out
    obtain ⟨e0, e1, _, _⟩ := blk2 HS4.out
    cases ok
    · go_wp2
      go_ret
      exact ⟨rfl, HB6.out⟩
    · obtain ⟨m1, m2, m3⟩ := HBT.out rfl
      have HM1 := Lib.hid m1
      have HM2 := Lib.hid m2
      have HM3 := Lib.hid m3
      clear m1 m2 m3 HBT hbne
      go_wp2_with fail
      refine (may_any ka k _ _ da d w6 HA6.out HL6.out H8A.out H8K.out).mono ?_
      rintro e w7 ⟨rfl, hb7⟩
      rw [HM1.out]
      have HB7 := Lib.hid (HB6.out.trans (hb7.mono HB6.out.size))
      have HR1 := Lib.hid ((hb7.block _ (Array.getElem?_eq_some_iff.1 HS1.out).1).trans HS1.out)
      have HR2 := Lib.hid ((hb7.block _ (Array.getElem?_eq_some_iff.1 HS2.out).1).trans HS2.out)
      have HR4 := Lib.hid ((hb7.block _ (Array.getElem?_eq_some_iff.1 HS4.out).1).trans HS4.out)
      have HA7 := Lib.hid (HA6.out.new hb7)
      have HB7r := Lib.hid (HB6r.out.new hb7)
      have HL7 := Lib.hid (HL6.out.new hb7)
      clear hb7 HS1 HS2 HS4 HA6 HB6r HL6 HB6 a0 a1 b0 b1 e0 e1
      obtain ⟨a0, a1, _, _⟩ := blk2 HR1.out
      obtain ⟨b0, b1, _, _⟩ := blk2 HR2.out
      obtain ⟨e0, e1, _, _⟩ := blk2 HR4.out
      go_wp2_with fail
      refine (may_any kb k _ _ db d w7 HB7r.out HL7.out H8B.out H8K.out).mono ?_
      rintro e w8 ⟨rfl, hb8⟩
      rw [HM2.out]
      have HB8 := Lib.hid (HB7.out.trans (hb8.mono HB7.out.size))
      have HQ1 := Lib.hid ((hb8.block _ (Array.getElem?_eq_some_iff.1 HR1.out).1).trans HR1.out)
      have HQ2 := Lib.hid ((hb8.block _ (Array.getElem?_eq_some_iff.1 HR2.out).1).trans HR2.out)
      have HQ4 := Lib.hid ((hb8.block _ (Array.getElem?_eq_some_iff.1 HR4.out).1).trans HR4.out)
      have HA8 := Lib.hid (HA7.out.new hb8)
      have HB8r := Lib.hid (HB7r.out.new hb8)
      have HL8 := Lib.hid (HL7.out.new hb8)
      clear hb8 HR1 HR2 HR4 HA7 HB7r HL7 HB7 a0 a1 b0 b1 e0 e1
      obtain ⟨a0, a1, _, _⟩ := blk2 HQ1.out
      obtain ⟨b0, b1, _, _⟩ := blk2 HQ2.out
      obtain ⟨e0, e1, _, _⟩ := blk2 HQ4.out
      go_wp2_with fail
      refine (same_any k ka _ _ d da w8 HL8.out HA8.out H8K.out H8A.out).mono ?_
      rintro e w9 ⟨rfl, hb9⟩
      cases hsa : sameC k d ka da
      · have hsb : sameC k d kb db = true := by
          rcases HM3.out with h | h
          · rw [hsa] at h; cases h
          · exact h
        have HSB := Lib.hid hsb
        clear hsb hsa
        have HB9 := Lib.hid (HB8.out.trans (hb9.mono HB8.out.size))
        have HP2 := Lib.hid ((hb9.block _ (Array.getElem?_eq_some_iff.1 HQ2.out).1).trans HQ2.out)
        have HP4 := Lib.hid ((hb9.block _ (Array.getElem?_eq_some_iff.1 HQ4.out).1).trans HQ4.out)
        have HB9r := Lib.hid (HB8r.out.new hb9)
        have HL9 := Lib.hid (HL8.out.new hb9)
        clear hb9 HQ1 HQ2 HQ4 HA8 HB8r HL8 HB8 a0 a1 b0 b1 e0 e1
        obtain ⟨b0, b1, _, _⟩ := blk2 HP2.out
        obtain ⟨e0, e1, _, _⟩ := blk2 HP4.out
        go_wp2_with fail
        refine (same_any k kb _ _ d db w9 HL9.out HB9r.out H8K.out H8B.out).mono ?_
        rintro e w10 ⟨rfl, hb10⟩
        rw [HSB.out]
        go_wp2
        go_ret
        exact ⟨rfl, HB9.out.trans (hb10.mono HB9.out.size)⟩
      · go_wp2
        go_ret
        exact ⟨rfl, HB8.out.trans (hb9.mono HB8.out.size)⟩

end Go.Proofs.Ytdaeplhoonmipaa
