/- ManifestParts' walk. -/
import Derived.Test.YtpebmmhokigglaaGreatDoorQu
import Derived.Test.YtpebmmhokigglaaGreatDoorQt
import Derived.Test.YtpebmmhokigglaaGreatDoorMfP
import Derived.Test.YtpebmmhokigglaaGreatDoorQn
import Derived.Deep.Cut
import Derived.Deep.CutBlock
namespace Go.Proofs.YtpebmmhokigglaaGreatDoor
open Go.RowKit

theorem longB_len {cs : List IC} {m : Int} (h : longB cs m = false) : (cs.length : Int) ≤ m := by
  unfold longB at h
  rw [Bool.or_eq_false_iff] at h
  simpa using h.2
theorem Tryz.sizeSGM : (Tryz.prog.info? 24).map (·.size) = some 2 := by kernel_rfl
theorem Tryz.sizeRSM : (Tryz.prog.info? 34).map (·.size) = some 2 := by kernel_rfl
theorem wpList_eqsM {P : Program} {ops : Array Oper} {rest : List Oper} {o : Oper} {a : Act} {w : World} {Q : Exit → Act → World → Prop} (hw : Region.wanted o (yielded ops a.tmps) = true) {op : BinOp} {t t' : TypeId} {x y : Operand} {xs ys : Array Value} {v : Value} (ho : o.op = .binOp op t x y t') (hx : a.eval x = .agg xs) (hy : a.eval y = .agg ys)
    (hm : P.eqGuardType P.depth t = false) (h : (binOp op t (.agg xs) (.agg ys)).run P w = .ok v w) (K : wpList P ops Q rest (a.put o.dst v) w) : wpList P ops Q (o :: rest) a w :=
  wpList_step fun _ hK => by
    rw [if_pos hw]
    unfold Oper.wp
    rw [exec_eqsM ho hx hy hm h]
    exact hK _ _ K
theorem neq_part (p : PT) (hp : Dg p.2.2.2) (W : World) : (binOp .neq 28 (.agg (ptRow p).toArray) (.agg (ptRow p).toArray)).run Tryz.prog W = .ok (.bool false) W := by
  have this : (Op.equal 28 (.agg (ptRow p).toArray) (.agg (ptRow p).toArray)).run Tryz.prog W = .ok (decide (p = p)) W := eq_parts hp hp W
  simp [binOp, this]
theorem neq_partD (p : PT) (hp : Dg p.2.2.2) (W : World) : (binOp .neq 44 (.agg (ptRow p).toArray) (.agg (ptRow p).toArray)).run Tryz.prog W = .ok (.bool false) W := by
  have this : (Op.equal 44 (.agg (ptRow p).toArray) (.agg (ptRow p).toArray)).run Tryz.prog W = .ok (decide (p = p)) W := eq_partsD hp hp W
  simp [binOp, this]

set_option maxHeartbeats 16000000 in
set_option maxRecDepth 100000 in
theorem manifestParts_walk (f : Int) (p : PT) (v1 v3 : Value) (cs : List IC) (b : List Nat) (w : World) (B1 : Nat → Prop) (h1 : CellsAt w B1 v1 cs) (h8 : ∀ c ∈ cs, ∀ y ∈ c.2, y < 256) (hla : cs.length ≤ 9223372036854775807) (hf : -9223372036854775808 ≤ f ∧ f ≤ 9223372036854775807) (hd : Dg p.2.2.2) (h3 : Reads w .u8 v3 b) (hb8 : ∀ y ∈ b, y < 256) (hld : Laid w) :
    Calls Tryz.prog 3 #[.agg #[.int .i64 f, v1], .agg (ptRow p).toArray, v3] w fun e w' => e = .returned (.bool true) ∧ Below w.heap.size w w' := by
  obtain ⟨ao1, cap1, rfl, _, _, _⟩ := h1.val
  obtain ⟨ao3, cap3, hv3, _, _, _⟩ := h3.val
  obtain ⟨n, hn⟩ : ∃ n, n = cs.length := ⟨_, rfl⟩
  obtain ⟨nb, hnb⟩ : ∃ n, n = b.length := ⟨_, rfl⟩
  rw [← hn] at h1 ⊢
  rw [← hnb] at hv3
  subst hv3
  obtain ⟨W1, hW1⟩ : ∃ W1, W1 = (w.alloc (.cells #[.int .i64 f, .slice ao1 n cap1] 24)).alloc (.cells (ptRow p).toArray 28) := ⟨_, rfl⟩
  have hb1 : Below w.heap.size w W1 := by rw [hW1]; exact ((Below.refl _ _).alloc (Nat.le_refl _) _).alloc (by simp) _
  have hx1 : SgB W1 w.heap.size (.int .i64 f) (.slice ao1 n cap1) := by rw [hW1]; exact (sgb_new _ _ _).old ((Below.refl _ _).alloc (Nat.le_refl _) _)
  have hy1 : PB W1 (w.heap.size + 1) p 28 := by
    have := pb_new (w.alloc (.cells #[.int .i64 f, .slice ao1 n cap1] 24)) p 28
    rw [hW1]; simpa using this
  have HPS : Hid ((Tryz.prog.info? 28).map (·.size) = some (ptRow p).toArray.size) := Lib.hid (by rw [ptRow_size hd]; exact Tryz.sizePT)
  have HXS : Hid (∀ W, Below W1.heap.size W1 W → W.cell? ⟨w.heap.size, 0, none⟩ = some (.int .i64 f) ∧ W.cell? ⟨w.heap.size, 1, none⟩ = some (.slice ao1 n cap1)) := Lib.hid fun W hb => by
    obtain ⟨p0, p1, _, _⟩ := (hx1.old hb).x
    exact ⟨p0, p1⟩
  have HR1 : Hid (∀ W, Below W1.heap.size W1 W → CellsAt W B1 (.slice ao1 n cap1) cs) := Lib.hid fun W hb => (h1.old hb1).old hb
  have HR3 : Hid (∀ W, Below W1.heap.size W1 W → Reads W .u8 (.slice ao3 nb cap3) b) := Lib.hid fun W hb => (h3.new hb1).new hb
  have HLD : Hid (∀ W, Below W1.heap.size W1 W → Laid W) := Lib.hid fun W hb => (hld.next hb1).next hb
  have HB1 := Lib.hid hb1
  have HD := Lib.hid hd
  have H8 := Lib.hid h8
  have HLA := Lib.hid hla
  have HF := Lib.hid hf
  have HB8 := Lib.hid hb8
  have HN := Lib.hid hn
  have HNB := Lib.hid hnb
  have HAL := Lib.hid (alive15_any W1)
  obtain ⟨A, hA⟩ : ∃ A, A = (ptRow p).toArray := ⟨_, rfl⟩
  rw [← hA] at hW1 HPS ⊢
  have HPB : Hid (∀ W, Below W1.heap.size W1 W → W.heap[w.heap.size + 1]? = some (.cells A 28 (0, 0))) := Lib.hid fun W hb => by rw [hA]; exact hy1.old hb
  have HA := Lib.hid hA
  have HW1 := Lib.hid hW1
  clear h1 h8 hla hf hd h3 hb8 hld hb1 hx1 hy1 hA hW1 hn hnb
  go_enter Tryz.func3, Tryz.ntmps3
  go_wp2_with fail
  rw [← HW1.out]
  refine HAL.out.mono ?_
  rintro e w2 ⟨rfl, hb2⟩
  have HB2 := Lib.hid hb2
  have HLG := Lib.hid (long_any _ cs 80 w2 B1 (HR1.out w2 hb2) HLA.out)
  obtain ⟨a0, a1⟩ := HXS.out w2 hb2
  clear hb2
  by_cases hlg : longB cs 80 = true
  · rw [hlg] at HLG
    clear hlg
    go_wp2_with fail
    refine HLG.out.mono ?_
    rintro e w3 ⟨rfl, hb3⟩
    have HB3 := Lib.hid (HB2.out.trans (hb3.mono HB2.out.size))
    clear hb3
    go_wp2
    go_ret
    exact ⟨rfl, HB1.out.trans (HB3.out.mono HB1.out.size)⟩
  have hlg : longB cs 80 = false := by simpa using hlg
  have HLL := Lib.hid (longB_len hlg)
  rw [hlg] at HLG
  clear hlg
  go_wp2_with fail
  refine HLG.out.mono ?_
  rintro e w3 ⟨rfl, hb3⟩
  have HB3 := Lib.hid (HB2.out.trans (hb3.mono HB2.out.size))
  clear hb3 a0 a1
  obtain ⟨a0, a1⟩ := HXS.out w3 HB3.out
  by_cases g2 : (nb : Int) > 4000
  · go_wp2
    go_ret
    exact ⟨rfl, HB1.out.trans (HB3.out.mono HB1.out.size)⟩
  have HNL : Hid (nb ≤ 4000) := Lib.hid (by omega)
  -- the document's segment
  have HDO : Hid (Calls Tryz.prog 7 #[.agg #[.int .i64 f, .slice ao1 n cap1]] w3 fun e w' => ∃ (o : Option Addr) (c : Nat), e = .returned (.agg #[.int .i64 f, .slice o n c]) ∧ OwnsD w' w3.heap.size (.slice o n c) cs ∧ Below w3.heap.size w3 w') := Lib.hid (by
    refine (document14_any f _ cs w3 B1 (HR1.out w3 HB3.out) (by have := HLL.out; omega)).mono ?_
    rintro e w' ⟨v', rfl, ho, hb'⟩
    obtain ⟨o, c, rfl⟩ := ho.form
    rw [← HN.out] at ho ⊢
    exact ⟨o, c, rfl, ho, hb'⟩)
  go_wp2_with fail
  refine HDO.out.mono ?_
  rintro e w4 ⟨od, cd, rfl, hod, hb4⟩
  obtain ⟨W5, hW5⟩ : ∃ W, W = w4.alloc (.cells #[.int .i64 f, .slice od n cd] 34) := ⟨_, rfl⟩
  have hb5 : Below w4.heap.size w4 W5 := by rw [hW5]; exact (Below.refl _ _).alloc (Nat.le_refl _) _
  have hx5 : SdB W5 w4.heap.size (.int .i64 f) (.slice od n cd) := by rw [hW5]; exact sdb_new _ _ _
  have HB5 : Hid (Below W1.heap.size W1 W5) := Lib.hid (HB3.out.trans ((hb4.trans (hb5.mono hb4.size)).mono HB3.out.size))
  obtain ⟨q7, hq7⟩ : ∃ q, q = w4.heap.size := ⟨_, rfl⟩
  rw [← hq7] at hx5
  have HX5 : Hid (∀ W, Below W5.heap.size W5 W → W.cell? ⟨q7, 0, none⟩ = some (.int .i64 f) ∧ W.cell? ⟨q7, 1, none⟩ = some (.slice od n cd)) := Lib.hid fun W hb => by
    obtain ⟨p0, p1, _, _⟩ := (hx5.old hb).x
    exact ⟨p0, p1⟩
  have HOD : Hid (∀ W, Below W5.heap.size W5 W → OwnsD W w3.heap.size (.slice od n cd) cs) := Lib.hid fun W hb => (hod.below hb5).below hb
  have HQ7 := Lib.hid hq7
  have HOF : Hid (Calls Tryz.prog 8 #[.agg #[.int .i64 f, .slice ao1 n cap1]] W5 fun e w' => ∃ (pt : PT) (yv er : Value), e = .returned (.tuple #[.agg (ptRow pt).toArray, yv, er]) ∧ er = errV (mofC f cs) ∧ (mofC f cs = 0 → pt = mofP f cs ∧ Owns w' W5.heap.size 5 .u8 yv (fr (sgtext f cs))) ∧ (mofC f cs ≠ 0 → pt = (0, 0, 0, zero32) ∧ yv = .slice none 0 0) ∧ Dg pt.2.2.2 ∧ Below W5.heap.size W5 w') := Lib.hid (by
    refine (mof_any f _ cs W5 B1 (HR1.out W5 HB5.out) H8.out (HLD.out W5 HB5.out)).mono ?_
    rintro e w' ⟨hb, ⟨hz, v', rfl, ho⟩ | ⟨hz, rfl⟩⟩
    · exact ⟨mofP f cs, v', .nilIface, rfl, by rw [hz]; rfl, fun _ => ⟨rfl, ho⟩, fun h => absurd hz h, mofP_dg f cs, hb⟩
    · exact ⟨_, _, _, rfl, rfl, fun hc => absurd hc hz, fun _ => ⟨rfl, rfl⟩, dg_zero, hb⟩)
  have HW5 := Lib.hid hW5
  clear a0 a1 hod hb4 hb5 hx5
  obtain ⟨a0, a1⟩ := HXS.out W5 HB5.out
  rw [hW5] at a0 a1
  clear hW5 hq7
  go_wp2_with fail
  rw [← HW5.out, ← HQ7.out]
  refine HOF.out.mono ?_
  rintro e w6 ⟨pt, yv, er, rfl, her, hop, hoz, hpd, hb6⟩
  have HER := Lib.hid her
  have HOZ := Lib.hid hoz
  have HPD := Lib.hid hpd
  have HPS8 : Hid ((Tryz.prog.info? 28).map (·.size) = some (ptRow pt).toArray.size) := Lib.hid (by rw [ptRow_size hpd]; exact Tryz.sizePT)
  have HPSS : Hid ((ptRow pt).toArray.size = 35) := Lib.hid (ptRow_size hpd)
  have HPO : Hid ((ptRow pt).toArray.all (·.oneCell') = true) := Lib.hid (all_one (ptRow_one _))
  obtain ⟨AP, hAP⟩ : ∃ A, A = (ptRow pt).toArray := ⟨_, rfl⟩
  rw [← hAP] at HPS8 HPSS HPO ⊢
  have HAP := Lib.hid hAP
  have HOP := Lib.hid hop
  have HB6 := Lib.hid hb6
  clear a0 a1 her hop hoz hpd hb6 hAP
  go_wp2_with ((with_reducible show wpList _ _ _ (Oper.mk none _ _ _ _ _ :: _) _ _); go_must (refine wpList_store_new rfl 28 (.tmp 8) (.tmp 31) rfl w6 _ AP rfl rfl _ HPS8.out (by rw [HPSS.out]; rfl) HPO.out ?_))
  intro W7 hq8 hb7 hs7
  have HB57 := Lib.hid (HB6.out.trans (hb7.mono HB6.out.size))
  have HB7 := Lib.hid (HB5.out.trans (HB57.out.mono HB5.out.size))
  have HOP7 : Hid (mofC f cs = 0 → pt = mofP f cs ∧ Owns W7 W5.heap.size 5 .u8 yv (fr (sgtext f cs))) := Lib.hid fun hz => by
    obtain ⟨e, ho⟩ := HOP.out hz
    exact ⟨e, ho.keep hb7⟩
  obtain ⟨q8, hq8e⟩ : ∃ q, q = w6.heap.size := ⟨_, rfl⟩
  rw [← hq8e] at hq8 ⊢
  have HQ8 : Hid (∀ W, Below W7.heap.size W7 W → W.heap[q8]? = some (.cells AP 28 (0, 0))) := Lib.hid fun W hb => (hb.block _ (by rw [hs7]; omega)).trans hq8
  have HCK := Lib.hid (rsgcheck_any f _ cs W7 _ (HOD.out W7 HB57.out).dc HF.out)
  obtain ⟨d0, d1⟩ := HX5.out W7 HB57.out
  clear hq8 hb7 hs7 hq8e HOP
  go_wp2_with fail
  refine HCK.out.mono ?_
  rintro e w8 ⟨rfl, hb8⟩
  have HB78 := Lib.hid hb8
  have HB8W := Lib.hid (HB7.out.trans (hb8.mono HB7.out.size))
  have HB58 := Lib.hid (HB57.out.trans (hb8.mono HB57.out.size))
  clear hb8 d0 d1
  obtain ⟨z, hz⟩ : ∃ z, z = sgC f cs := ⟨_, rfl⟩
  obtain ⟨bad, hbad⟩ : ∃ z, z = mofC f cs := ⟨_, rfl⟩
  rw [← hz]
  have hmb : bad = if z = 0 ∧ n = 0 then 2 else z := by rw [hbad, hz, HN.out]; exact mofC_bad.symm
  obtain ⟨X, hX⟩ : ∃ X, X = decide (z = 0 ∧ n = 0) := ⟨_, rfl⟩
  have HX := Lib.hid hX
  have HMB := Lib.hid hmb
  have HBAD := Lib.hid hbad
  clear hz hbad hmb hX
  obtain ⟨a0, a1⟩ := HXS.out w8 HB8W.out
  go_upto_region 8 with fail
  go_cut [43] from 44 (fun bv wx => bv = .bool X ∧ wx = w8)
  case first =>
    by_cases g1 : z = 0
    · have g1b : ((z : Int) == 0) = true := by simp [g1]
      by_cases g3 : n = 0
      · have g3b : ((n : Int) == 0) = true := by simp [g3]
        have HT : Hid (X = true) := Lib.hid (by rw [HX.out]; simp [g1, g3])
        have G1 := Lib.hid g1
        have G3 := Lib.hid g3
        clear g1 g3
        go_wp2
        go_meet
        case rel => exact ⟨by rw [HT.out], rfl⟩
      · have g3b : ((n : Int) == 0) = false := by simp; omega
        have HT : Hid (X = false) := Lib.hid (by rw [HX.out]; simp [g1, g3])
        have G3 := Lib.hid g3
        clear g1 g3
        go_wp2
        go_meet
        case rel => exact ⟨by rw [HT.out], rfl⟩
    · have g1b : ((z : Int) == 0) = false := by simp; omega
      have HT : Hid (X = false) := Lib.hid (by rw [HX.out]; simp [g1])
      have G1 := Lib.hid g1
      clear g1
      go_wp2
      go_meet
      case rel => exact ⟨by rw [HT.out], rfl⟩
  case rest =>
  obtain ⟨rfl, hwc⟩ := hcut
  have hwc := hwc.symm
  subst hwc
  clear a0 a1
  go_upto_if 43 with fail
  go_cut [11] from 44 (fun bv wx => bv = .int .i64 (bad : Int) ∧ wx = w8)
  case first =>
    cases X
    · go_wp2
      go_meet
      case rel =>
        have hx := HX.out
        exact ⟨by rw [HMB.out, if_neg (of_decide_eq_false hx.symm)], rfl⟩
    · go_wp2
      go_meet
      case rel =>
        have hx := HX.out
        exact ⟨by rw [HMB.out, if_pos (of_decide_eq_true hx.symm)]; rfl, rfl⟩
  case rest =>
  obtain ⟨rfl, hwc⟩ := hcut
  have hwc := hwc.symm
  subst hwc
  clear HX
  have HNUM := Lib.hid (num_any bad w8)
  rw [HBAD.out, ← HER.out, ← HBAD.out] at HNUM
  have hbb : ((bad : Int) != (bad : Int)) = false := by simp
  go_wp2_with fail
  refine HNUM.out.mono ?_
  rintro e w9 ⟨rfl, hw9⟩
  subst hw9
  go_upto_region 12 with fail
  clear hbb
  go_cut [59] from 44 (fun bv wx => bv = .bool false ∧ wx = w8)
  case first =>
    by_cases g1 : bad = 0
    · have g1b : ((bad : Int) == 0) = true := by simp [g1]
      have g1c : ((bad : Int) != 0) = false := by simp [g1]
      have G1 := Lib.hid g1
      clear g1
      go_wp2
      go_meet
      case rel => exact ⟨by first | rfl | simp [G1.out], rfl⟩
    · have g1b : ((bad : Int) == 0) = false := by simp; omega
      have g1c : ((bad : Int) != 0) = true := by simp; omega
      obtain ⟨hpz, hyz⟩ := HOZ.out (by rw [← HBAD.out]; exact g1)
      subst hyz
      have G1 := Lib.hid g1
      have HPZ := Lib.hid hpz
      have HNEQ : Hid ((binOp .neq 28 (.agg AP) (.agg (ptRow (0, 0, 0, zero32)).toArray)).run Tryz.prog w8 = .ok (.bool false) w8) := Lib.hid (by rw [HAP.out, hpz]; exact neq_part _ dg_zero _)
      clear g1 hpz
      go_wp2_with (first
        | ((with_reducible show wpList _ _ _ (Oper.mk (some 51) _ _ _ _ _ :: _) _ _); go_must (refine wpList_load_rowH (by simp [Region.wanted, yielded]) 28 (.tmp 8) rfl (q8) rfl _ AP _ _ (HQ8.out w8 HB78.out) Tryz.underlying28 rfl HPS8.out ?_))
        | ((with_reducible show wpList _ _ _ (Oper.mk (some 53) _ _ _ _ _ :: _) _ _); go_must (refine wpList_eqsM (by simp [Region.wanted, yielded]) rfl rfl rfl (by kernel_rfl) HNEQ.out ?_)))
      go_meet
      case rel => exact ⟨by first | rfl | simp [G1.out], rfl⟩
  case rest =>
  obtain ⟨rfl, hwc⟩ := hcut
  have hwc := hwc.symm
  subst hwc
  go_upto_region 14 with fail
  obtain ⟨Y, hY⟩ : ∃ Y, Y = decide (bad = 0) := ⟨_, rfl⟩
  have HY := Lib.hid hY
  clear hY
  go_cut [61] from 44 (fun bv wx => bv = .bool Y ∧ wx = w8)
  case first =>
    by_cases g1 : bad = 0
    · have g1b : ((bad : Int) == 0) = true := by simp [g1]
      have G1 := Lib.hid g1
      clear g1
      go_wp2
      go_meet
      case rel => exact ⟨by rw [HY.out]; simp [G1.out], rfl⟩
    · have g1b : ((bad : Int) == 0) = false := by simp; omega
      have G1 := Lib.hid g1
      clear g1
      go_wp2
      go_meet
      case rel => exact ⟨by rw [HY.out]; simp [G1.out], rfl⟩
  case rest =>
  obtain ⟨rfl, hwc⟩ := hcut
  have hwc := hwc.symm
  subst hwc
  go_upto_if 61 with fail
  go_cut [] from 44 (fun wx => Below W1.heap.size W1 wx)
  case first =>
    cases Y
    · go_wp2
      go_meet
      case rel => exact HB8W.out
    have hz : mofC f cs = 0 := by rw [← HBAD.out]; simpa using HY.out
    obtain ⟨hpt, ho⟩ := HOP7.out hz
    obtain ⟨s8, sl⟩ := seg_bytesM (mofC_zero hz).1 H8.out
    obtain ⟨ay, cy, rfl⟩ := ho.form2Q
    obtain ⟨y, hy⟩ : ∃ y, y = fr (sgtext f cs) := ⟨_, rfl⟩
    rw [← hy] at ho s8 ⊢
    obtain ⟨ny, hny⟩ : ∃ k, k = y.length := ⟨_, rfl⟩
    rw [← hny] at ho ⊢
    have HO : Hid (∀ W, Below w8.heap.size w8 W → Reads W .u8 (.slice ay ny cy) y) := Lib.hid fun W hb => (ho.reads.new HB78.out).new hb
    have HS8 := Lib.hid s8
    have HROF : Hid (Calls Tryz.prog 11 #[.agg #[.int .i64 f, .slice od n cd]] w8 fun e w' => ∃ ob cb, e = .returned (.tuple #[.agg AP, .slice ob ny cb]) ∧ Owns w' w8.heap.size 5 .u8 (.slice ob ny cb) y ∧ Below w8.heap.size w8 w') := Lib.hid (by
      refine (rof_any f _ cs w8 _ (HOD.out w8 HB58.out) (mofC_zero hz).1 H8.out).mono ?_
      rintro e w' ⟨v', rfl, ho', hb'⟩
      rw [← hy] at ho'
      obtain ⟨ob, cb, rfl⟩ := ho'.form2Q
      rw [← hny] at ho' ⊢
      exact ⟨ob, cb, by rw [HAP.out, hpt], ho', hb'⟩)
    have HPSD : Hid ((Tryz.prog.info? 44).map (·.size) = some AP.size) := Lib.hid (by rw [HPSS.out]; exact Tryz.sizePTD)
    have HPOF : Hid (∀ W, Calls Tryz.prog 12 #[.agg AP] W fun e w' => e = .returned (.agg AP) ∧ Below W.heap.size W w') := Lib.hid fun W => by
      rw [HAP.out]
      exact partOf_any pt W HPD.out
    have HNEQ : Hid (∀ W, (binOp .neq 44 (.agg AP) (.agg AP)).run Tryz.prog W = .ok (.bool false) W) := Lib.hid fun W => by rw [HAP.out]; exact neq_partD pt HPD.out W
    obtain ⟨d0, d1⟩ := HX5.out w8 HB58.out
    have HNY := Lib.hid hny
    have HYE := Lib.hid hy
    clear hz hpt ho s8 sl hy hny
    go_wp2_with fail
    refine HROF.out.mono ?_
    rintro e w10 ⟨ob, cb, rfl, hob, hb10⟩
    have HOB := Lib.hid hob
    have HB10 := Lib.hid hb10
    clear hob hb10 d0 d1
    go_wp2_with ((with_reducible show wpList _ _ _ (Oper.mk none _ _ _ _ _ :: _) _ _); go_must (refine wpList_store_new rfl 44 (.tmp 12) (.tmp 65) rfl w10 _ AP rfl rfl _ HPSD.out (by rw [HPSS.out]; rfl) HPO.out ?_))
    intro W11 hq11 hb11 hs11
    have HB811 := Lib.hid (HB10.out.trans (hb11.mono HB10.out.size))
    have HB711 := Lib.hid (HB78.out.trans (HB811.out.mono HB78.out.size))
    obtain ⟨q12, hq12⟩ : ∃ q, q = w10.heap.size := ⟨_, rfl⟩
    rw [← hq12] at hq11 ⊢
    have HQ12 : Hid (∀ W, Below W11.heap.size W11 W → W.heap[q12]? = some (.cells AP 44 (0, 0))) := Lib.hid fun W hb => (hb.block _ (by rw [hs11]; omega)).trans hq11
    have HQ8B : Hid (∀ W, Below W11.heap.size W11 W → W.heap[q8]? = some (.cells AP 28 (0, 0))) := Lib.hid fun W hb => HQ8.out W (HB711.out.trans (hb.mono HB711.out.size))
    have HBY : Hid (∀ W, Below W11.heap.size W11 W → Calls Tryz.prog 13 #[.slice ay ny cy, .slice ob ny cb] W fun e w' => e = .returned (.bool true) ∧ W = w') := Lib.hid fun W hb => by
      have := numBytes_any _ _ y y W (HO.out W (HB811.out.trans (hb.mono HB811.out.size))) ((HOB.out.reads.new hb11).new hb) HS8.out HS8.out
      rw [decide_eq_true rfl] at this
      exact this
    clear hq11 hb11 hs11 hq12
    go_upto_region 16 with fail
    refine wp_region_extS (fun W => Below W11.heap.size W11 W) (Below.refl _ _).drew (by kernel_rfl) ?_
    refine extS_take (i := 0) (d := 67) (v := .agg AP) rfl rfl (by kernel_rfl) (by kernel_rfl) (by kernel_rfl) (fun _ _ _ h => h) (by rfl) (fun W hS => load_gives 28 (.tmp 8) rfl (q8) rfl _ AP (0, 0) _ (HQ8B.out W hS) Tryz.underlying28 rfl HPS8.out ⟨Below.refl _ _, hS⟩) ?_
    simp only [List.setIfInBounds_toArray, List.set_cons_zero, List.set_cons_succ]
    refine extS_take (i := 1) (d := 68) (v := ?_) rfl rfl (by kernel_rfl) (by kernel_rfl) (by kernel_rfl) (fun _ _ _ h => h) (by rfl) (fun W hS => ?_) ?_
    rotate_left
    · skip
      go_simp; refine Gives.enter ((HPOF.out W).mono ?_); rintro e wn ⟨rfl, hbn⟩; refine ⟨?_, hbn, Below.trans hS (hbn.mono hS.size)⟩; with_reducible rfl
    simp only [List.setIfInBounds_toArray, List.set_cons_zero, List.set_cons_succ]
    refine extS_take (i := 2) (d := 69) (v := .agg AP) rfl rfl (by kernel_rfl) (by kernel_rfl) (by kernel_rfl) (fun _ _ _ h => h) (by rfl) (fun W hS => load_gives 44 (.tmp 12) rfl (q12) rfl _ AP (0, 0) _ (HQ12.out W hS) Tryz.underlying44 rfl HPSD.out ⟨Below.refl _ _, hS⟩) ?_
    simp only [List.setIfInBounds_toArray, List.set_cons_zero, List.set_cons_succ]
    refine extS_take (i := 3) (d := 70) (v := ?_) rfl rfl (by kernel_rfl) (by kernel_rfl) (by kernel_rfl) (fun _ _ _ h => h) (by rfl) (fun W hS => ?_) ?_
    rotate_left
    · skip
      refine gives_value (w := W) ⟨Below.refl _ _, hS⟩ ?_; refine (exec_eqsM rfl ?_ ?_ (by kernel_rfl) (HNEQ.out W)).trans ?_ <;> rfl
    simp only [List.setIfInBounds_toArray, List.set_cons_zero, List.set_cons_succ]
    refine extS_take (i := 4) (d := 71) (v := ?_) rfl rfl (by kernel_rfl) (by kernel_rfl) (by kernel_rfl) (fun _ _ _ h => h) (by rfl) (fun W hS => ?_) ?_
    rotate_left
    · skip
      refine gives_value (w := W) ⟨Below.refl _ _, hS⟩ ?_; go_simp; try with_reducible rfl
    simp only [List.setIfInBounds_toArray, List.set_cons_zero, List.set_cons_succ]
    refine extS_take (i := 5) (d := 72) (v := ?_) rfl rfl (by kernel_rfl) (by kernel_rfl) (by kernel_rfl) (fun _ _ _ h => h) (by rfl) (fun W hS => ?_) ?_
    rotate_left
    · skip
      refine gives_value (w := W) ⟨Below.refl _ _, hS⟩ ?_; go_simp; try with_reducible rfl
    simp only [List.setIfInBounds_toArray, List.set_cons_zero, List.set_cons_succ]
    refine extS_take (i := 6) (d := 73) (v := ?_) rfl rfl (by kernel_rfl) (by kernel_rfl) (by kernel_rfl) (fun _ _ _ h => h) (by rfl) (fun W hS => ?_) ?_
    rotate_left
    · skip
      refine gives_value (w := W) ⟨Below.refl _ _, hS⟩ ?_; go_simp; try with_reducible rfl
    simp only [List.setIfInBounds_toArray, List.set_cons_zero, List.set_cons_succ]
    refine extS_take (i := 7) (d := 74) (v := ?_) rfl rfl (by kernel_rfl) (by kernel_rfl) (by kernel_rfl) (fun _ _ _ h => h) (by rfl) (fun W hS => ?_) ?_
    rotate_left
    · skip
      go_simp; refine Gives.enter ((HBY.out W hS).mono ?_); rintro e wn ⟨rfl, rfl⟩; refine ⟨?_, Below.refl _ _, hS⟩; with_reducible rfl
    simp only [List.setIfInBounds_toArray, List.set_cons_zero, List.set_cons_succ]
    refine extS_take (i := 8) (d := 75) (v := ?_) rfl rfl (by kernel_rfl) (by kernel_rfl) (by kernel_rfl) (fun _ _ _ h => h) (by rfl) (fun W hS => ?_) ?_
    rotate_left
    · skip
      refine gives_value (w := W) ⟨Below.refl _ _, hS⟩ ?_; go_simp; try with_reducible rfl
    simp only [List.setIfInBounds_toArray, List.set_cons_zero, List.set_cons_succ]
    refine extS_take (i := 9) (d := 76) (v := ?_) rfl rfl (by kernel_rfl) (by kernel_rfl) (by kernel_rfl) (fun _ _ _ h => h) (by rfl) (fun W hS => ?_) ?_
    rotate_left
    · skip
      refine gives_value (w := W) ⟨Below.refl _ _, hS⟩ ?_; go_simp; try with_reducible rfl
    simp only [List.setIfInBounds_toArray, List.set_cons_zero, List.set_cons_succ]
    refine extS_done (by kernel_rfl) (fun W20 _ hS20 => ?_) _
    have HS20 := Lib.hid hS20
    clear hS20
    go_wp2
    have hny := HNY.out
    subst hny
    have hye := HYE.out
    subst hye
    go_meet
    case rel => exact HB8W.out.trans ((HB811.out.trans (HS20.out.mono HB811.out.size)).mono HB8W.out.size)
  case rest =>
  obtain ⟨w12, hw12⟩ : ∃ x, x = wc := ⟨_, rfl⟩
  subst hw12
  have HB12 := Lib.hid hcut
  clear hcut HNUM HY HOP7 HOZ
  -- Holds
  have HH := Lib.hid (mhold_any p _ b w12 HD.out (HR3.out w12 HB12.out) HB8.out (by rw [← HNB.out]; have := HNL.out; omega) (HLD.out w12 HB12.out))
  rw [← HA.out] at HH
  go_wp2_with ((with_reducible show wpList _ _ _ (Oper.mk (some 78) _ _ _ _ _ :: _) _ _); go_must (refine wpList_load_row rfl 28 (.tmp 4) rfl (w.heap.size + 1) rfl _ A _ _ (HPB.out w12 HB12.out) Tryz.underlying28 rfl HPS.out ?_))
  refine HH.out.mono ?_
  rintro e w13 ⟨hb13, f', cs', c', v', hr, rfl, hc13⟩
  obtain ⟨oh, ch, rfl, _, _, _⟩ := hc13.val
  obtain ⟨hfl, hf8⟩ := rhold_fine HB8.out hr
  obtain ⟨nh, hnh⟩ : ∃ k, k = cs'.length := ⟨_, rfl⟩
  rw [← hnh] at hc13 ⊢
  obtain ⟨er2, her2⟩ : ∃ e, e = errV c' := ⟨_, rfl⟩
  rw [← her2]
  have HNUM2 : Hid (∀ W, Calls Tryz.prog 10 #[er2] W fun e w' => e = .returned (.int .i64 (c' : Int)) ∧ W = w') := Lib.hid fun W => by rw [her2]; exact num_any c' W
  obtain ⟨W14, hW14⟩ : ∃ W, W = w13.alloc (.cells #[.int .i64 f', .slice oh nh ch] 24) := ⟨_, rfl⟩
  have hb14 : Below w13.heap.size w13 W14 := by rw [hW14]; exact (Below.refl _ _).alloc (Nat.le_refl _) _
  have hx14 : SgB W14 w13.heap.size (.int .i64 f') (.slice oh nh ch) := by rw [hW14]; exact sgb_new _ _ _
  have HB14 := Lib.hid (HB12.out.trans ((hb13.trans (hb14.mono hb13.size)).mono HB12.out.size))
  have HC14 := Lib.hid (hc13.old hb14)
  obtain ⟨q14, hq14⟩ : ∃ q, q = w13.heap.size := ⟨_, rfl⟩
  rw [← hq14] at hx14
  have HX14 := Lib.hid hx14
  have HQ14 := Lib.hid hq14
  have HRH := Lib.hid hr
  have HF8 := Lib.hid hf8
  have HFL := Lib.hid hfl
  have HNH := Lib.hid hnh
  have HPOP := Lib.hid (partOf_any p W14 HD.out)
  rw [← HA.out] at HPOP
  have HPB14 : Hid ((w13.alloc (.cells #[.int .i64 f', .slice oh nh ch] 24)).heap[w.heap.size + 1]? = some (.cells A 28 (0, 0))) := Lib.hid (by rw [← hW14]; exact HPB.out W14 HB14.out)
  have HW14 := Lib.hid hW14
  clear hb13 hr hc13 hfl hf8 hnh her2 hW14 hb14 hx14 hq14
  go_wp2_with ((with_reducible show wpList _ _ _ (Oper.mk (some 84) _ _ _ _ _ :: _) _ _); go_must (refine wpList_load_row rfl 28 (.tmp 4) rfl (w.heap.size + 1) rfl _ A _ _ (HPB14.out) Tryz.underlying28 rfl HPS.out ?_))
  rw [← HW14.out, ← HQ14.out]
  refine HPOP.out.mono ?_
  rintro e w15 ⟨rfl, hb15⟩
  have HB15 := Lib.hid (HB14.out.trans (hb15.mono HB14.out.size))
  have HB1415 := Lib.hid hb15
  have HRHD := Lib.hid (rhold_any p _ b w15 HD.out (HR3.out w15 HB15.out) HB8.out (by rw [← HNB.out]; have := HNL.out; omega))
  rw [← HA.out] at HRHD
  clear hb15
  go_wp2_with fail
  refine HRHD.out.mono ?_
  rintro e w16 ⟨hb16, f2, cs2, c2, v2, hr2, rfl, hc16⟩
  obtain ⟨e1, e2, e3⟩ := HRH.out.unique hr2
  subst e1 e2 e3
  obtain ⟨o15, c15, rfl, _, _, _⟩ := hc16.val
  rw [← HNH.out] at hc16 ⊢
  obtain ⟨W17, hW17⟩ : ∃ W, W = w16.alloc (.cells #[.int .i64 f', .slice o15 nh c15] 34) := ⟨_, rfl⟩
  have hb17 : Below w16.heap.size w16 W17 := by rw [hW17]; exact (Below.refl _ _).alloc (Nat.le_refl _) _
  have hx17 : SdB W17 w16.heap.size (.int .i64 f') (.slice o15 nh c15) := by rw [hW17]; exact sdb_new _ _ _
  have HB1417 := Lib.hid (HB1415.out.trans ((hb16.trans (hb17.mono hb16.size)).mono HB1415.out.size))
  have HB17 := Lib.hid (HB14.out.trans (HB1417.out.mono HB14.out.size))
  have HC17 := Lib.hid (hc16.old hb17)
  obtain ⟨q15, hq15⟩ : ∃ q, q = w16.heap.size := ⟨_, rfl⟩
  rw [← hq15] at hx17
  have HQ15 := Lib.hid hq15
  have HXX : Hid (∀ W, Below W17.heap.size W17 W → W.heap[q14]? = some (.cells #[.int .i64 f', .slice oh nh ch] 24 (0, 0)) ∧ W.heap[q15]? = some (.cells #[.int .i64 f', .slice o15 nh c15] 34 (0, 0))) := Lib.hid fun W hb =>
    ⟨HX14.out.old (HB1417.out.trans (hb.mono HB1417.out.size)), hx17.old hb⟩
  have HDM : Hid (∀ W, Below W17.heap.size W17 W → Calls Tryz.prog 7 #[.agg #[.int .i64 f', .slice oh nh ch]] W fun e w' => ∃ (o : Option Addr) (c : Nat), e = .returned (.agg #[.int .i64 f', .slice o nh c]) ∧ OwnsD w' W.heap.size (.slice o nh c) cs' ∧ Below W.heap.size W w') := Lib.hid fun W hb => by
    refine (document14_any f' _ cs' W _ (HC14.out.old (HB1417.out.trans (hb.mono HB1417.out.size))) (by have := HFL.out; omega)).mono ?_
    rintro e w' ⟨v', rfl, ho, hb'⟩
    obtain ⟨o, c, rfl⟩ := ho.form
    rw [← HNH.out] at ho ⊢
    exact ⟨o, c, rfl, ho, hb'⟩
  have HSM : Hid (∀ (W : World) (o : Option Addr) (k : Nat) (base : Nat), Below W17.heap.size W17 W → OwnsD W base (.slice o nh k) cs' → Calls Tryz.prog 16 #[.agg #[.int .i64 f', .slice o nh k], .agg #[.int .i64 f', .slice o15 nh c15]] W fun e w' => e = .returned (.bool true) ∧ Below W.heap.size W w') := Lib.hid fun W o k base hb ho => by
    have := rsgsame_any f' f' _ _ cs' cs' W _ _ ho.dc (HC17.out.old hb) HF8.out HF8.out
    rw [show sgSame f' cs' f' cs' = true by unfold sgSame; simp] at this
    exact this
  have HSZ : Hid ((Tryz.prog.info? 24).map (·.size) = some (#[.int .i64 f', .slice oh nh ch] : Array Value).size) := Lib.hid Tryz.sizeSGM
  have HSZ2 : Hid ((Tryz.prog.info? 34).map (·.size) = some (#[.int .i64 f', .slice o15 nh c15] : Array Value).size) := Lib.hid Tryz.sizeRSM
  have hcc : ((c' : Int) == (c' : Int)) = true := by simp
  have HW17 := Lib.hid hW17
  clear hb16 hr2 hc16 hb17 hx17 hq15 hW17
  go_upto_region 20 with fail
  rw [← HW17.out, ← HQ15.out]
  refine wp_region_extS (fun W => Below W17.heap.size W17 W) (Below.refl _ _).drew (by kernel_rfl) ?_
  refine extS_take (i := 0) (d := 90) (v := .agg #[.int .i64 f', .slice oh nh ch]) rfl rfl (by kernel_rfl) (by kernel_rfl) (by kernel_rfl) (fun _ _ _ h => h) (by rfl) (fun W hS => load_gives 24 (.tmp 14) rfl (q14) rfl _ #[.int .i64 f', .slice oh nh ch] (0, 0) _ ((HXX.out W hS).1) Tryz.underlying24 rfl HSZ.out ⟨Below.refl _ _, hS⟩) ?_
  simp only [List.setIfInBounds_toArray, List.set_cons_zero, List.set_cons_succ]
  refine extS_take (i := 2) (d := 92) (v := .agg #[.int .i64 f', .slice o15 nh c15]) rfl rfl (by kernel_rfl) (by kernel_rfl) (by kernel_rfl) (fun _ _ _ h => h) (by rfl) (fun W hS => load_gives 34 (.tmp 15) rfl (q15) rfl _ #[.int .i64 f', .slice o15 nh c15] (0, 0) _ ((HXX.out W hS).2) Tryz.underlying34 rfl HSZ2.out ⟨Below.refl _ _, hS⟩) ?_
  simp only [List.setIfInBounds_toArray, List.set_cons_zero, List.set_cons_succ]
  refine extS_one (i := 1) (by kernel_rfl) rfl (fun W9 hb9 hS9 => ?_)
  intro K hK
  rw [if_pos (by rfl)]
  go_simp
  go_at_call 7
  refine (HDM.out W9 hS9).mono ?_
  rintro e W10 ⟨oD, cD, rfl, hpd, hb10⟩
  have hS10 : Below W17.heap.size W17 W10 := hS9.trans (hb10.mono hS9.size)
  have HPD := Lib.hid hpd
  refine hK _ _ hS10 ?_
  clear hK K hpd hb10 hS9 hb9
  refine extS_one (i := 3) (by kernel_rfl) rfl (fun W11 hb11 hS11 => ?_)
  intro K hK
  rw [if_pos (by rfl)]
  go_simp
  go_at_call 16
  refine (HSM.out W11 oD cD _ hS11 (HPD.out.below hb11)).mono ?_
  rintro e W12 ⟨rfl, hb12⟩
  have hS12 : Below W17.heap.size W17 W12 := hS11.trans (hb12.mono hS11.size)
  refine hK _ _ hS12 ?_
  clear hK K hb12 hS11 hb11 hS10
  refine extS_take (i := 4) (d := 94) (v := ?_) rfl rfl (by kernel_rfl) (by kernel_rfl) (by kernel_rfl) (fun _ _ _ h => h) (by rfl) (fun W hS => ?_) ?_
  rotate_left
  · skip
    refine gives_value (w := W) ⟨Below.refl _ _, hS⟩ ?_; go_simp; try with_reducible rfl
  simp only [List.setIfInBounds_toArray, List.set_cons_zero, List.set_cons_succ]
  refine extS_take (i := 5) (d := 95) (v := ?_) rfl rfl (by kernel_rfl) (by kernel_rfl) (by kernel_rfl) (fun _ _ _ h => h) (by rfl) (fun W hS => ?_) ?_
  rotate_left
  · skip
    refine gives_value (w := W) ⟨Below.refl _ _, hS⟩ ?_; go_simp; try with_reducible rfl
  simp only [List.setIfInBounds_toArray, List.set_cons_zero, List.set_cons_succ]
  refine extS_take (i := 6) (d := 96) (v := ?_) rfl rfl (by kernel_rfl) (by kernel_rfl) (by kernel_rfl) (fun _ _ _ h => h) (by rfl) (fun W hS => ?_) ?_
  rotate_left
  · skip
    go_simp; refine Gives.enter ((HNUM2.out W).mono ?_); rintro e wn ⟨rfl, rfl⟩; refine ⟨?_, Below.refl _ _, hS⟩; with_reducible rfl
  simp only [List.setIfInBounds_toArray, List.set_cons_zero, List.set_cons_succ]
  refine extS_take (i := 7) (d := 97) (v := ?_) rfl rfl (by kernel_rfl) (by kernel_rfl) (by kernel_rfl) (fun _ _ _ h => h) (by rfl) (fun W hS => ?_) ?_
  rotate_left
  · skip
    refine gives_value (w := W) ⟨Below.refl _ _, hS⟩ ?_; go_simp; try with_reducible rfl
  simp only [List.setIfInBounds_toArray, List.set_cons_zero, List.set_cons_succ]
  refine extS_take (i := 8) (d := 98) (v := ?_) rfl rfl (by kernel_rfl) (by kernel_rfl) (by kernel_rfl) (fun _ _ _ h => h) (by rfl) (fun W hS => ?_) ?_
  rotate_left
  · skip
    refine gives_value (w := W) ⟨Below.refl _ _, hS⟩ ?_; go_simp; try with_reducible rfl
  simp only [List.setIfInBounds_toArray, List.set_cons_zero, List.set_cons_succ]
  refine extS_take (i := 9) (d := 99) (v := ?_) rfl rfl (by kernel_rfl) (by kernel_rfl) (by kernel_rfl) (fun _ _ _ h => h) (by rfl) (fun W hS => ?_) ?_
  rotate_left
  · skip
    refine gives_value (w := W) ⟨Below.refl _ _, hS⟩ ?_; go_simp; try with_reducible rfl
  simp only [List.setIfInBounds_toArray, List.set_cons_zero, List.set_cons_succ]
  refine extS_one (i := 10) (by kernel_rfl) rfl (fun W19 hb19 hS19 => ?_)
  intro K hK
  rw [if_pos (by rfl)]
  go_simp
  refine hK _ _ hS19 ?_
  clear hK K hb19 hS19
  refine extS_done (by kernel_rfl) (fun W20 _ hS20 => ?_) _
  have HS20 := Lib.hid hS20
  clear hS20
  go_wp2
  go_ret
  exact ⟨rfl, HB1.out.trans ((HB17.out.trans (HS20.out.mono HB17.out.size)).mono HB1.out.size)⟩

end Go.Proofs.YtpebmmhokigglaaGreatDoor
