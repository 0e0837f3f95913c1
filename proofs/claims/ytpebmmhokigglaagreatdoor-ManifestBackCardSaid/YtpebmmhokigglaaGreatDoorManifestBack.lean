/- ManifestBack's walk. -/
import Derived.Test.YtpebmmhokigglaaGreatDoorQu
import Derived.Test.YtpebmmhokigglaaGreatDoorQt
import Derived.Test.YtpebmmhokigglaaGreatDoorQg
import Derived.Test.YtpebmmhokigglaaGreatDoorQl
import Derived.Deep.Cut
import Derived.Deep.CutBlock
import Derived.Laws.BitsAllLaws
namespace Go.Proofs.YtpebmmhokigglaaGreatDoor
open Go.RowKit

theorem Owns.blockedM {w : World} {base : Nat} {e : TypeId} {k : IntKind} {v : Value} {l : List Nat} (h : Owns w base e k v l) (h0 : l.length ≠ 0) : ∃ g cap, v = .slice (some ⟨g, 0, none⟩) l.length cap ∧ base ≤ g ∧ l.length ≤ cap ∧ cap ≤ maxLen := by
  rcases h.2 with ⟨_, h2⟩ | ⟨g, cap, cur, h1, h2, _, h3, h4, _⟩
  · exact absurd h2 h0
  · exact ⟨g, cap, h1, h2, h3, h4⟩
theorem isM_any (c k : Nat) (w : World) : Calls Tryz.prog 23 #[errV c, .int .i64 (k : Int)] w fun e w' => e = .returned (.bool (decide (c = k))) ∧ w = w' := by
  go_enter Tryz.func23, Tryz.ntmps23
  go_wp2_with fail
  refine (num_any c w).mono ?_
  rintro e w' ⟨rfl, rfl⟩
  go_wp2
  go_ret
  refine ⟨ret_bool ?_, rfl⟩
  rw [Bool.eq_iff_iff, beq_iff_eq, decide_eq_true_iff]
  omega
theorem neq_dig {t : TypeId} (ht : Tryz.prog.underlying t = some (.array 32 5)) (a b : List Nat) (ha : a.length = 32) (hb : b.length = 32) (W : World) :
    (binOp .neq t (.agg (vals .u8 a).toArray) (.agg (vals .u8 b).toArray)).run Tryz.prog W = .ok (.bool (!(a == b))) W := by
  have this : (Op.equal t (.agg (vals .u8 a).toArray) (.agg (vals .u8 b).toArray)).run Tryz.prog W = .ok (a == b) W := equalIn_nums (k := .u8) ht Tryz.underlying5 (fun w => by kernel_rfl) a b ha hb W
  simp [binOp, this]
theorem set_byteM {l : List Nat} {i x : Nat} (h : ∀ y ∈ l, y < 256) (hx : x < 256) : ∀ y ∈ l.set i x, y < 256 := by
  intro y hy
  rcases List.mem_or_eq_of_mem_set hy with h1 | rfl
  · exact h y h1
  · exact hx

set_option maxHeartbeats 16000000 in
set_option maxRecDepth 100000 in
theorem manifestBack_walk (m : MF) (f : Int) (v1 v2 v3 : Value) (cs : List IC) (b : List Nat) (w : World) (B1 B2 : Nat → Prop) (h1 : PsAt w B1 v1 m.ps) (hd1 : Dg m.prev) (h2 : CellsAt w B2 v2 cs) (h8 : ∀ c ∈ cs, ∀ y ∈ c.2, y < 256) (hla : cs.length ≤ 9223372036854775807) (h3 : Reads w .u8 v3 b) (hb8 : ∀ y ∈ b, y < 256) (hld : Laid w) :
    Calls Tryz.prog 4 #[.agg (mfRow m v1).toArray, .agg #[.int .i64 f, v2], v3] w fun e w' => e = .returned (.bool true) ∧ Below w.heap.size w w' := by
  obtain ⟨ao1, cap1, rfl, _, _, _⟩ := h1.val
  obtain ⟨ao2, cap2, rfl, _, _, _⟩ := h2.val
  obtain ⟨ao3, cap3, hv3, _, _, _⟩ := h3.val
  obtain ⟨n1, hn1⟩ : ∃ n, n = m.ps.length := ⟨_, rfl⟩
  obtain ⟨n2, hn2⟩ : ∃ n, n = cs.length := ⟨_, rfl⟩
  obtain ⟨nb, hnb⟩ : ∃ n, n = b.length := ⟨_, rfl⟩
  rw [← hn1] at h1 ⊢
  rw [← hn2] at h2 ⊢
  rw [← hnb] at hv3
  subst hv3
  obtain ⟨W1, hW1⟩ : ∃ W1, W1 = (w.alloc (.cells (mfRow m (.slice ao1 n1 cap1)).toArray 57)).alloc (.cells #[.int .i64 f, .slice ao2 n2 cap2] 24) := ⟨_, rfl⟩
  have hb1 : Below w.heap.size w W1 := by rw [hW1]; exact ((Below.refl _ _).alloc (Nat.le_refl _) _).alloc (by simp) _
  have hx1 : MB W1 w.heap.size m (.slice ao1 n1 cap1) 57 := by rw [hW1]; exact (mb_new _ _ _ _).old ((Below.refl _ _).alloc (Nat.le_refl _) _)
  have hy1 : SgB W1 (w.heap.size + 1) (.int .i64 f) (.slice ao2 n2 cap2) := by
    have := sgb_new (w.alloc (.cells (mfRow m (.slice ao1 n1 cap1)).toArray 57)) (.int .i64 f) (.slice ao2 n2 cap2)
    rw [hW1]; simpa using this
  have HMS : Hid ((Tryz.prog.info? 57).map (·.size) = some (mfRow m (.slice ao1 n1 cap1)).toArray.size) := Lib.hid (by rw [mfRow_size hd1]; exact Tryz.sizeMF)
  have HX36 : Hid (∀ W, Below W1.heap.size W1 W → W.cell? ⟨w.heap.size, 36, none⟩ = some (.slice ao1 n1 cap1)) := Lib.hid fun W hb => by
    obtain ⟨_, _, _, _, e⟩ := (hx1.old hb).x hd1
    exact e
  have HXS : Hid (∀ W, Below W1.heap.size W1 W → W.cell? ⟨w.heap.size + 1, 0, none⟩ = some (.int .i64 f) ∧ W.cell? ⟨w.heap.size + 1, 1, none⟩ = some (.slice ao2 n2 cap2)) := Lib.hid fun W hb => by
    obtain ⟨p0, p1, _, _⟩ := (hy1.old hb).x
    exact ⟨p0, p1⟩
  have HR1 : Hid (∀ W, Below W1.heap.size W1 W → PsAt W B1 (.slice ao1 n1 cap1) m.ps) := Lib.hid fun W hb => (h1.old hb1).old hb
  have HR2 : Hid (∀ W, Below W1.heap.size W1 W → CellsAt W B2 (.slice ao2 n2 cap2) cs) := Lib.hid fun W hb => (h2.old hb1).old hb
  have HR3 : Hid (∀ W, Below W1.heap.size W1 W → Reads W .u8 (.slice ao3 nb cap3) b) := Lib.hid fun W hb => (h3.new hb1).new hb
  have HLD : Hid (∀ W, Below W1.heap.size W1 W → Laid W) := Lib.hid fun W hb => (hld.next hb1).next hb
  have HB1 := Lib.hid hb1
  have HD1 := Lib.hid hd1
  have H8 := Lib.hid h8
  have HLA := Lib.hid hla
  have HB8 := Lib.hid hb8
  have HN1 := Lib.hid hn1
  have HN2 := Lib.hid hn2
  have HNB := Lib.hid hnb
  have HAL := Lib.hid (alive15_any W1)
  obtain ⟨A, hA⟩ : ∃ A, A = (mfRow m (.slice ao1 n1 cap1)).toArray := ⟨_, rfl⟩
  rw [← hA] at hW1 HMS ⊢
  have HMB : Hid (∀ W, Below W1.heap.size W1 W → W.heap[w.heap.size]? = some (.cells A 57 (0, 0))) := Lib.hid fun W hb => by rw [hA]; exact hx1.old hb
  have HA := Lib.hid hA
  have HW1 := Lib.hid hW1
  clear h1 hd1 h2 h8 hla h3 hb8 hld hb1 hx1 hy1 hA hW1 hn1 hn2 hnb
  go_enter Tryz.func4, Tryz.ntmps4
  go_wp2_with fail
  rw [← HW1.out]
  refine HAL.out.mono ?_
  rintro e w2 ⟨rfl, hb2⟩
  have HB2 := Lib.hid hb2
  have HLG := Lib.hid (long_any _ cs 80 w2 B2 (HR2.out w2 hb2) HLA.out)
  have x36 := HX36.out w2 hb2
  obtain ⟨a0, a1⟩ := HXS.out w2 hb2
  clear hb2
  by_cases g1 : (n1 : Int) > 60
  · go_wp2
    go_ret
    exact ⟨rfl, HB1.out.trans (HB2.out.mono HB1.out.size)⟩
  by_cases hlg : longB cs 80 = true
  · rw [hlg] at HLG
    clear hlg
    go_wp2_with fail
    refine HLG.out.mono ?_
    rintro e w3 ⟨rfl, hb3⟩
    have HB3 := Lib.hid (HB2.out.trans (hb3.mono HB2.out.size))
    clear hb3
    go_wp2
    go_ret
    exact ⟨rfl, HB1.out.trans (HB3.out.mono HB1.out.size)⟩
  have hlg : longB cs 80 = false := by simpa using hlg
  rw [hlg] at HLG
  clear hlg
  go_wp2_with fail
  refine HLG.out.mono ?_
  rintro e w3 ⟨rfl, hb3⟩
  have HB3 := Lib.hid (HB2.out.trans (hb3.mono HB2.out.size))
  clear hb3
  by_cases g2 : (nb : Int) > 4000
  · go_wp2
    go_ret
    exact ⟨rfl, HB1.out.trans (HB3.out.mono HB1.out.size)⟩
  have HNL : Hid (nb ≤ 4000) := Lib.hid (by omega)
  clear x36 a0 a1
  -- Put and Take
  have HPUT : Hid (Calls Tryz.prog 17 #[.agg A] w3 fun e w' => ∃ pv er, e = .returned (.tuple #[pv, er]) ∧ er = errV (mchk m) ∧ (mchk m = 0 → Owns w' w3.heap.size 5 .u8 pv (fr (mtext m))) ∧ Below w3.heap.size w3 w') := Lib.hid (by
    rw [HA.out]
    refine (mput_any m _ w3 B1 (HR1.out w3 HB3.out) HD1.out).mono ?_
    rintro e w' ⟨hb, ⟨hz, v', rfl, ho⟩ | ⟨hz, rfl⟩⟩
    · exact ⟨v', .nilIface, rfl, by rw [hz]; rfl, fun _ => ho, hb⟩
    · exact ⟨_, _, rfl, rfl, fun hc => absurd hc hz, hb⟩)
  go_wp2_with ((with_reducible show wpList _ _ _ (Oper.mk (some 40) _ _ _ _ _ :: _) _ _); go_must (refine wpList_load_row rfl 57 (.tmp 3) rfl (w.heap.size) rfl _ A _ _ (HMB.out w3 HB3.out) Tryz.underlying57 rfl HMS.out ?_))
  refine HPUT.out.mono ?_
  rintro e w4 ⟨pv, er, rfl, her, hop, hb4⟩
  have HB4 := Lib.hid (HB3.out.trans (hb4.mono HB3.out.size))
  have HER := Lib.hid her
  have HOP := Lib.hid hop
  obtain ⟨X, hX⟩ : ∃ X, X = decide (mchk m = 0) := ⟨_, rfl⟩
  have HX := Lib.hid hX
  clear her hop hb4 hX g1 g2
  go_upto_region 6 with fail
  go_cut [45] from 46 (fun bv wx => bv = .bool X ∧ wx = w4)
  case first =>
    by_cases hz : mchk m = 0
    · have h1 : er = .nilIface := by rw [HER.out, hz]; rfl
      have HZ := Lib.hid hz
      subst h1
      clear hz
      go_wp2
      go_meet
      case rel => exact ⟨by rw [HX.out, decide_eq_true HZ.out], rfl⟩
    · have h1 : er = .iface 68 (.int .i64 (mchk m : Int)) := by rw [HER.out, errV_pos hz]
      have HZ := Lib.hid hz
      subst h1
      clear hz
      go_wp2
      go_meet
      case rel => exact ⟨by rw [HX.out, decide_eq_false HZ.out], rfl⟩
  case rest =>
  obtain ⟨rfl, hwc⟩ := hcut
  have hwc := hwc.symm
  subst hwc
  go_upto_if 45 with fail
  go_cut [] from 46 (fun wx => Below W1.heap.size W1 wx)
  case first =>
    cases X
    · go_wp2
      go_meet
      case rel => exact HB4.out
    have hz : mchk m = 0 := by simpa using HX.out
    have ho := HOP.out hz
    have hok : MOk m := ⟨HD1.out, (HR1.out W1 (Below.refl _ _)).2⟩
    obtain ⟨ap, cp, rfl⟩ := ho.form2Q
    obtain ⟨p8, pl⟩ := man_bytes hz hok
    obtain ⟨np, hnp⟩ : ∃ k, k = (fr (mtext m)).length := ⟨_, rfl⟩
    obtain ⟨D, hD⟩ : ∃ D, D = shaOf shaK shaH (fr (mtext m)) := ⟨_, rfl⟩
    have hdl : D.length = 32 := by rw [hD]; exact sha_len _
    rw [← hnp] at ho ⊢
    have HTK : Hid (Calls Tryz.prog 18 #[.slice ap np cp] w4 fun e w' => ∃ o5 c5, e = .returned (.tuple #[.agg (mfRow m (.slice o5 n1 c5)).toArray, .nilIface]) ∧ PsAt w' (fun j => w4.heap.size ≤ j) (.slice o5 n1 c5) m.ps ∧ Below w4.heap.size w4 w') := Lib.hid (by
      refine (mtake_any _ (fr (mtext m)) w4 ho.reads p8 (by omega)).mono ?_
      rintro e w' ⟨hb, m', c', v', hrm, rfl, hps⟩
      obtain ⟨rfl, rfl⟩ := (rman_put hz hok).unique hrm
      obtain ⟨o5, c5, rfl, _, _, _⟩ := hps.val
      rw [← HN1.out] at hps ⊢
      exact ⟨o5, c5, rfl, hps, hb⟩)
    have HSUM : Hid (∀ W, Below w4.heap.size w4 W → Calls Tryz.prog 21 #[.slice ap np cp] W fun e w' => e = .returned (.agg (vals .u8 D).toArray) ∧ Below W.heap.size W w') := Lib.hid fun W hW => by
      rw [hD]
      exact sumS_any _ _ W (ho.reads.new hW) (by omega) p8 (HLD.out W (HB4.out.trans (hW.mono HB4.out.size)))
    have HDD : Hid ((Tryz.prog.info? 26).map (·.size) = some (vals .u8 D).toArray.size) := Lib.hid (by rw [List.size_toArray, vals_length, hdl]; exact Tryz.sizeDG)
    have HDDS : Hid ((vals .u8 D).toArray.size = 32) := Lib.hid (by rw [List.size_toArray, vals_length, hdl])
    have HEQ : Hid (∀ W, (binOp .neq 26 (.agg (vals .u8 D).toArray) (.agg (vals .u8 D).toArray)).run Tryz.prog W = .ok (.bool false) W) := Lib.hid fun W => by
      rw [neq_dig Tryz.underlying26 D D hdl hdl W]
      simp
    have HDE := Lib.hid hD
    have HZ := Lib.hid hz
    have HNP := Lib.hid hnp
    clear hz ho hok p8 pl hnp hD hdl
    go_wp2_with fail
    refine HTK.out.mono ?_
    rintro e w5 ⟨o5, c5, rfl, hps5, hb5⟩
    have HB5 := Lib.hid hb5
    have HMS5 : Hid ((Tryz.prog.info? 57).map (·.size) = some (mfRow m (.slice o5 n1 c5)).toArray.size) := Lib.hid (by rw [mfRow_size HD1.out]; exact Tryz.sizeMF)
    have HMS5S : Hid ((mfRow m (.slice o5 n1 c5)).toArray.size = 37) := Lib.hid (mfRow_size HD1.out)
    have HONE : Hid ((mfRow m (.slice o5 n1 c5)).toArray.all (·.oneCell') = true) := Lib.hid (all_one (mfRow_one _ rfl))
    obtain ⟨A5, hA5⟩ : ∃ A, A = (mfRow m (.slice o5 n1 c5)).toArray := ⟨_, rfl⟩
    rw [← hA5] at HMS5 HMS5S HONE ⊢
    have HA5 := Lib.hid hA5
    have HPS5 := Lib.hid hps5
    clear hA5 hps5 hb5
    go_wp2_with ((with_reducible show wpList _ _ _ (Oper.mk none _ _ _ _ _ :: _) _ _); go_must (refine wpList_store_new rfl 57 (.tmp 9) (.tmp 49) rfl w5 _ A5 rfl rfl _ HMS5.out (by rw [HMS5S.out]; rfl) HONE.out ?_))
    intro W6 hq6 hb6 hs6
    have HB6 := Lib.hid (HB5.out.trans (hb6.mono HB5.out.size))
    have HPS6 := Lib.hid (HPS5.out.old hb6)
    have HDIG : Hid (Calls Tryz.prog 19 #[.agg A5] W6 fun e w' => e = .returned (.tuple #[.agg (vals .u8 D).toArray, .nilIface]) ∧ Below W6.heap.size W6 w') := Lib.hid (by
      rw [HA5.out]
      refine (mdigest_any m _ W6 _ HPS6.out HD1.out (HLD.out W6 (HB4.out.trans (HB6.out.mono HB4.out.size)))).mono ?_
      rintro e w' ⟨hb, ⟨_, rfl⟩ | ⟨hz, _⟩⟩
      · exact ⟨by rw [HDE.out], hb⟩
      · exact absurd HZ.out hz)
    obtain ⟨q6, hq6e⟩ : ∃ q, q = w5.heap.size := ⟨_, rfl⟩
    rw [← hq6e] at hq6 ⊢
    have HQ6 := Lib.hid hq6
    have HQ6L : Hid (q6 < W6.heap.size) := Lib.hid (by rw [hs6]; omega)
    clear hq6 hb6 hs6 hq6e
    go_wp2_with ((with_reducible show wpList _ _ _ (Oper.mk (some 52) _ _ _ _ _ :: _) _ _); go_must (refine wpList_load_row rfl 57 (.tmp 9) rfl (q6) rfl _ A5 _ _ (HQ6.out) Tryz.underlying57 rfl HMS5.out ?_))
    refine HDIG.out.mono ?_
    rintro e w7 ⟨rfl, hb7⟩
    have HB7 := Lib.hid (HB6.out.trans (hb7.mono HB6.out.size))
    have HQ7 := Lib.hid ((hb7.block _ HQ6L.out).trans HQ6.out)
    have HPS7 := Lib.hid (HPS6.out.old hb7)
    have HQ7L : Hid (q6 < w7.heap.size) := Lib.hid (Nat.lt_of_lt_of_le HQ6L.out hb7.size)
    clear hb7
    go_wp2_with ((with_reducible show wpList _ _ _ (Oper.mk none _ _ _ _ _ :: _) _ _); go_must (refine wpList_store_new rfl 26 (.tmp 11) (.tmp 54) rfl w7 _ (vals .u8 D).toArray rfl rfl _ HDD.out (by rw [HDDS.out]; rfl) (all_one (ptRow_valsQ D)) ?_))
    intro W8 hq8 hb8 hs8
    have HB8W := Lib.hid (HB7.out.trans (hb8.mono HB7.out.size))
    have HQM := Lib.hid ((hb8.block _ HQ7L.out).trans HQ7.out)
    have HPS8 := Lib.hid (HPS7.out.old hb8)
    obtain ⟨q8, hq8e⟩ : ∃ q, q = w7.heap.size := ⟨_, rfl⟩
    rw [← hq8e] at hq8 ⊢
    have HQ8 := Lib.hid hq8
    have HQL : Hid (q6 < W8.heap.size ∧ q8 < W8.heap.size) := Lib.hid (by have := HQ7L.out; rw [hs8]; omega)
    have HB18 : Hid (Below W1.heap.size W1 W8) := Lib.hid (HB4.out.trans (HB8W.out.mono HB4.out.size))
    have HXX : Hid (∀ W, Below W8.heap.size W8 W → W.heap[q6]? = some (.cells A5 57 (0, 0)) ∧ W.heap[q8]? = some (.cells (vals .u8 D).toArray 26 (0, 0)) ∧ W.heap[w.heap.size]? = some (.cells A 57 (0, 0))) := Lib.hid fun W hb =>
      ⟨(hb.block _ HQL.out.1).trans HQM.out, (hb.block _ HQL.out.2).trans HQ8.out, HMB.out W (HB18.out.trans (hb.mono HB18.out.size))⟩
    have HSM : Hid (∀ W, Below W8.heap.size W8 W → Calls Tryz.prog 20 #[.agg A5, .agg A] W fun e w' => e = .returned (.bool true) ∧ Below W.heap.size W w') := Lib.hid fun W hb => by
      rw [HA5.out, HA.out]
      have := msame_any m m _ _ W _ _ (HPS8.out.old hb) (HR1.out W (HB18.out.trans (hb.mono HB18.out.size))) HD1.out HD1.out
      rw [sameM_self] at this
      exact this
    have HSUM8 : Hid (∀ W, Below W8.heap.size W8 W → Calls Tryz.prog 21 #[.slice ap np cp] W fun e w' => e = .returned (.agg (vals .u8 D).toArray) ∧ Below W.heap.size W w') := Lib.hid fun W hb => HSUM.out W (HB8W.out.trans (hb.mono HB8W.out.size))
    clear hq8 hb8 hs8 hq8e
    go_upto_region 9 with fail
    refine wp_region_extS (fun W => Below W8.heap.size W8 W) (Below.refl _ _).drew (by kernel_rfl) ?_
    refine extS_take (i := 0) (d := 56) (v := ?_) rfl rfl (by kernel_rfl) (by kernel_rfl) (by kernel_rfl) (fun _ _ _ h => h) (by rfl) (fun W hS => ?_) ?_
    rotate_left
    · skip
      refine gives_value (w := W) ⟨Below.refl _ _, hS⟩ ?_; go_simp; try with_reducible rfl
    simp only [List.setIfInBounds_toArray, List.set_cons_zero, List.set_cons_succ]
    refine extS_take (i := 1) (d := 57) (v := ?_) rfl rfl (by kernel_rfl) (by kernel_rfl) (by kernel_rfl) (fun _ _ _ h => h) (by rfl) (fun W hS => ?_) ?_
    rotate_left
    · skip
      refine gives_value (w := W) ⟨Below.refl _ _, hS⟩ ?_; go_simp; try with_reducible rfl
    simp only [List.setIfInBounds_toArray, List.set_cons_zero, List.set_cons_succ]
    refine extS_take (i := 2) (d := 58) (v := ?_) rfl rfl (by kernel_rfl) (by kernel_rfl) (by kernel_rfl) (fun _ _ _ h => h) (by rfl) (fun W hS => ?_) ?_
    rotate_left
    · skip
      refine gives_value (w := W) ⟨Below.refl _ _, hS⟩ ?_; go_simp; try with_reducible rfl
    simp only [List.setIfInBounds_toArray, List.set_cons_zero, List.set_cons_succ]
    refine extS_take (i := 3) (d := 59) (v := ?_) rfl rfl (by kernel_rfl) (by kernel_rfl) (by kernel_rfl) (fun _ _ _ h => h) (by rfl) (fun W hS => ?_) ?_
    rotate_left
    · skip
      refine gives_value (w := W) ⟨Below.refl _ _, hS⟩ ?_; go_simp; try with_reducible rfl
    simp only [List.setIfInBounds_toArray, List.set_cons_zero, List.set_cons_succ]
    refine extS_take (i := 4) (d := 60) (v := ?_) rfl rfl (by kernel_rfl) (by kernel_rfl) (by kernel_rfl) (fun _ _ _ h => h) (by rfl) (fun W hS => ?_) ?_
    rotate_left
    · skip
      refine gives_value (w := W) ⟨Below.refl _ _, hS⟩ ?_; go_simp; try with_reducible rfl
    simp only [List.setIfInBounds_toArray, List.set_cons_zero, List.set_cons_succ]
    refine extS_take (i := 5) (d := 61) (v := ?_) rfl rfl (by kernel_rfl) (by kernel_rfl) (by kernel_rfl) (fun _ _ _ h => h) (by rfl) (fun W hS => ?_) ?_
    rotate_left
    · skip
      refine gives_value (w := W) ⟨Below.refl _ _, hS⟩ ?_; go_simp; try with_reducible rfl
    simp only [List.setIfInBounds_toArray, List.set_cons_zero, List.set_cons_succ]
    refine extS_take (i := 6) (d := 62) (v := ?_) rfl rfl (by kernel_rfl) (by kernel_rfl) (by kernel_rfl) (fun _ _ _ h => h) (by rfl) (fun W hS => ?_) ?_
    rotate_left
    · skip
      refine gives_value (w := W) ⟨Below.refl _ _, hS⟩ ?_; go_simp; try with_reducible rfl
    simp only [List.setIfInBounds_toArray, List.set_cons_zero, List.set_cons_succ]
    refine extS_take (i := 7) (d := 63) (v := .agg A5) rfl rfl (by kernel_rfl) (by kernel_rfl) (by kernel_rfl) (fun _ _ _ h => h) (by rfl) (fun W hS => load_gives 57 (.tmp 9) rfl (q6) rfl _ A5 (0, 0) _ ((HXX.out W hS).1) Tryz.underlying57 rfl HMS5.out ⟨Below.refl _ _, hS⟩) ?_
    simp only [List.setIfInBounds_toArray, List.set_cons_zero, List.set_cons_succ]
    refine extS_take (i := 8) (d := 64) (v := .agg A) rfl rfl (by kernel_rfl) (by kernel_rfl) (by kernel_rfl) (fun _ _ _ h => h) (by rfl) (fun W hS => load_gives 57 (.tmp 3) rfl (w.heap.size) rfl _ A (0, 0) _ ((HXX.out W hS).2.2) Tryz.underlying57 rfl HMS.out ⟨Below.refl _ _, hS⟩) ?_
    simp only [List.setIfInBounds_toArray, List.set_cons_zero, List.set_cons_succ]
    refine extS_take (i := 9) (d := 65) (v := ?_) rfl rfl (by kernel_rfl) (by kernel_rfl) (by kernel_rfl) (fun _ _ _ h => h) (by rfl) (fun W hS => ?_) ?_
    rotate_left
    · skip
      go_simp; refine Gives.enter ((HSM.out W hS).mono ?_); rintro e wn ⟨rfl, hbn⟩; refine ⟨?_, hbn, Below.trans hS (hbn.mono hS.size)⟩; with_reducible rfl
    simp only [List.setIfInBounds_toArray, List.set_cons_zero, List.set_cons_succ]
    refine extS_take (i := 10) (d := 66) (v := ?_) rfl rfl (by kernel_rfl) (by kernel_rfl) (by kernel_rfl) (fun _ _ _ h => h) (by rfl) (fun W hS => ?_) ?_
    rotate_left
    · skip
      refine gives_value (w := W) ⟨Below.refl _ _, hS⟩ ?_; go_simp; try with_reducible rfl
    simp only [List.setIfInBounds_toArray, List.set_cons_zero, List.set_cons_succ]
    refine extS_take (i := 11) (d := 67) (v := ?_) rfl rfl (by kernel_rfl) (by kernel_rfl) (by kernel_rfl) (fun _ _ _ h => h) (by rfl) (fun W hS => ?_) ?_
    rotate_left
    · skip
      refine gives_value (w := W) ⟨Below.refl _ _, hS⟩ ?_; go_simp; try with_reducible rfl
    simp only [List.setIfInBounds_toArray, List.set_cons_zero, List.set_cons_succ]
    refine extS_take (i := 12) (d := 68) (v := ?_) rfl rfl (by kernel_rfl) (by kernel_rfl) (by kernel_rfl) (fun _ _ _ h => h) (by rfl) (fun W hS => ?_) ?_
    rotate_left
    · skip
      refine gives_value (w := W) ⟨Below.refl _ _, hS⟩ ?_; go_simp; try with_reducible rfl
    simp only [List.setIfInBounds_toArray, List.set_cons_zero, List.set_cons_succ]
    refine extS_take (i := 13) (d := 69) (v := .agg (vals .u8 D).toArray) rfl rfl (by kernel_rfl) (by kernel_rfl) (by kernel_rfl) (fun _ _ _ h => h) (by rfl) (fun W hS => load_gives 26 (.tmp 11) rfl (q8) rfl _ (vals .u8 D).toArray (0, 0) _ ((HXX.out W hS).2.1) Tryz.underlying26 rfl HDD.out ⟨Below.refl _ _, hS⟩) ?_
    simp only [List.setIfInBounds_toArray, List.set_cons_zero, List.set_cons_succ]
    refine extS_take (i := 14) (d := 70) (v := ?_) rfl rfl (by kernel_rfl) (by kernel_rfl) (by kernel_rfl) (fun _ _ _ h => h) (by rfl) (fun W hS => ?_) ?_
    rotate_left
    · skip
      refine gives_value (w := W) ⟨Below.refl _ _, hS⟩ ?_; go_simp; try with_reducible rfl
    simp only [List.setIfInBounds_toArray, List.set_cons_zero, List.set_cons_succ]
    refine extS_take (i := 15) (d := 71) (v := ?_) rfl rfl (by kernel_rfl) (by kernel_rfl) (by kernel_rfl) (fun _ _ _ h => h) (by rfl) (fun W hS => ?_) ?_
    rotate_left
    · skip
      go_simp; refine Gives.enter ((HSUM8.out W hS).mono ?_); rintro e wn ⟨rfl, hbn⟩; refine ⟨?_, hbn, Below.trans hS (hbn.mono hS.size)⟩; with_reducible rfl
    simp only [List.setIfInBounds_toArray, List.set_cons_zero, List.set_cons_succ]
    refine extS_take (i := 16) (d := 72) (v := ?_) rfl rfl (by kernel_rfl) (by kernel_rfl) (by kernel_rfl) (fun _ _ _ h => h) (by rfl) (fun W hS => ?_) ?_
    rotate_left
    · skip
      refine gives_value (w := W) ⟨Below.refl _ _, hS⟩ ?_; refine (exec_eqsM rfl ?_ ?_ (by kernel_rfl) (HEQ.out W)).trans ?_ <;> rfl
    simp only [List.setIfInBounds_toArray, List.set_cons_zero, List.set_cons_succ]
    refine extS_take (i := 17) (d := 73) (v := ?_) rfl rfl (by kernel_rfl) (by kernel_rfl) (by kernel_rfl) (fun _ _ _ h => h) (by rfl) (fun W hS => ?_) ?_
    rotate_left
    · skip
      refine gives_value (w := W) ⟨Below.refl _ _, hS⟩ ?_; go_simp; try with_reducible rfl
    simp only [List.setIfInBounds_toArray, List.set_cons_zero, List.set_cons_succ]
    refine extS_done (by kernel_rfl) (fun W20 _ hS20 => ?_) _
    have HS20 := Lib.hid hS20
    clear hS20
    go_wp2
    have hnp := HNP.out
    subst hnp
    go_meet
    case rel => exact HB18.out.trans (HS20.out.mono HB18.out.size)
  case rest =>
  clear HPUT HOP HER HX
  obtain ⟨w9, hw9⟩ : ∃ x, x = wc := ⟨_, rfl⟩
  subst hw9
  have HB9 := Lib.hid hcut
  clear hcut HB4 HB3 HB2
  -- a part and what it was made of
  have HOF : Hid (Calls Tryz.prog 8 #[.agg #[.int .i64 f, .slice ao2 n2 cap2]] w9 fun e w' => ∃ (pt : PT) (yv er : Value), e = .returned (.tuple #[.agg (ptRow pt).toArray, yv, er]) ∧ er = errV (mofC f cs) ∧ Dg pt.2.2.2 ∧ (mofC f cs = 0 → pt = mofP f cs ∧ Owns w' w9.heap.size 5 .u8 yv (fr (sgtext f cs))) ∧ Below w9.heap.size w9 w') := Lib.hid (by
    refine (mof_any f _ cs w9 B2 (HR2.out w9 HB9.out) H8.out (HLD.out w9 HB9.out)).mono ?_
    rintro e w' ⟨hb, ⟨hz, v', rfl, ho⟩ | ⟨hz, rfl⟩⟩
    · exact ⟨mofP f cs, v', .nilIface, rfl, by rw [hz]; rfl, mofP_dg f cs, fun _ => ⟨rfl, ho⟩, hb⟩
    · exact ⟨_, _, _, rfl, rfl, dg_zero, fun hc => absurd hc hz, hb⟩)
  obtain ⟨a0, a1⟩ := HXS.out w9 HB9.out
  go_wp2_with fail
  refine HOF.out.mono ?_
  rintro e w10 ⟨pt, yv, er, rfl, her, hpd, hop, hb10⟩
  have HER := Lib.hid her
  have HOP := Lib.hid hop
  have HPD := Lib.hid hpd
  have HB10 := Lib.hid hb10
  have HPS : Hid ((Tryz.prog.info? 28).map (·.size) = some (ptRow pt).toArray.size) := Lib.hid (by rw [ptRow_size hpd]; exact Tryz.sizePT)
  have HPSS : Hid ((ptRow pt).toArray.size = 35) := Lib.hid (ptRow_size hpd)
  have HPO : Hid ((ptRow pt).toArray.all (·.oneCell') = true) := Lib.hid (all_one (ptRow_one _))
  obtain ⟨AP, hAP⟩ : ∃ A, A = (ptRow pt).toArray := ⟨_, rfl⟩
  rw [← hAP] at HPS HPSS HPO ⊢
  have HAP := Lib.hid hAP
  clear a0 a1 her hop hpd hb10 hAP
  go_wp2_with ((with_reducible show wpList _ _ _ (Oper.mk none _ _ _ _ _ :: _) _ _); go_must (refine wpList_store_new rfl 28 (.tmp 13) (.tmp 77) rfl w10 _ AP rfl rfl _ HPS.out (by rw [HPSS.out]; rfl) HPO.out ?_))
  intro W11 hq11 hb11 hs11
  have HB911 := Lib.hid (HB10.out.trans (hb11.mono HB10.out.size))
  have HB11 := Lib.hid (HB9.out.trans (HB911.out.mono HB9.out.size))
  have HOP11 : Hid (mofC f cs = 0 → pt = mofP f cs ∧ Owns W11 w9.heap.size 5 .u8 yv (fr (sgtext f cs)) ∧ ∀ j, yv.ownBlock = some j → j < w10.heap.size) := Lib.hid fun hz => by
    obtain ⟨e, ho⟩ := HOP.out hz
    exact ⟨e, ho.keep hb11, fun j hj => (ho.lt j hj).2⟩
  obtain ⟨q13, hq13⟩ : ∃ q, q = w10.heap.size := ⟨_, rfl⟩
  rw [← hq13] at hq11 HOP11 ⊢
  have HQ := Lib.hid hq11
  have HQL : Hid (W1.heap.size ≤ q13 ∧ q13 < W11.heap.size) := Lib.hid ⟨by have := HB9.out.size; have := HB10.out.size; omega, by rw [hs11]; omega⟩
  obtain ⟨Y, hY⟩ : ∃ Y, Y = decide (mofC f cs = 0) := ⟨_, rfl⟩
  have HY := Lib.hid hY
  clear hq11 hb11 hs11 hY hq13 HOP
  go_upto_region 12 with fail
  go_cut [81] from 82 (fun bv wx => bv = .bool Y ∧ wx = W11)
  case first =>
    by_cases hz : mofC f cs = 0
    · have h1 : er = .nilIface := by rw [HER.out, hz]; rfl
      have HZ := Lib.hid hz
      subst h1
      clear hz
      go_wp2
      go_meet
      case rel => exact ⟨by rw [HY.out, decide_eq_true HZ.out], rfl⟩
    · have h1 : er = .iface 68 (.int .i64 (mofC f cs : Int)) := by rw [HER.out, errV_pos hz]
      have HZ := Lib.hid hz
      subst h1
      clear hz
      go_wp2
      go_meet
      case rel => exact ⟨by rw [HY.out, decide_eq_false HZ.out], rfl⟩
  case rest =>
  obtain ⟨rfl, hwc⟩ := hcut
  have hwc := hwc.symm
  subst hwc
  go_upto_if 81 with fail
  go_cut [] from 82 (fun wx => Below W1.heap.size W1 wx)
  case first =>
    cases Y
    · go_wp2
      go_meet
      case rel => exact HB11.out
    have hz : mofC f cs = 0 := by simpa using HY.out
    obtain ⟨hpt, ho, hlt⟩ := HOP11.out hz
    obtain ⟨s8, sl⟩ := seg_bytesM (mofC_zero hz).1 H8.out
    have hne : (fr (sgtext f cs)).length ≠ 0 := by rw [fr_length]; have := fsize_ge (sgtext f cs); omega
    obtain ⟨g, cy, rfl, hg9, hlc, hcm⟩ := Owns.blockedM ho hne
    have hgq : g < q13 := hlt g rfl
    obtain ⟨y, hy⟩ : ∃ y, y = fr (sgtext f cs) := ⟨_, rfl⟩
    rw [← hy] at ho s8 sl hne hlc ⊢
    obtain ⟨ny, hny⟩ : ∃ k, k = y.length := ⟨_, rfl⟩
    rw [← hny] at ho hne hlc sl ⊢
    have HG : Hid (W1.heap.size ≤ g ∧ g < q13) := Lib.hid ⟨Nat.le_trans HB9.out.size hg9, hgq⟩
    have HO := Lib.hid ho
    have HS8 := Lib.hid s8
    have HNY := Lib.hid hny
    have HYE := Lib.hid hy
    have HPT := Lib.hid hpt
    have HNE : Hid (0 < ny ∧ ny ≤ 7000) := Lib.hid ⟨by omega, sl⟩
    have HH1 : Hid (Calls Tryz.prog 14 #[.agg AP, .slice (some ⟨g, 0, none⟩) ny cy] W11 fun e w' => ∃ oh ch, e = .returned (.tuple #[.agg #[.int .i64 f, .slice oh n2 ch], .nilIface]) ∧ CellsAt w' (fun j => W11.heap.size ≤ j) (.slice oh n2 ch) cs ∧ Below W11.heap.size W11 w') := Lib.hid (by
      rw [HAP.out]
      refine (mhold_any pt _ y W11 HPD.out ho.reads s8 (by omega) (HLD.out W11 HB11.out)).mono ?_
      rintro e w' ⟨hb, f', cs', c', v', hr, rfl, hc⟩
      have hown := rhold_own hz H8.out
      rw [← hpt, ← hy] at hown
      obtain ⟨rfl, rfl, rfl⟩ := hown.unique hr
      obtain ⟨oh, ch, rfl, _, _, _⟩ := hc.val
      rw [← HN2.out] at hc ⊢
      exact ⟨oh, ch, rfl, hc, hb⟩)
    clear hz hpt ho hlt s8 sl hne hg9 hlc hcm hgq hy hny
    go_wp2_with ((with_reducible show wpList _ _ _ (Oper.mk (some 83) _ _ _ _ _ :: _) _ _); go_must (refine wpList_load_row rfl 28 (.tmp 13) rfl (q13) rfl _ AP _ _ (HQ.out) Tryz.underlying28 rfl HPS.out ?_))
    refine HH1.out.mono ?_
    rintro e w12 ⟨oh, ch, rfl, hch, hb12⟩
    obtain ⟨W13, hW13⟩ : ∃ W, W = w12.alloc (.cells #[.int .i64 f, .slice oh n2 ch] 24) := ⟨_, rfl⟩
    have hb13 : Below w12.heap.size w12 W13 := by rw [hW13]; exact (Below.refl _ _).alloc (Nat.le_refl _) _
    have hx13 : SgB W13 w12.heap.size (.int .i64 f) (.slice oh n2 ch) := by rw [hW13]; exact sgb_new _ _ _
    have HB1113 := Lib.hid (hb12.trans (hb13.mono hb12.size))
    have HB13 := Lib.hid (HB11.out.trans (HB1113.out.mono HB11.out.size))
    have HSS := Lib.hid (sgsame_any f f _ _ cs cs W13 _ _ (hch.old hb13) (HR2.out W13 HB13.out) H8.out H8.out)
    rw [show sgSame f cs f cs = true by unfold sgSame; simp] at HSS
    obtain ⟨j0, j1, _, _⟩ := hx13.x
    obtain ⟨a0, a1⟩ := HXS.out W13 HB13.out
    have HW13 := Lib.hid hW13
    rw [hW13] at j0 j1 a0 a1
    clear hch hb12 hb13 hx13 hW13
    go_wp2_with fail
    rw [← HW13.out]
    refine HSS.out.mono ?_
    rintro e w14 ⟨rfl, hb14⟩
    have HB1114 := Lib.hid (HB1113.out.trans (hb14.mono HB1113.out.size))
    have HB14 := Lib.hid (HB11.out.trans (HB1114.out.mono HB11.out.size))
    have HQ14 := Lib.hid ((HB1114.out.block _ HQL.out.2).trans HQ.out)
    have HO14 := Lib.hid (HO.out.keep HB1114.out)
    obtain ⟨i, hi⟩ : ∃ i, i = ny / 2 := ⟨_, rfl⟩
    have hil : i < y.length := by have := HNY.out; have := HNE.out; omega
    have hcell := HO14.out.cellY HNY.out hil
    have hfr := HO14.out.freeY HNY.out i
    have hx8 : y.getD i 0 < 256 := by
      rw [List.getD_eq_getElem?_getD, List.getElem?_eq_getElem hil]
      exact HS8.out _ (List.getElem_mem hil)
    have hq1 : (ny : Int) / 2 = (i : Int) := by omega
    have hq2 : (i : Int) < (ny : Int) := by have := HNY.out; omega
    have hq3 : (i : Int) ≤ 7000 := by have := HNE.out; omega
    have hxor : Hid (Go.bits .xor .u8 ((y.getD i 0 : Nat) : Int) 1 = ((y.getD i 0 ^^^ 1 : Nat) : Int)) := Lib.hid (u8_xor_nat _ 1 hx8 (by decide))
    have hxl : y.getD i 0 ^^^ 1 < 256 := Nat.xor_lt_two_pow (n := 8) hx8 (by decide)
    have HOS : Hid (Owns (w14.setCell ⟨g, i, none⟩ (.int .u8 ((y.getD i 0 ^^^ 1 : Nat) : Int))) w9.heap.size 5 .u8 (.slice (some ⟨g, 0, none⟩) ny cy) (y.set i (y.getD i 0 ^^^ 1))) := Lib.hid (HO14.out.setY HNY.out i _)
    have HZ8 : Hid (∀ z ∈ y.set i (y.getD i 0 ^^^ 1), z < 256) := Lib.hid (set_byteM HS8.out hxl)
    have HZL : Hid ((y.set i (y.getD i 0 ^^^ 1)).length = ny) := Lib.hid (by rw [List.length_set]; exact HNY.out.symm)
    generalize y.set i (y.getD i 0 ^^^ 1) = z at HOS HZ8 HZL
    generalize y.getD i 0 ^^^ 1 = xx at hxor HOS hxl
    generalize y.getD i 0 = x at hcell hxor hx8
    obtain ⟨W15, hW15⟩ : ∃ W, W = w14.setCell ⟨g, i, none⟩ (.int .u8 ((xx : Nat) : Int)) := ⟨_, rfl⟩
    rw [← hW15] at HOS
    have HB15 : Hid (Below W1.heap.size W1 W15) := Lib.hid (by rw [hW15]; exact HB14.out.setCell HG.out.1 _)
    have HQ15 : Hid (W15.heap[q13]? = some (.cells AP 28 (0, 0))) := Lib.hid (by rw [hW15, heap_setCell_other _ _ _ _ (by have := HG.out; simp; omega)]; exact HQ14.out)
    have HQ15L : Hid (q13 < W15.heap.size) := Lib.hid (Array.getElem?_eq_some_iff.1 HQ15.out).1
    have HH2 := Lib.hid (mhold_any pt _ z W15 HPD.out HOS.out.reads HZ8.out (by have := HZL.out; have := HNE.out; omega) (HLD.out W15 HB15.out))
    rw [← HAP.out] at HH2
    have HW15 := Lib.hid hW15
    clear j0 j1 a0 a1 hb14 hi hil hx8 hxl hW15

    go_wp2_with ((with_reducible show wpList _ _ _ (Oper.mk (some 105) _ _ _ _ _ :: _) _ _); rw [hxor.out, ← HW15.out]; go_must (refine wpList_load_row rfl 28 (.tmp 13) rfl (q13) rfl _ AP _ _ (HQ15.out) Tryz.underlying28 rfl HPS.out ?_))
    refine HH2.out.mono ?_
    rintro e w16 ⟨hb16, f', cs', c', v', hr, rfl, hc16⟩
    obtain ⟨oh', ch', rfl, _, _, _⟩ := hc16.val
    have HR16 := Lib.hid hr
    have HB1516 := Lib.hid hb16
    obtain ⟨er2, her2⟩ : ∃ e, e = errV c' := ⟨_, rfl⟩
    rw [← her2]
    have HER2 := Lib.hid her2
    obtain ⟨W17, hW17⟩ : ∃ W, W = w16.alloc (.cells #[.int .i64 f', .slice oh' cs'.length ch'] 24) := ⟨_, rfl⟩
    have hb17 : Below w16.heap.size w16 W17 := by rw [hW17]; exact (Below.refl _ _).alloc (Nat.le_refl _) _
    have HB1517 := Lib.hid (hb16.trans (hb17.mono hb16.size))
    have HB17 := Lib.hid (HB15.out.trans (HB1517.out.mono HB15.out.size))
    have HW17 := Lib.hid hW17
    obtain ⟨DP, hDP⟩ : ∃ D, D = pt.2.2.2 := ⟨_, rfl⟩
    have hdpl : DP.length = 32 := by rw [hDP]; exact HPD.out.1
    have HIS : Hid (∀ W, Calls Tryz.prog 23 #[er2, .int .i64 11] W fun e w' => e = .returned (.bool (decide (c' = 11))) ∧ W = w') := Lib.hid fun W => by rw [HER2.out]; exact isM_any c' 11 W
    have HPC : Hid (∀ W, Below W17.heap.size W17 W → ∀ j u, (vals .u8 DP)[j]? = some u → W.cell? ⟨q13, 3 + j, none⟩ = some u) := Lib.hid fun W hW => by
      have hb := HB1517.out.trans (hW.mono HB1517.out.size)
      have : PB W q13 pt 28 := by
        have h := (hb.block _ HQ15L.out).trans HQ15.out
        rw [HAP.out] at h
        exact h
      rw [hDP]
      exact this.sum
    have HDL : Hid ((Tryz.prog.info? 26).map (·.size) = some (vals .u8 DP).length) := Lib.hid (by rw [vals_length, hdpl]; exact Tryz.sizeDG)
    have HEQ2 : Hid (∀ W, (binOp .neq 42 (.agg (vals .u8 DP).toArray) (.agg (vals .u8 DP).toArray)).run Tryz.prog W = .ok (.bool false) W) := Lib.hid fun W => by
      rw [neq_dig Tryz.underlying42 DP DP hdpl hdpl W]
      simp
    have HROF : Hid (c' ≠ 11 → ∀ W, Below W17.heap.size W17 W → Calls Tryz.prog 24 #[.slice (some ⟨g, 0, none⟩) ny cy] W fun e w' => e = .returned (.agg (vals .u8 DP).toArray) ∧ Below W.heap.size W w') := Lib.hid fun hc W hW => by
      have hb := HB1517.out.trans (hW.mono HB1517.out.size)
      have hs : shaOf shaK shaH z = DP := by
        rw [hDP]
        exact Classical.byContradiction fun hn => hc (rhold_sum HR16.out hn)
      rw [← hs]
      exact rshaOf_any _ z W (HOS.out.reads.new hb) HZ8.out (by have := HZL.out; have := HNE.out; omega)
    obtain ⟨ncs, hncs⟩ : ∃ n, n = cs'.length := ⟨_, rfl⟩
    rw [← hncs] at HW17 ⊢
    clear hcell hfr hq1 hq2 hq3 hr hc16 hb16 hb17 hW17 hDP hdpl her2 hncs
    go_upto_region 18 with fail
    rw [← HW17.out]
    go_cut [119] from 110 (fun bv wx => bv = .bool false ∧ Below W17.heap.size W17 wx)
    case first =>
      by_cases hc11 : c' = 11
      · have HT : Hid (decide (c' = 11) = true) := Lib.hid (decide_eq_true hc11)
        rw [HT.out] at HIS
        clear hc11
        refine wp_region_extS (fun W => Below W17.heap.size W17 W) (Below.refl _ _).drew (by kernel_rfl) ?_
        refine extS_take (i := 0) (d := 110) (v := ?_) rfl rfl (by kernel_rfl) (by kernel_rfl) (by kernel_rfl) (fun _ _ _ h => h) (by rfl) (fun W hS => ?_) ?_
        rotate_left
        · skip
          refine gives_value (w := W) ⟨Below.refl _ _, hS⟩ ?_; go_simp; try with_reducible rfl
        simp only [List.setIfInBounds_toArray, List.set_cons_zero, List.set_cons_succ]
        refine extS_take (i := 1) (d := 111) (v := ?_) rfl rfl (by kernel_rfl) (by kernel_rfl) (by kernel_rfl) (fun _ _ _ h => h) (by rfl) (fun W hS => ?_) ?_
        rotate_left
        · skip
          go_simp; refine Gives.enter ((HIS.out W).mono ?_); rintro e wn ⟨rfl, rfl⟩; refine ⟨?_, Below.refl _ _, hS⟩; with_reducible rfl
        simp only [List.setIfInBounds_toArray, List.set_cons_zero, List.set_cons_succ]
        refine extS_take (i := 2) (d := 112) (v := ?_) rfl rfl (by kernel_rfl) (by kernel_rfl) (by kernel_rfl) (fun _ _ _ h => h) (by rfl) (fun W hS => ?_) ?_
        rotate_left
        · skip
          refine gives_value (w := W) ⟨Below.refl _ _, hS⟩ ?_; go_simp; try with_reducible rfl
        simp only [List.setIfInBounds_toArray, List.set_cons_zero, List.set_cons_succ]
        refine extS_take (i := 3) (d := 113) (v := ?_) rfl rfl (by kernel_rfl) (by kernel_rfl) (by kernel_rfl) (fun _ _ _ h => h) (by rfl) (fun W hS => ?_) ?_
        rotate_left
        · skip
          refine gives_value (w := W) ⟨Below.refl _ _, hS⟩ ?_; go_simp; try with_reducible rfl
        simp only [List.setIfInBounds_toArray, List.set_cons_zero, List.set_cons_succ]
        refine extS_skip (i := 4) (d := 114) rfl rfl (by kernel_rfl) (by kernel_rfl) (by kernel_rfl) (fun _ _ _ h => h) (by rfl) ?_
        simp only [List.setIfInBounds_toArray, List.set_cons_zero, List.set_cons_succ]
        refine extS_skip (i := 5) (d := 115) rfl rfl (by kernel_rfl) (by kernel_rfl) (by kernel_rfl) (fun _ _ _ h => h) (by rfl) ?_
        simp only [List.setIfInBounds_toArray, List.set_cons_zero, List.set_cons_succ]
        refine extS_skip (i := 6) (d := 116) rfl rfl (by kernel_rfl) (by kernel_rfl) (by kernel_rfl) (fun _ _ _ h => h) (by rfl) ?_
        simp only [List.setIfInBounds_toArray, List.set_cons_zero, List.set_cons_succ]
        refine extS_skip (i := 7) (d := 117) rfl rfl (by kernel_rfl) (by kernel_rfl) (by kernel_rfl) (fun _ _ _ h => h) (by rfl) ?_
        simp only [List.setIfInBounds_toArray, List.set_cons_zero, List.set_cons_succ]
        refine extS_skip (i := 8) (d := 118) rfl rfl (by kernel_rfl) (by kernel_rfl) (by kernel_rfl) (fun _ _ _ h => h) (by rfl) ?_
        simp only [List.setIfInBounds_toArray, List.set_cons_zero, List.set_cons_succ]
        refine extS_take (i := 9) (d := 119) (v := ?_) rfl rfl (by kernel_rfl) (by kernel_rfl) (by kernel_rfl) (fun _ _ _ h => h) (by rfl) (fun W hS => ?_) ?_
        rotate_left
        · skip
          refine gives_value (w := W) ⟨Below.refl _ _, hS⟩ ?_; go_simp; try with_reducible rfl
        simp only [List.setIfInBounds_toArray, List.set_cons_zero, List.set_cons_succ]
        refine extS_done (by kernel_rfl) (fun W20 _ hS20 => ?_) _
        have HS20 := Lib.hid hS20
        clear hS20
        go_wp2
        go_meet
        case rel => exact ⟨rfl, HS20.out⟩
      · have HT : Hid (decide (c' = 11) = false) := Lib.hid (decide_eq_false hc11)
        rw [HT.out] at HIS
        have HROF2 := Lib.hid (HROF.out hc11)
        clear hc11
        refine wp_region_extS (fun W => Below W17.heap.size W17 W) (Below.refl _ _).drew (by kernel_rfl) ?_
        refine extS_take (i := 0) (d := 110) (v := ?_) rfl rfl (by kernel_rfl) (by kernel_rfl) (by kernel_rfl) (fun _ _ _ h => h) (by rfl) (fun W hS => ?_) ?_
        rotate_left
        · skip
          refine gives_value (w := W) ⟨Below.refl _ _, hS⟩ ?_; go_simp; try with_reducible rfl
        simp only [List.setIfInBounds_toArray, List.set_cons_zero, List.set_cons_succ]
        refine extS_take (i := 1) (d := 111) (v := ?_) rfl rfl (by kernel_rfl) (by kernel_rfl) (by kernel_rfl) (fun _ _ _ h => h) (by rfl) (fun W hS => ?_) ?_
        rotate_left
        · skip
          go_simp; refine Gives.enter ((HIS.out W).mono ?_); rintro e wn ⟨rfl, rfl⟩; refine ⟨?_, Below.refl _ _, hS⟩; with_reducible rfl
        simp only [List.setIfInBounds_toArray, List.set_cons_zero, List.set_cons_succ]
        refine extS_take (i := 2) (d := 112) (v := ?_) rfl rfl (by kernel_rfl) (by kernel_rfl) (by kernel_rfl) (fun _ _ _ h => h) (by rfl) (fun W hS => ?_) ?_
        rotate_left
        · skip
          refine gives_value (w := W) ⟨Below.refl _ _, hS⟩ ?_; go_simp; try with_reducible rfl
        simp only [List.setIfInBounds_toArray, List.set_cons_zero, List.set_cons_succ]
        refine extS_take (i := 3) (d := 113) (v := ?_) rfl rfl (by kernel_rfl) (by kernel_rfl) (by kernel_rfl) (fun _ _ _ h => h) (by rfl) (fun W hS => ?_) ?_
        rotate_left
        · skip
          refine gives_value (w := W) ⟨Below.refl _ _, hS⟩ ?_; go_simp; try with_reducible rfl
        simp only [List.setIfInBounds_toArray, List.set_cons_zero, List.set_cons_succ]
        refine extS_take (i := 4) (d := 114) (v := ?_) rfl rfl (by kernel_rfl) (by kernel_rfl) (by kernel_rfl) (fun _ _ _ h => h) (by rfl) (fun W hS => ?_) ?_
        rotate_left
        · skip
          refine gives_value (w := W) ⟨Below.refl _ _, hS⟩ ?_; go_simp; try with_reducible rfl
        simp only [List.setIfInBounds_toArray, List.set_cons_zero, List.set_cons_succ]
        refine extS_take (i := 5) (d := 115) (v := ?_) rfl rfl (by kernel_rfl) (by kernel_rfl) (by kernel_rfl) (fun _ _ _ h => h) (by rfl) (fun W hS => ?_) ?_
        rotate_left
        · skip
          go_simp; refine Gives.enter ((HROF2.out W hS).mono ?_); rintro e wn ⟨rfl, hbn⟩; refine ⟨?_, hbn, Below.trans hS (hbn.mono hS.size)⟩; with_reducible rfl
        simp only [List.setIfInBounds_toArray, List.set_cons_zero, List.set_cons_succ]
        refine extS_take (i := 6) (d := 116) (v := ?_) rfl rfl (by kernel_rfl) (by kernel_rfl) (by kernel_rfl) (fun _ _ _ h => h) (by rfl) (fun W hS => ?_) ?_
        rotate_left
        · skip
          refine gives_value (w := W) ⟨Below.refl _ _, hS⟩ ?_; go_simp; try with_reducible rfl
        simp only [List.setIfInBounds_toArray, List.set_cons_zero, List.set_cons_succ]
        refine extS_take (i := 7) (d := 117) (v := .agg (vals .u8 DP).toArray) rfl rfl (by kernel_rfl) (by kernel_rfl) (by kernel_rfl) (fun _ _ _ h => h) (by rfl) (fun W hS => load_gives_at 26 (.tmp 116) rfl q13 3 rfl (vals .u8 DP) _ (HPC.out W hS) Tryz.underlying26 rfl HDL.out ⟨Below.refl _ _, hS⟩) ?_
        simp only [List.setIfInBounds_toArray, List.set_cons_zero, List.set_cons_succ]
        refine extS_take (i := 8) (d := 118) (v := ?_) rfl rfl (by kernel_rfl) (by kernel_rfl) (by kernel_rfl) (fun _ _ _ h => h) (by rfl) (fun W hS => ?_) ?_
        rotate_left
        · skip
          refine gives_value (w := W) ⟨Below.refl _ _, hS⟩ ?_; refine (exec_eqsM rfl ?_ ?_ (by kernel_rfl) (HEQ2.out W)).trans ?_ <;> rfl
        simp only [List.setIfInBounds_toArray, List.set_cons_zero, List.set_cons_succ]
        refine extS_take (i := 9) (d := 119) (v := ?_) rfl rfl (by kernel_rfl) (by kernel_rfl) (by kernel_rfl) (fun _ _ _ h => h) (by rfl) (fun W hS => ?_) ?_
        rotate_left
        · skip
          refine gives_value (w := W) ⟨Below.refl _ _, hS⟩ ?_; go_simp; try with_reducible rfl
        simp only [List.setIfInBounds_toArray, List.set_cons_zero, List.set_cons_succ]
        refine extS_done (by kernel_rfl) (fun W20 _ hS20 => ?_) _
        have HS20 := Lib.hid hS20
        clear hS20
        go_wp2
        go_meet
        case rel => exact ⟨rfl, HS20.out⟩
    case rest =>
    obtain ⟨rfl, hwc⟩ := hcut
    have HWC := Lib.hid hwc
    clear hwc
    go_wp2
    have hny := HNY.out
    subst hny
    have hye := HYE.out
    subst hye
    go_meet
    case rel => exact HB17.out.trans (HWC.out.mono HB17.out.size)
  case rest =>
  clear HOP11 HER HY HQ HPS HPSS HPO HAP HPD
  obtain ⟨w20, hw20⟩ : ∃ x, x = wc := ⟨_, rfl⟩
  subst hw20
  have HB20 := Lib.hid hcut
  clear hcut
  -- Take and Put
  have HT5 := Lib.hid (mtake_any _ b w20 (HR3.out w20 HB20.out) HB8.out (by rw [← HNB.out]; have := HNL.out; omega))
  go_wp2_with fail
  refine HT5.out.mono ?_
  rintro e w21 ⟨hb21, m', c, v', hrm, rfl, hps⟩
  obtain ⟨o6, c6, rfl, _, _, _⟩ := hps.val
  obtain ⟨n6, hn6⟩ : ∃ n, n = m'.ps.length := ⟨_, rfl⟩
  rw [← hn6] at hps ⊢
  have hdm : Dg m'.prev := by
    by_cases hc : c = 0
    · subst hc
      exact (hrm.back HB8.out).2.2.prev
    · rw [hrm.bad hc]; exact dg_zero
  have HDM := Lib.hid hdm
  have HRM := Lib.hid hrm
  have HPS6 := Lib.hid hps
  have HB21 := Lib.hid (HB20.out.trans (hb21.mono HB20.out.size))
  have HM6 : Hid ((Tryz.prog.info? 57).map (·.size) = some (mfRow m' (.slice o6 n6 c6)).toArray.size) := Lib.hid (by rw [mfRow_size hdm]; exact Tryz.sizeMF)
  have HM6S : Hid ((mfRow m' (.slice o6 n6 c6)).toArray.size = 37) := Lib.hid (mfRow_size hdm)
  have HM6O : Hid ((mfRow m' (.slice o6 n6 c6)).toArray.all (·.oneCell') = true) := Lib.hid (all_one (mfRow_one _ rfl))
  obtain ⟨A6, hA6⟩ : ∃ A, A = (mfRow m' (.slice o6 n6 c6)).toArray := ⟨_, rfl⟩
  rw [← hA6] at HM6 HM6S HM6O ⊢
  have HA6 := Lib.hid hA6
  obtain ⟨er, her⟩ : ∃ e, e = errV c := ⟨_, rfl⟩
  rw [← her]
  have HER := Lib.hid her
  clear hb21 hrm hps hn6 hdm hA6 her
  go_wp2_with ((with_reducible show wpList _ _ _ (Oper.mk none _ _ _ _ _ :: _) _ _); go_must (refine wpList_store_new rfl 57 (.tmp 20) (.tmp 123) rfl w21 _ A6 rfl rfl _ HM6.out (by rw [HM6S.out]; rfl) HM6O.out ?_))
  intro W22 hq22 hb22 hs22
  have HB22 := Lib.hid (HB21.out.trans (hb22.mono HB21.out.size))
  have HPS22 := Lib.hid (HPS6.out.old hb22)
  obtain ⟨q, hq⟩ : ∃ q, q = w21.heap.size := ⟨_, rfl⟩
  rw [← hq] at hq22 ⊢
  have HQ22 := Lib.hid hq22
  clear hq22 hb22 hs22 hq
  by_cases hc : c = 0
  · subst hc
    have h1 : er = .nilIface := HER.out
    subst h1
    obtain ⟨hbe, hz, hok⟩ := HRM.out.back HB8.out
    have HPU : Hid (Calls Tryz.prog 17 #[.agg A6] W22 fun e w' => ∃ op cp, e = .returned (.tuple #[.slice op nb cp, .nilIface]) ∧ Owns w' W22.heap.size 5 .u8 (.slice op nb cp) b ∧ Below W22.heap.size W22 w') := Lib.hid (by
      rw [HA6.out]
      refine (mput_any m' _ W22 _ HPS22.out HDM.out).mono ?_
      rintro e w' ⟨hb, ⟨_, v', rfl, ho⟩ | ⟨hz', _⟩⟩
      · rw [← hbe] at ho
        obtain ⟨op, cp, rfl⟩ := ho.form2Q
        rw [← HNB.out] at ho ⊢
        exact ⟨op, cp, rfl, ho, hb⟩
      · exact absurd hz hz')
    clear hbe hz hok
    go_wp2_with ((with_reducible show wpList _ _ _ (Oper.mk (some 131) _ _ _ _ _ :: _) _ _); go_must (refine wpList_load_row rfl 57 (.tmp 20) rfl (q) rfl _ A6 _ _ (HQ22.out) Tryz.underlying57 rfl HM6.out ?_))
    refine HPU.out.mono ?_
    rintro e w23 ⟨op, cp, rfl, ho, hb23⟩
    have HB23 := Lib.hid (HB22.out.trans (hb23.mono HB22.out.size))
    have HNBY := Lib.hid (numBytes_any _ _ b b w23 ho.reads (HR3.out w23 HB23.out) HB8.out HB8.out)
    rw [decide_eq_true rfl] at HNBY
    clear ho hb23
    go_wp2_with fail
    refine HNBY.out.mono ?_
    rintro e w24 ⟨rfl, rfl⟩
    go_wp2
    go_ret
    exact ⟨rfl, HB1.out.trans (HB23.out.mono HB1.out.size)⟩
  · have hm0 := HRM.out.bad hc
    have h1 : er = .iface 68 (.int .i64 (c : Int)) := by rw [HER.out, errV_pos hc]
    subst h1
    have HSM : Hid (Calls Tryz.prog 20 #[.agg A6, .agg #[.int .i64 0, .int .i64 0, .int .i64 0, .int .i64 0, .int .u8 0, .int .u8 0, .int .u8 0, .int .u8 0, .int .u8 0, .int .u8 0, .int .u8 0, .int .u8 0, .int .u8 0, .int .u8 0, .int .u8 0, .int .u8 0, .int .u8 0, .int .u8 0, .int .u8 0, .int .u8 0, .int .u8 0, .int .u8 0, .int .u8 0, .int .u8 0, .int .u8 0, .int .u8 0, .int .u8 0, .int .u8 0, .int .u8 0, .int .u8 0, .int .u8 0, .int .u8 0, .int .u8 0, .int .u8 0, .int .u8 0, .int .u8 0, .slice none 0 0]] W22 fun e w' => e = .returned (.bool true) ∧ Below W22.heap.size W22 w') := Lib.hid (by
      rw [HA6.out, ← mf0_cells]
      have := msame_any m' mf0 _ _ W22 _ _ HPS22.out (ps_nil W22 (fun _ => True)) HDM.out dg_zero
      rw [show sameM m' mf0 = true by rw [hm0]; exact sameM_self _] at this
      exact this)
    clear hc hm0
    go_wp2_with ((with_reducible show wpList _ _ _ (Oper.mk (some 127) _ _ _ _ _ :: _) _ _); go_must (refine wpList_load_row rfl 57 (.tmp 20) rfl (q) rfl _ A6 _ _ (HQ22.out) Tryz.underlying57 rfl HM6.out ?_))
    refine HSM.out.mono ?_
    rintro e w24 ⟨rfl, hb24⟩
    have HB24 := Lib.hid (HB22.out.trans (hb24.mono HB22.out.size))
    clear hb24
    go_wp2
    go_ret
    exact ⟨rfl, HB1.out.trans (HB24.out.mono HB1.out.size)⟩

end Go.Proofs.YtpebmmhokigglaaGreatDoor
