/- ManifestTakes' walk. -/
import Derived.Test.YtpebmmhokigglaaMfL
import Derived.Test.YtpebmmhokigglaaMfN
import Derived.Test.YtpebmmhokigglaaMfP
import Derived.Test.YtpebmmhokigglaaMfE
namespace Go.Proofs.Ytpebmmhokigglaa
open Go.RowKit

theorem rman_ok {b : List Nat} {m : MF} {c : Nat} (h8 : ∀ y ∈ b, y < 256) (h : RMan b m c) : MOk m ∧ m.ps.length ≤ 1024 := by
  by_cases hc : c = 0
  · subst hc
    obtain ⟨_, h2, h3⟩ := h.back h8
    exact ⟨h3, (mchk_zero h2).2.2.2.1⟩
  · rw [h.bad hc]
    exact ⟨mok_zero, by simp [mf0]⟩
theorem Try.info_u8T : (Try.prog.info? 5).map (fun i => (i.zero, i.size, i.bytes)) = some (some (.int .u8 0), 1, 1) := by kernel_rfl

set_option maxHeartbeats 16000000 in
set_option maxRecDepth 100000 in
theorem manifestTakes_walk (v : Value) (b : List Nat) (m1 m2 : MF) (v1 v2 : Value) (w : World) (B1 B2 : Nat → Prop) (hr : Reads w .u8 v b) (h8 : ∀ y ∈ b, y < 256) (h1 : PsAt w B1 v1 m1.ps) (h2 : PsAt w B2 v2 m2.ps) (d1 : Dg m1.prev) (d2 : Dg m2.prev) :
    Calls Try.prog 3 #[v, .agg (mfRow m1 v1).toArray, .agg (mfRow m2 v2).toArray] w fun e w' => e = .returned (.bool true) ∧ Below w.heap.size w w' := by
  obtain ⟨ao, cap, hv, _, _, _⟩ := hr.val
  obtain ⟨ao1, cap1, rfl, _, _, _⟩ := h1.val
  obtain ⟨ao2, cap2, rfl, _, _, _⟩ := h2.val
  obtain ⟨nb, hnb⟩ : ∃ n, n = b.length := ⟨_, rfl⟩
  obtain ⟨n1, hn1⟩ : ∃ n, n = m1.ps.length := ⟨_, rfl⟩
  obtain ⟨n2, hn2⟩ : ∃ n, n = m2.ps.length := ⟨_, rfl⟩
  rw [← hnb] at hv
  rw [← hn1] at h1 ⊢
  rw [← hn2] at h2 ⊢
  subst hv
  obtain ⟨W1, hW1⟩ : ∃ W1, W1 = (w.alloc (.cells (mfRow m1 (.slice ao1 n1 cap1)).toArray 27)).alloc (.cells (mfRow m2 (.slice ao2 n2 cap2)).toArray 27) := ⟨_, rfl⟩
  have hb1 : Below w.heap.size w W1 := by rw [hW1]; exact ((Below.refl _ _).alloc (Nat.le_refl _) _).alloc (by simp) _
  have hx1 : MB W1 w.heap.size m1 (.slice ao1 n1 cap1) 27 := by rw [hW1]; exact (mb_new _ _ _ _).old ((Below.refl _ _).alloc (Nat.le_refl _) _)
  have hy1 : MB W1 (w.heap.size + 1) m2 (.slice ao2 n2 cap2) 27 := by
    have := mb_new (w.alloc (.cells (mfRow m1 (.slice ao1 n1 cap1)).toArray 27)) m2 (.slice ao2 n2 cap2) 27
    rw [hW1]; simpa using this
  have HB1 := Lib.hid hb1
  have HX1 := Lib.hid hx1
  have HY1 := Lib.hid hy1
  have HR1 := Lib.hid (hr.new hb1)
  have HP1 := Lib.hid (h1.old hb1)
  have HP2 := Lib.hid (h2.old hb1)
  have HD1 := Lib.hid d1
  have HD2 := Lib.hid d2
  have H8 := Lib.hid h8
  have HNB := Lib.hid hnb
  have HN1 := Lib.hid hn1
  have HN2 := Lib.hid hn2
  have HAL := Lib.hid (alive15_any W1)
  have HMX : Hid (Try.prog.follows .mixedOrders = true) := Lib.hid (by kernel_rfl)
  have HX36 : Hid (∀ W, Below W1.heap.size W1 W → W.cell? ⟨w.heap.size, 36, none⟩ = some (.slice ao1 n1 cap1) ∧ W.cell? ⟨w.heap.size + 1, 36, none⟩ = some (.slice ao2 n2 cap2)) := Lib.hid fun W hb => by
    obtain ⟨_, _, _, _, e⟩ := (HX1.out.old hb).x HD1.out
    obtain ⟨_, _, _, _, f⟩ := (HY1.out.old hb).x HD2.out
    exact ⟨e, f⟩
  have HS1 : Hid ((Try.prog.info? 27).map (·.size) = some (mfRow m1 (.slice ao1 n1 cap1)).toArray.size) := Lib.hid (by rw [mfRow_size d1]; exact Try.sizeMF)
  have HS2 : Hid ((Try.prog.info? 27).map (·.size) = some (mfRow m2 (.slice ao2 n2 cap2)).toArray.size) := Lib.hid (by rw [mfRow_size d2]; exact Try.sizeMF)
  obtain ⟨A1, hA1⟩ : ∃ A, A = (mfRow m1 (.slice ao1 n1 cap1)).toArray := ⟨_, rfl⟩
  obtain ⟨A2, hA2⟩ : ∃ A, A = (mfRow m2 (.slice ao2 n2 cap2)).toArray := ⟨_, rfl⟩
  rw [← hA1] at HS1
  rw [← hA2] at HS2
  rw [← hA1, ← hA2] at hW1 ⊢
  have HA1 := Lib.hid hA1
  have HA2 := Lib.hid hA2
  have HW1 := Lib.hid hW1
  clear hr h8 h1 h2 d1 d2 hnb hn1 hn2 hb1 hx1 hy1 hA1 hA2 hW1
  go_enter Try.func3, Try.ntmps3
  go_wp2_with fail
  rw [← HW1.out]
  refine HAL.out.mono ?_
  rintro r w2 ⟨rfl, hb2⟩
  have HBL2 := Lib.hid hb2
  have HB2 : Hid (Below w.heap.size w w2) := Lib.hid (HB1.out.trans (hb2.mono HB1.out.size))
  have HR2 := Lib.hid (HR1.out.new hb2)
  obtain ⟨x36, y36⟩ := HX36.out w2 hb2
  clear hb2
  by_cases g0 : (nb : Int) > 4000
  · go_wp2
    go_ret
    exact ⟨rfl, HB2.out⟩
  by_cases g1 : (n1 : Int) > 60
  · go_wp2
    go_ret
    exact ⟨rfl, HB2.out⟩
  by_cases g2 : (n2 : Int) > 60
  · go_wp2
    go_ret
    exact ⟨rfl, HB2.out⟩
  have HL0 : Hid (nb ≤ 4000) := Lib.hid (by omega)
  have HL1 : Hid (m1.ps.length ≤ 1000000) := Lib.hid (by have := HN1.out; omega)
  have HL2 : Hid (m2.ps.length ≤ 1000000) := Lib.hid (by have := HN2.out; omega)
  obtain ⟨W3, hW3⟩ : ∃ W2, W2 = w2.alloc (.cells #[] 5) := ⟨_, rfl⟩
  have hb3 : Below w2.heap.size w2 W3 := by rw [hW3]; exact (Below.refl _ _).alloc (Nat.le_refl _) _
  have HO3 : Hid (Owns W3 w2.heap.size 5 .u8 (.slice (some ⟨w2.heap.size, 0, none⟩) 0 0) []) := Lib.hid (by rw [hW3]; exact owns_empty w2 _ _ _ (Nat.le_refl _))
  have HR3 := Lib.hid (HR2.out.new hb3)
  have HB3 := Lib.hid hb3
  have HW3 := Lib.hid hW3
  clear hb3 hW3
  go_wp2_with (at_builtin; rw [← HW3.out]; go_must (refine wpList_app _ rfl _ _ 22 rfl w2.heap.size 5 (.int .u8 0) 1 Try.underlying22 Try.info_u8T rfl .u8 _ [] rfl HO3.out _ b rfl HR3.out (by decide) (by have := HL0.out; rw [HNB.out] at this; simp; omega) HB3.out.size ?_))
  clear x36 y36 g0 g1 g2
  intro v4 w4 ho4 hg4
  have ho4 : Owns w4 w2.heap.size 5 .u8 v4 b := ho4
  have hb4 : Below w2.heap.size w2 w4 := HB3.out.grown hg4 HB3.out.size fun j hj => (HO3.out.lt j hj).1
  obtain ⟨ao4, cap4, hv4, _, _, _⟩ := ho4.reads.val
  rw [← HNB.out] at hv4
  subst hv4
  have HO4 := Lib.hid ho4.reads
  have HR4 := Lib.hid (HR2.out.new hb4)
  have HBL4 : Hid (Below W1.heap.size W1 w4) := Lib.hid (HBL2.out.trans (hb4.mono HBL2.out.size))
  have HTK := Lib.hid (mtake_any _ b w4 ho4.reads H8.out (by rw [← HNB.out]; have := HL0.out; omega))
  clear ho4 hg4 hb4
  go_wp2_with fail
  refine HTK.out.mono ?_
  rintro r w5 ⟨hb5, m, c, v5, hrm, rfl, hps5⟩
  obtain ⟨er, her⟩ : ∃ er, er = errV c := ⟨_, rfl⟩
  rw [← her]
  have HNUM : Hid (∀ W, Calls Try.prog 10 #[er] W fun e w' => e = .returned (.int .i64 (c : Int)) ∧ W = w') := Lib.hid fun W => by rw [her]; exact num_any c W
  obtain ⟨hmok, hml⟩ := rman_ok H8.out hrm
  have HMOK := Lib.hid hmok
  have HML : Hid (m.ps.length ≤ 1000000) := Lib.hid (by omega)
  obtain ⟨ao5, cap5, rfl, _, _, _⟩ := hps5.val
  obtain ⟨n5, hn5⟩ : ∃ n, n = m.ps.length := ⟨_, rfl⟩
  rw [← hn5] at hps5 ⊢
  have HN5 := Lib.hid hn5
  have HS5 : Hid ((Try.prog.info? 27).map (·.size) = some (mfRow m (.slice ao5 n5 cap5)).toArray.size) := Lib.hid (by rw [mfRow_size hmok.prev]; exact Try.sizeMF)
  have HS5S : Hid ((mfRow m (.slice ao5 n5 cap5)).toArray.size = 37) := Lib.hid (mfRow_size hmok.prev)
  have HRM := Lib.hid hrm
  have HBL5 : Hid (Below w4.heap.size w4 w5) := Lib.hid hb5
  have HPS5 := Lib.hid hps5
  clear hb5 hrm her hps5 hn5 hmok hml
  go_wp2_with (((with_reducible show wpList _ _ _ (Oper.mk none _ _ _ _ _ :: _) _ _); go_must (refine wpList_store_new rfl 27 (.tmp 8) (.tmp 35) rfl w5 _ (mfRow m (.slice ao5 n5 cap5)).toArray rfl rfl _ HS5.out (by rw [HS5S.out]; rfl) (all_one (mfRow_one _ rfl)) ?_)))
  intro W6 hq6 hb6 hs6
  obtain ⟨q8, hq8⟩ : ∃ q, q = w5.heap.size := ⟨_, rfl⟩
  rw [← hq8] at hq6 ⊢
  have HX6 : Hid (MB W6 q8 m (.slice ao5 n5 cap5) 27) := Lib.hid hq6
  have HB46 : Hid (Below w4.heap.size w4 W6) := Lib.hid (HBL5.out.trans (hb6.mono HBL5.out.size))
  have HPS6 := Lib.hid (HPS5.out.old hb6)
  have HR6 := Lib.hid (HR4.out.new HB46.out)
  have HT9 := Lib.hid (rmtake_any _ b W6 HR6.out H8.out)
  clear hq6 hb6 hs6 hq8
  go_wp2_with fail
  refine HT9.out.mono ?_
  rintro r w7 ⟨hb7, m', c', v7, hrm7, rfl, hps7⟩
  obtain ⟨hmm, hcc⟩ := HRM.out.unique hrm7
  subst hmm hcc
  obtain ⟨ao7, cap7, rfl, _, _, _⟩ := hps7.val
  rw [← HN5.out] at hps7 ⊢
  have HS7 : Hid ((Try.prog.info? 36).map (·.size) = some (mfRow m (.slice ao7 n5 cap7)).toArray.size) := Lib.hid (by rw [mfRow_size HMOK.out.prev]; exact Try.sizeMFD)
  have HS7S : Hid ((mfRow m (.slice ao7 n5 cap7)).toArray.size = 37) := Lib.hid (mfRow_size HMOK.out.prev)
  have HBL7 : Hid (Below W6.heap.size W6 w7) := Lib.hid hb7
  have HPS7 := Lib.hid hps7
  clear hb7 hrm7 hps7
  go_wp2_with (((with_reducible show wpList _ _ _ (Oper.mk none _ _ _ _ _ :: _) _ _); go_must (refine wpList_store_new rfl 36 (.tmp 10) (.tmp 40) rfl w7 _ (mfRow m (.slice ao7 n5 cap7)).toArray rfl rfl _ HS7.out (by rw [HS7S.out]; rfl) (all_one (mfRow_one _ rfl)) ?_)))
  intro W8 hq8 hb8 hs8
  obtain ⟨q10, hq10⟩ : ∃ q, q = w7.heap.size := ⟨_, rfl⟩
  rw [← hq10] at hq8 ⊢
  have HB68 : Hid (Below W6.heap.size W6 W8) := Lib.hid (HBL7.out.trans (hb8.mono HBL7.out.size))
  have HB18 : Hid (Below W1.heap.size W1 W8) := Lib.hid ((HBL4.out.trans (HB46.out.mono HBL4.out.size)).trans (HB68.out.mono (Nat.le_trans HBL4.out.size HB46.out.size)))
  have HBF : Hid (Below w.heap.size w W8) := Lib.hid (HB1.out.trans (HB18.out.mono HB1.out.size))
  have HXX : Hid (∀ W, Below W8.heap.size W8 W → (W.heap[w.heap.size]? = some (.cells A1 27 (0, 0)) ∧ W.heap[w.heap.size + 1]? = some (.cells A2 27 (0, 0))) ∧ W.heap[q8]? = some (.cells (mfRow m (.slice ao5 n5 cap5)).toArray 27 (0, 0)) ∧ W.heap[q10]? = some (.cells (mfRow m (.slice ao7 n5 cap7)).toArray 36 (0, 0))) := Lib.hid fun W hb => by
    have hq8m : MB W8 q10 m (.slice ao7 n5 cap7) 36 := hq8
    exact ⟨⟨by rw [HA1.out]; exact (HX1.out.old HB18.out).old hb, by rw [HA2.out]; exact (HY1.out.old HB18.out).old hb⟩, (HX6.out.old HB68.out).old hb, hq8m.old hb⟩
  have HPA : Hid (∀ W, Below W8.heap.size W8 W → PsAt W B1 (.slice ao1 n1 cap1) m1.ps) := Lib.hid fun W hb => (HP1.out.old HB18.out).old hb
  have HPB : Hid (∀ W, Below W8.heap.size W8 W → PsAt W B2 (.slice ao2 n2 cap2) m2.ps) := Lib.hid fun W hb => (HP2.out.old HB18.out).old hb
  have HPM : Hid (∀ W, Below W8.heap.size W8 W → PsAt W _ (.slice ao5 n5 cap5) m.ps) := Lib.hid fun W hb => (HPS6.out.old HB68.out).old hb
  have HPW : Hid (∀ W, Below W8.heap.size W8 W → PsAt W _ (.slice ao7 n5 cap7) m.ps) := Lib.hid fun W hb => (HPS7.out.old hb8).old hb
  have HDM : Hid (∀ W, Below W8.heap.size W8 W → Calls Try.prog 9 #[.agg (mfRow m (.slice ao5 n5 cap5)).toArray] W fun e w' => ∃ o c, e = .returned (.agg (mfRow m (.slice o n5 c)).toArray) ∧ PsAt w' (fun j => W.heap.size ≤ j) (.slice o n5 c) m.ps ∧ Below W.heap.size W w') := Lib.hid fun W hb => by
    have := document15_any m _ W _ (HPM.out W hb) HMOK.out.prev HML.out
    rw [← HN5.out] at this
    exact this
  have HDA : Hid (∀ W, Below W8.heap.size W8 W → Calls Try.prog 9 #[.agg A1] W fun e w' => ∃ o c, e = .returned (.agg (mfRow m1 (.slice o n1 c)).toArray) ∧ PsAt w' (fun j => W.heap.size ≤ j) (.slice o n1 c) m1.ps ∧ Below W.heap.size W w') := Lib.hid fun W hb => by
    have := document15_any m1 _ W _ (HPA.out W hb) HD1.out HL1.out
    rw [← HN1.out] at this
    rw [HA1.out]
    exact this
  have HDB : Hid (∀ W, Below W8.heap.size W8 W → Calls Try.prog 9 #[.agg A2] W fun e w' => ∃ o c, e = .returned (.agg (mfRow m2 (.slice o n2 c)).toArray) ∧ PsAt w' (fun j => W.heap.size ≤ j) (.slice o n2 c) m2.ps ∧ Below W.heap.size W w') := Lib.hid fun W hb => by
    have := document15_any m2 _ W _ (HPB.out W hb) HD2.out HL2.out
    rw [← HN2.out] at this
    rw [HA2.out]
    exact this
  have HSA : Hid (∀ W, Below W8.heap.size W8 W → Calls Try.prog 12 #[.agg A1, .agg A2] W fun e w' => e = .returned (.bool (sameM m1 m2)) ∧ Below W.heap.size W w') := Lib.hid fun W hb => by
    rw [HA1.out, HA2.out]
    exact msame_any m1 m2 _ _ W _ _ (HPA.out W hb) (HPB.out W hb) HD1.out HD2.out
  have HBY : Hid (∀ W, Below W8.heap.size W8 W → Calls Try.prog 11 #[.slice ao4 nb cap4, .slice ao nb cap] W fun e w' => e = .returned (.bool true) ∧ W = w') := Lib.hid fun W hb => by
    have h1 := (HO4.out.new HB46.out).new HB68.out
    have h2 := HR6.out.new HB68.out
    have := numBytes_any _ _ b b W (h1.new hb) (h2.new hb) H8.out H8.out
    rw [decide_eq_true rfl] at this
    exact this
  obtain ⟨sb, hsb⟩ : ∃ s, s = sameM m1 m2 := ⟨_, rfl⟩
  rw [← hsb] at HSA
  have HSB := Lib.hid hsb
  have hcc : ((c : Int) == (c : Int)) = true := by simp
  have hss : (sb == sb) = true := by simp
  have HSM : Hid (∀ (W : World) (o : Option Addr) (k : Nat) (B' : Nat → Prop), Below W8.heap.size W8 W → PsAt W B' (.slice o n5 k) m.ps → Calls Try.prog 8 #[.agg (mfRow m (.slice o n5 k)).toArray, .agg (mfRow m (.slice ao7 n5 cap7)).toArray] W fun e w' => e = .returned (.bool true) ∧ Below W.heap.size W w') := Lib.hid fun W o k B' hb hp => by
    have := rmsame_any m m _ _ W _ _ hp (HPW.out W hb) HMOK.out.prev HMOK.out.prev
    rw [sameM_self] at this
    exact this
  have HSN : Hid (∀ (W : World) (o o2 : Option Addr) (k k2 : Nat) (B' B'' : Nat → Prop), PsAt W B' (.slice o n1 k) m1.ps → PsAt W B'' (.slice o2 n2 k2) m2.ps → Calls Try.prog 8 #[.agg (mfRow m1 (.slice o n1 k)).toArray, .agg (mfRow m2 (.slice o2 n2 k2)).toArray] W fun e w' => e = .returned (.bool sb) ∧ Below W.heap.size W w') := Lib.hid fun W o o2 k k2 B' B'' hp hp2 => by
    rw [HSB.out]
    exact rmsame_any m1 m2 _ _ W _ _ hp hp2 HD1.out HD2.out
  clear hq8 hb8 hs8 hq10 hsb
  go_upto_region 8 with fail
  refine wp_region_extS (fun W => Below W8.heap.size W8 W) (Below.refl _ _).drew HMX.out ?_
  refine extS_take (i := 0) (d := 42) (v := .agg (mfRow m (.slice ao5 n5 cap5)).toArray) rfl rfl (by kernel_rfl) (by kernel_rfl) (by kernel_rfl) (fun _ _ _ h => h) (by rfl) (fun W hS => load_gives 27 (.tmp 8) rfl (q8) rfl _ (mfRow m (.slice ao5 n5 cap5)).toArray (0, 0) _ ((HXX.out W hS).2.1) Try.underlying27 rfl HS5.out ⟨Below.refl _ _, hS⟩) ?_
  simp only [List.setIfInBounds_toArray, List.set_cons_zero, List.set_cons_succ]
  refine extS_take (i := 2) (d := 44) (v := .agg (mfRow m (.slice ao7 n5 cap7)).toArray) rfl rfl (by kernel_rfl) (by kernel_rfl) (by kernel_rfl) (fun _ _ _ h => h) (by rfl) (fun W hS => load_gives 36 (.tmp 10) rfl (q10) rfl _ (mfRow m (.slice ao7 n5 cap7)).toArray (0, 0) _ ((HXX.out W hS).2.2) Try.underlying36 rfl HS7.out ⟨Below.refl _ _, hS⟩) ?_
  simp only [List.setIfInBounds_toArray, List.set_cons_zero, List.set_cons_succ]
  refine extS_one (i := 1) (by kernel_rfl) rfl (fun W9 hb9 hS9 => ?_)
  intro K hK
  rw [if_pos (by rfl)]
  go_simp
  go_at_call 9
  refine (HDM.out W9 hS9).mono ?_
  rintro e W10 ⟨od, cd, rfl, hpd, hb10⟩
  have hS10 : Below W8.heap.size W8 W10 := hS9.trans (hb10.mono hS9.size)
  have HPD := Lib.hid hpd
  refine hK _ _ hS10 ?_
  clear hK K hpd hb10 hS9 hb9
  refine extS_one (i := 3) (by kernel_rfl) rfl (fun W11 hb11 hS11 => ?_)
  intro K hK
  rw [if_pos (by rfl)]
  go_simp
  go_at_call 8
  refine (HSM.out W11 od cd _ hS11 (HPD.out.old hb11)).mono ?_
  rintro e W12 ⟨rfl, hb12⟩
  have hS12 : Below W8.heap.size W8 W12 := hS11.trans (hb12.mono hS11.size)
  refine hK _ _ hS12 ?_
  clear hK K hb12 hS11 hb11 hS10
  refine extS_take (i := 4) (d := 46) (v := ?_) rfl rfl (by kernel_rfl) (by kernel_rfl) (by kernel_rfl) (fun _ _ _ h => h) (by rfl) (fun W hS => ?_) ?_
  rotate_left
  · skip
    refine gives_value (w := W) ⟨Below.refl _ _, hS⟩ ?_; go_simp; try with_reducible rfl
  simp only [List.setIfInBounds_toArray, List.set_cons_zero, List.set_cons_succ]
  refine extS_take (i := 5) (d := 47) (v := ?_) rfl rfl (by kernel_rfl) (by kernel_rfl) (by kernel_rfl) (fun _ _ _ h => h) (by rfl) (fun W hS => ?_) ?_
  rotate_left
  · skip
    refine gives_value (w := W) ⟨Below.refl _ _, hS⟩ ?_; go_simp; try with_reducible rfl
  simp only [List.setIfInBounds_toArray, List.set_cons_zero, List.set_cons_succ]
  refine extS_take (i := 6) (d := 48) (v := ?_) rfl rfl (by kernel_rfl) (by kernel_rfl) (by kernel_rfl) (fun _ _ _ h => h) (by rfl) (fun W hS => ?_) ?_
  rotate_left
  · skip
    go_simp; refine Gives.enter ((HNUM.out W).mono ?_); rintro e wn ⟨rfl, rfl⟩; refine ⟨?_, Below.refl _ _, hS⟩; with_reducible rfl
  simp only [List.setIfInBounds_toArray, List.set_cons_zero, List.set_cons_succ]
  refine extS_take (i := 7) (d := 49) (v := ?_) rfl rfl (by kernel_rfl) (by kernel_rfl) (by kernel_rfl) (fun _ _ _ h => h) (by rfl) (fun W hS => ?_) ?_
  rotate_left
  · skip
    refine gives_value (w := W) ⟨Below.refl _ _, hS⟩ ?_; go_simp; try with_reducible rfl
  simp only [List.setIfInBounds_toArray, List.set_cons_zero, List.set_cons_succ]
  refine extS_take (i := 8) (d := 50) (v := ?_) rfl rfl (by kernel_rfl) (by kernel_rfl) (by kernel_rfl) (fun _ _ _ h => h) (by rfl) (fun W hS => ?_) ?_
  rotate_left
  · skip
    refine gives_value (w := W) ⟨Below.refl _ _, hS⟩ ?_; go_simp; try with_reducible rfl
  simp only [List.setIfInBounds_toArray, List.set_cons_zero, List.set_cons_succ]
  refine extS_take (i := 9) (d := 51) (v := ?_) rfl rfl (by kernel_rfl) (by kernel_rfl) (by kernel_rfl) (fun _ _ _ h => h) (by rfl) (fun W hS => ?_) ?_
  rotate_left
  · skip
    refine gives_value (w := W) ⟨Below.refl _ _, hS⟩ ?_; go_simp; try with_reducible rfl
  simp only [List.setIfInBounds_toArray, List.set_cons_zero, List.set_cons_succ]
  refine extS_take (i := 10) (d := 52) (v := ?_) rfl rfl (by kernel_rfl) (by kernel_rfl) (by kernel_rfl) (fun _ _ _ h => h) (by rfl) (fun W hS => ?_) ?_
  rotate_left
  · skip
    refine gives_value (w := W) ⟨Below.refl _ _, hS⟩ ?_; go_simp; try with_reducible rfl
  simp only [List.setIfInBounds_toArray, List.set_cons_zero, List.set_cons_succ]
  refine extS_take (i := 11) (d := 53) (v := ?_) rfl rfl (by kernel_rfl) (by kernel_rfl) (by kernel_rfl) (fun _ _ _ h => h) (by rfl) (fun W hS => ?_) ?_
  rotate_left
  · skip
    refine gives_value (w := W) ⟨Below.refl _ _, hS⟩ ?_; go_simp; try with_reducible rfl
  simp only [List.setIfInBounds_toArray, List.set_cons_zero, List.set_cons_succ]
  refine extS_take (i := 12) (d := 54) (v := ?_) rfl rfl (by kernel_rfl) (by kernel_rfl) (by kernel_rfl) (fun _ _ _ h => h) (by rfl) (fun W hS => ?_) ?_
  rotate_left
  · skip
    refine gives_value (w := W) ⟨Below.refl _ _, hS⟩ ?_; go_simp; try with_reducible rfl
  simp only [List.setIfInBounds_toArray, List.set_cons_zero, List.set_cons_succ]
  refine extS_take (i := 13) (d := 55) (v := ?_) rfl rfl (by kernel_rfl) (by kernel_rfl) (by kernel_rfl) (fun _ _ _ h => h) (by rfl) (fun W hS => ?_) ?_
  rotate_left
  · skip
    go_simp; refine Gives.enter ((HBY.out W hS).mono ?_); rintro e wn ⟨rfl, rfl⟩; refine ⟨?_, Below.refl _ _, hS⟩; with_reducible rfl
  simp only [List.setIfInBounds_toArray, List.set_cons_zero, List.set_cons_succ]
  refine extS_take (i := 14) (d := 56) (v := ?_) rfl rfl (by kernel_rfl) (by kernel_rfl) (by kernel_rfl) (fun _ _ _ h => h) (by rfl) (fun W hS => ?_) ?_
  rotate_left
  · skip
    refine gives_value (w := W) ⟨Below.refl _ _, hS⟩ ?_; go_simp; try with_reducible rfl
  simp only [List.setIfInBounds_toArray, List.set_cons_zero, List.set_cons_succ]
  refine extS_take (i := 15) (d := 57) (v := ?_) rfl rfl (by kernel_rfl) (by kernel_rfl) (by kernel_rfl) (fun _ _ _ h => h) (by rfl) (fun W hS => ?_) ?_
  rotate_left
  · skip
    refine gives_value (w := W) ⟨Below.refl _ _, hS⟩ ?_; go_simp; try with_reducible rfl
  simp only [List.setIfInBounds_toArray, List.set_cons_zero, List.set_cons_succ]
  refine extS_take (i := 16) (d := 58) (v := .agg A1) rfl rfl (by kernel_rfl) (by kernel_rfl) (by kernel_rfl) (fun _ _ _ h => h) (by rfl) (fun W hS => load_gives 27 (.tmp 4) rfl (w.heap.size) rfl _ A1 (0, 0) _ ((HXX.out W hS).1.1) Try.underlying27 rfl HS1.out ⟨Below.refl _ _, hS⟩) ?_
  simp only [List.setIfInBounds_toArray, List.set_cons_zero, List.set_cons_succ]
  refine extS_take (i := 17) (d := 59) (v := .agg A2) rfl rfl (by kernel_rfl) (by kernel_rfl) (by kernel_rfl) (fun _ _ _ h => h) (by rfl) (fun W hS => load_gives 27 (.tmp 5) rfl (w.heap.size + 1) rfl _ A2 (0, 0) _ ((HXX.out W hS).1.2) Try.underlying27 rfl HS2.out ⟨Below.refl _ _, hS⟩) ?_
  simp only [List.setIfInBounds_toArray, List.set_cons_zero, List.set_cons_succ]
  refine extS_take (i := 18) (d := 60) (v := ?_) rfl rfl (by kernel_rfl) (by kernel_rfl) (by kernel_rfl) (fun _ _ _ h => h) (by rfl) (fun W hS => ?_) ?_
  rotate_left
  · skip
    go_simp; refine Gives.enter ((HSA.out W hS).mono ?_); rintro e wn ⟨rfl, hbn⟩; refine ⟨?_, hbn, Below.trans hS (hbn.mono hS.size)⟩; with_reducible rfl
  simp only [List.setIfInBounds_toArray, List.set_cons_zero, List.set_cons_succ]
  refine extS_take (i := 19) (d := 61) (v := .agg A1) rfl rfl (by kernel_rfl) (by kernel_rfl) (by kernel_rfl) (fun _ _ _ h => h) (by rfl) (fun W hS => load_gives 27 (.tmp 4) rfl (w.heap.size) rfl _ A1 (0, 0) _ ((HXX.out W hS).1.1) Try.underlying27 rfl HS1.out ⟨Below.refl _ _, hS⟩) ?_
  simp only [List.setIfInBounds_toArray, List.set_cons_zero, List.set_cons_succ]
  refine extS_take (i := 21) (d := 63) (v := .agg A2) rfl rfl (by kernel_rfl) (by kernel_rfl) (by kernel_rfl) (fun _ _ _ h => h) (by rfl) (fun W hS => load_gives 27 (.tmp 5) rfl (w.heap.size + 1) rfl _ A2 (0, 0) _ ((HXX.out W hS).1.2) Try.underlying27 rfl HS2.out ⟨Below.refl _ _, hS⟩) ?_
  simp only [List.setIfInBounds_toArray, List.set_cons_zero, List.set_cons_succ]
  refine extS_one (i := 20) (by kernel_rfl) rfl (fun Wx hbx hSx => ?_)
  intro K hK
  rw [if_pos (by rfl)]
  go_simp
  go_at_call 9
  refine (HDA.out _ hSx).mono ?_
  rintro e WA ⟨oa, ca, rfl, hpa, hba⟩
  have hSA : Below W8.heap.size W8 WA := hSx.trans (hba.mono hSx.size)
  have HPA1 := Lib.hid hpa
  refine hK _ _ hSA ?_
  clear hK K hpa hba hSx hbx
  refine extS_one (i := 22) (by kernel_rfl) rfl (fun Wx hbx hSx => ?_)
  have HPA2 := Lib.hid (HPA1.out.old hbx)
  intro K hK
  rw [if_pos (by rfl)]
  go_simp
  go_at_call 9
  refine (HDB.out _ hSx).mono ?_
  rintro e WB ⟨ob, cb, rfl, hpb, hbb⟩
  have hSB : Below W8.heap.size W8 WB := hSx.trans (hbb.mono hSx.size)
  have HPDA := Lib.hid (HPA2.out.old hbb)
  have HPDB := Lib.hid hpb
  refine hK _ _ hSB ?_
  clear hK K hpb hbb hSx hbx
  refine extS_one (i := 23) (by kernel_rfl) rfl (fun W17 hb17 hS17 => ?_)
  intro K hK
  rw [if_pos (by rfl)]
  go_simp
  go_at_call 8
  refine (HSN.out W17 oa ob ca cb _ _ (HPDA.out.old hb17) (HPDB.out.old hb17)).mono ?_
  rintro e W18 ⟨rfl, hb18⟩
  have hS18 : Below W8.heap.size W8 W18 := hS17.trans (hb18.mono hS17.size)
  refine hK _ _ hS18 ?_
  clear hK K hb18 hS17 hb17
  refine extS_take (i := 24) (d := 66) (v := ?_) rfl rfl (by kernel_rfl) (by kernel_rfl) (by kernel_rfl) (fun _ _ _ h => h) (by rfl) (fun W hS => ?_) ?_
  rotate_left
  · skip
    refine gives_value (w := W) ⟨Below.refl _ _, hS⟩ ?_; go_simp; try with_reducible rfl
  simp only [List.setIfInBounds_toArray, List.set_cons_zero, List.set_cons_succ]
  refine extS_take (i := 25) (d := 67) (v := ?_) rfl rfl (by kernel_rfl) (by kernel_rfl) (by kernel_rfl) (fun _ _ _ h => h) (by rfl) (fun W hS => ?_) ?_
  rotate_left
  · skip
    refine gives_value (w := W) ⟨Below.refl _ _, hS⟩ ?_; go_simp; try with_reducible rfl
  simp only [List.setIfInBounds_toArray, List.set_cons_zero, List.set_cons_succ]
  refine extS_one (i := 26) (by kernel_rfl) rfl (fun W19 hb19 hS19 => ?_)
  intro K hK
  rw [if_pos (by rfl)]
  go_simp
  refine hK _ _ hS19 ?_
  clear hK K hb19 hS19
  refine extS_done (by kernel_rfl) (fun W20 _ hS20 => ?_) _
  have HS20 := Lib.hid hS20
  clear hS20
  go_wp2
  go_ret
  exact ⟨rfl, HBF.out.trans (HS20.out.mono HBF.out.size)⟩

end Go.Proofs.Ytpebmmhokigglaa
