/- ChainBreaks' walk. -/
import Derived.Test.YtgnalcobcdgnkaaDoorQza
import Derived.Test.YtgnalcobcdgnkaaDoorQx
namespace Go.Proofs.YtgnalcobcdgnkaaDoor
open Go.RowKit

theorem ch_place (a : Int) (n : Nat) (h2 : 2 ≤ n) (h12 : n ≤ 12) : ∃ i : Nat, i + 1 < n ∧ wrap64 ((n : Int) - 1) = (n : Int) - 1 ∧ IntKind.u64.wrap ((n : Int) - 1) = (n : Int) - 1 ∧ (IntKind.u64.wrap a).tmod ((n : Int) - 1) = (i : Int) ∧ wrap64 (i : Int) = (i : Int) ∧ wrap64 ((i : Int) + 1) = (i : Int) + 1 := by
  have h0 : 0 ≤ IntKind.u64.wrap a := by rw [IntKind.wrap_u64]; omega
  have e1 := Int.tmod_nonneg ((n : Int) - 1) h0
  have e2 := Int.tmod_lt_of_pos (IntKind.u64.wrap a) (show (0 : Int) < (n : Int) - 1 by omega)
  generalize (IntKind.u64.wrap a).tmod ((n : Int) - 1) = y at *
  refine ⟨y.toNat, by omega, IntWalk.wrap64_in _ (by omega), by rw [IntKind.wrap_u64]; omega, by omega, IntWalk.wrap64_in _ (by omega), IntWalk.wrap64_in _ (by omega)⟩

set_option maxHeartbeats 16000000 in
set_option maxRecDepth 100000 in
theorem chainBreaks_walk (v : Value) (rs : List MV) (a : Int) (m : MF) (mv : Value) (w : World) (B1 B2 : Nat → Prop) (h : MsAt w B1 v rs) (hm : PsAt w B2 mv m.ps) (hd : Dg m.prev) (hld : Laid w) :
    Calls Tryd.prog 4 #[v, .int .i64 a, .agg (mfRow m mv).toArray] w fun e w' => e = .returned (.bool true) ∧ Below w.heap.size w w' := by
  obtain ⟨ao, cap, rfl, l1, m1, _⟩ := h.val
  obtain ⟨ap, cp, rfl, _, pm1, _⟩ := hm.val
  obtain ⟨n, hn⟩ : ∃ n, n = rs.length := ⟨_, rfl⟩
  obtain ⟨np, hnp⟩ : ∃ n, n = m.ps.length := ⟨_, rfl⟩
  rw [← hn] at h l1 ⊢
  rw [← hnp] at hm ⊢
  obtain ⟨W1, hW1⟩ : ∃ W1, W1 = w.alloc (.cells (mfRow m (.slice ap np cp)).toArray 27) := ⟨_, rfl⟩
  have hb1 : Below w.heap.size w W1 := by rw [hW1]; exact (Below.refl _ _).alloc (Nat.le_refl _) _
  have hx1 : MB W1 w.heap.size m (.slice ap np cp) 27 := by rw [hW1]; exact mb_new _ _ _ _
  have HR : Hid (∀ W, Below W1.heap.size W1 W → MsAt W B1 (.slice ao n cap) rs) := Lib.hid fun W hb => (h.old hb1).old hb
  have HP : Hid (∀ W, Below W1.heap.size W1 W → PsAt W B2 (.slice ap np cp) m.ps) := Lib.hid fun W hb => (hm.old hb1).old hb
  have HLD : Hid (∀ W, Below W1.heap.size W1 W → Laid W) := Lib.hid fun W hb => (hld.next hb1).next hb
  have HX : Hid (∀ W, Below W1.heap.size W1 W → MB W w.heap.size m (.slice ap np cp) 27) := Lib.hid fun W hb => hx1.old hb
  have HD := Lib.hid hd
  have HB1 := Lib.hid hb1
  have HN := Lib.hid hn
  have HNP := Lib.hid hnp
  have HAL := Lib.hid (alive16_any W1 (hld.next hb1))
  have HMX : Hid (Tryd.prog.follows .mixedOrders = true) := Lib.hid (by kernel_rfl)
  have HNC : Hid (n ≤ cap) := Lib.hid l1
  have HOKS : Hid (∀ x ∈ msOf rs, MOk x) := Lib.hid h.mok
  have HOKM : Hid (MOk m) := Lib.hid ⟨hd, hm.2⟩
  have HLT : Hid (w.heap.size < W1.heap.size) := Lib.hid hx1.lt
  have HMA : Hid ((Tryd.prog.info? 27).map (·.size) = some (mfRow m (.slice ap np cp)).toArray.size) := Lib.hid (by rw [mfRow_size hd]; exact Tryd.sizeMF)
  have HSA : Hid ((mfRow m (.slice ap np cp)).toArray.size = 37) := Lib.hid (mfRow_size hd)
  have HOA : Hid ((mfRow m (.slice ap np cp)).toArray.all (·.oneCell') = true) := Lib.hid (all_one (mfRow_one _ rfl))
  have HMV : Hid (mvRow (m, .slice ap np cp) = mfRow m (.slice ap np cp)) := Lib.hid rfl
  obtain ⟨A, hA⟩ : ∃ A, A = (mfRow m (.slice ap np cp)).toArray := ⟨_, rfl⟩
  rw [← hA] at hW1 HMA HSA HOA ⊢
  have HA := Lib.hid hA
  have HXA : Hid (∀ W, Below W1.heap.size W1 W → W.heap[w.heap.size]? = some (.cells A 27 (0, 0))) := Lib.hid fun W hb => by rw [hA]; exact HX.out W hb
  have HW1 := Lib.hid hW1
  clear h hm hd hld hb1 hx1 hA hW1 hn hnp l1 m1 pm1
  go_enter Tryd.func4, Tryd.ntmps4
  go_wp2_with fail
  rw [← HW1.out]
  refine HAL.out.mono ?_
  rintro e w2 ⟨rfl, hb2⟩
  have HB2 := Lib.hid hb2
  have HLG := Lib.hid (long16_any _ rs w2 B1 (HR.out w2 hb2))
  clear hb2
  go_wp2_with fail
  refine HLG.out.mono ?_
  rintro e w3 ⟨z, hz, rfl, hb3⟩
  have HB3 := Lib.hid (HB2.out.trans (hb3.mono HB2.out.size))
  have HBW3 := Lib.hid (HB1.out.trans (HB3.out.mono HB1.out.size))
  obtain ⟨_, _, _, _, x36⟩ := (HX.out w3 HB3.out).x HD.out
  have HZ := Lib.hid hz
  clear hz hb3
  cases z
  rotate_left
  · go_wp2
    go_ret
    exact ⟨rfl, HBW3.out⟩
  have HLEN := Lib.hid (HZ.out rfl)
  by_cases g1 : (np : Int) > 12
  · go_wp2
    go_ret
    exact ⟨rfl, HBW3.out⟩
  by_cases g2 : (n : Int) < 2
  · go_wp2
    go_ret
    exact ⟨rfl, HBW3.out⟩
  have HN2 : Hid (2 ≤ n) := Lib.hid (by omega)
  have HN12 : Hid (n ≤ 12) := Lib.hid (by have := HLEN.out.1; rw [msOf_length, ← HN.out] at this; exact this)
  have HCK := Lib.hid (ccheck_any _ rs w3 B1 (HR.out w3 HB3.out) (HLD.out w3 HB3.out))
  go_wp2_with fail
  refine HCK.out.mono ?_
  rintro e w4 ⟨n0, c0, hcc, rfl, hb4⟩
  have HB4 := Lib.hid (HB3.out.trans (hb4.mono HB3.out.size))
  have HBW4 := Lib.hid (HB1.out.trans (HB4.out.mono HB1.out.size))
  clear hb4 x36
  by_cases hc0 : c0 = 0
  rotate_left
  · rw [errV_pos hc0]
    clear hcc hc0
    go_wp2
    go_ret
    exact ⟨rfl, HBW4.out⟩
  subst hc0
  rw [errV_zero]
  have HCC := Lib.hid hcc
  clear hcc
  obtain ⟨i, hi, hw1, hw2, hw3, hw4, hw5⟩ := ch_place a n HN2.out HN12.out
  have HI := Lib.hid hi
  have HWS := Lib.hid (And.intro hw4 hw5)
  have hltr : i < rs.length := by rw [← HN.out]; omega
  have hrr := HR.out w4 HB4.out
  obtain ⟨b, off, hao, hq, _, hcell⟩ := hrr.at hltr
  subst hao
  have hdg : Dg (mvd rs i).1.prev := hrr.dg i
  have HL1 : Hid ((Tryd.prog.info? 27).map (·.size) = some (mvRow (mvd rs i)).length) := Lib.hid (by rw [mvRow_len hdg]; exact Tryd.sizeMF)
  have HC1 : Hid (∀ W, Below w4.heap.size w4 W → ∀ j u, (mvRow (mvd rs i))[j]? = some u → W.cell? ⟨b, off + i * 37 + j, none⟩ = some u) := Lib.hid fun W hb j u hu => (hb.cell (p := ⟨b, off + i * 37 + j, none⟩) hq).trans (hcell j u hu)
  have HSM : Hid (∀ W, Below w4.heap.size w4 W → Calls Tryd.prog 12 #[.agg (mvRow (mvd rs i)).toArray, .agg A] W fun e w' => e = .returned (.bool (sameM (mvd rs i).1 m)) ∧ Below W.heap.size W w') := Lib.hid fun W hb => by
    rw [HA.out]
    exact msame_any _ _ _ _ W B1 B2 ((hrr.old hb).ps i) (by
      have := HP.out W (HB4.out.trans (hb.mono HB4.out.size))
      exact this) hdg HD.out
  have HXW : Hid (∀ W, Below w4.heap.size w4 W → W.heap[w.heap.size]? = some (.cells A 27 (0, 0))) := Lib.hid fun W hb => HXA.out W (HB4.out.trans (hb.mono HB4.out.size))
  obtain ⟨R1, hR1⟩ : ∃ R, R = mvRow (mvd rs i) := ⟨_, rfl⟩
  rw [← hR1] at HL1 HC1 HSM
  obtain ⟨sm, hsm⟩ : ∃ x, x = sameM (mvd rs i).1 m := ⟨_, rfl⟩
  rw [← hsm] at HSM
  have HS := Lib.hid hsm
  have hii : (i : Int) < (n : Int) := by omega
  clear hrr hq hcell hdg hR1 hsm hltr
  cases sm
  rotate_left
  · skip
    go_upto_region 9 with fail
    refine wp_region_extS (fun W => Below w4.heap.size w4 W) (Below.refl _ _).drew HMX.out ?_
    refine extS_take (i := 0) (d := 43) (v := ?_) rfl rfl (by kernel_rfl) (by kernel_rfl) (by kernel_rfl) (fun _ _ _ h => h) (by rfl) (fun W hS => ?_) ?_
    rotate_left
    · skip
      refine gives_value (w := W) ⟨Below.refl _ _, hS⟩ ?_; go_simp; try with_reducible rfl
    simp only [List.setIfInBounds_toArray, List.set_cons_zero, List.set_cons_succ]
    refine extS_take (i := 1) (d := 44) (v := ?_) rfl rfl (by kernel_rfl) (by kernel_rfl) (by kernel_rfl) (fun _ _ _ h => h) (by rfl) (fun W hS => ?_) ?_
    rotate_left
    · skip
      refine gives_value (w := W) ⟨Below.refl _ _, hS⟩ ?_; go_simp; try with_reducible rfl
    simp only [List.setIfInBounds_toArray, List.set_cons_zero, List.set_cons_succ]
    refine extS_take (i := 2) (d := 45) (v := ?_) rfl rfl (by kernel_rfl) (by kernel_rfl) (by kernel_rfl) (fun _ _ _ h => h) (by rfl) (fun W hS => ?_) ?_
    rotate_left
    · skip
      refine gives_value (w := W) ⟨Below.refl _ _, hS⟩ ?_; go_simp; try with_reducible rfl
    simp only [List.setIfInBounds_toArray, List.set_cons_zero, List.set_cons_succ]
    refine extS_take (i := 3) (d := 46) (v := ?_) rfl rfl (by kernel_rfl) (by kernel_rfl) (by kernel_rfl) (fun _ _ _ h => h) (by rfl) (fun W hS => ?_) ?_
    rotate_left
    · skip
      (refine load_gives_at 27 (.tmp 45) ?_ b (off + i * 37) ?_ R1 _ (HC1.out W hS) Tryd.underlying27 rfl HL1.out ?_ <;> first | rfl | exact ⟨Below.refl _ _, hS⟩)
    simp only [List.setIfInBounds_toArray, List.set_cons_zero, List.set_cons_succ]
    refine extS_take (i := 4) (d := 47) (v := ?_) rfl rfl (by kernel_rfl) (by kernel_rfl) (by kernel_rfl) (fun _ _ _ h => h) (by rfl) (fun W hS => ?_) ?_
    rotate_left
    · skip
      (refine load_gives 27 (.tmp 5) ?_ w.heap.size ?_ _ A (0, 0) _ (HXW.out W hS) Tryd.underlying27 rfl HMA.out ?_ <;> first | rfl | exact ⟨Below.refl _ _, hS⟩)
    simp only [List.setIfInBounds_toArray, List.set_cons_zero, List.set_cons_succ]
    refine extS_take (i := 5) (d := 48) (v := ?_) rfl rfl (by kernel_rfl) (by kernel_rfl) (by kernel_rfl) (fun _ _ _ h => h) (by rfl) (fun W hS => ?_) ?_
    rotate_left
    · skip
      go_simp; refine Gives.enter ((HSM.out W hS).mono ?_); rintro e wn ⟨rfl, hbn⟩; refine ⟨?_, hbn, Below.trans hS (hbn.mono hS.size)⟩; with_reducible rfl
    simp only [List.setIfInBounds_toArray, List.set_cons_zero, List.set_cons_succ]
    refine extS_done (by kernel_rfl) (fun w5 _ hS5 => ?_) _
    have HB5 := Lib.hid (HBW4.out.trans (hS5.mono HBW4.out.size))
    clear hS5
    go_wp2
    go_ret
    exact ⟨rfl, HB5.out⟩
  have HNE : Hid (mfd (msOf rs) i ≠ m) := Lib.hid (by
    unfold mfd
    rw [mvd_fst]
    intro e
    have := HS.out
    rw [e, sameM_self] at this
    cases this)
  go_upto_region 9 with fail
  refine wp_region_extS (fun W => Below w4.heap.size w4 W) (Below.refl _ _).drew HMX.out ?_
  refine extS_take (i := 0) (d := 43) (v := ?_) rfl rfl (by kernel_rfl) (by kernel_rfl) (by kernel_rfl) (fun _ _ _ h => h) (by rfl) (fun W hS => ?_) ?_
  rotate_left
  · skip
    refine gives_value (w := W) ⟨Below.refl _ _, hS⟩ ?_; go_simp; try with_reducible rfl
  simp only [List.setIfInBounds_toArray, List.set_cons_zero, List.set_cons_succ]
  refine extS_take (i := 1) (d := 44) (v := ?_) rfl rfl (by kernel_rfl) (by kernel_rfl) (by kernel_rfl) (fun _ _ _ h => h) (by rfl) (fun W hS => ?_) ?_
  rotate_left
  · skip
    refine gives_value (w := W) ⟨Below.refl _ _, hS⟩ ?_; go_simp; try with_reducible rfl
  simp only [List.setIfInBounds_toArray, List.set_cons_zero, List.set_cons_succ]
  refine extS_take (i := 2) (d := 45) (v := ?_) rfl rfl (by kernel_rfl) (by kernel_rfl) (by kernel_rfl) (fun _ _ _ h => h) (by rfl) (fun W hS => ?_) ?_
  rotate_left
  · skip
    refine gives_value (w := W) ⟨Below.refl _ _, hS⟩ ?_; go_simp; try with_reducible rfl
  simp only [List.setIfInBounds_toArray, List.set_cons_zero, List.set_cons_succ]
  refine extS_take (i := 3) (d := 46) (v := ?_) rfl rfl (by kernel_rfl) (by kernel_rfl) (by kernel_rfl) (fun _ _ _ h => h) (by rfl) (fun W hS => ?_) ?_
  rotate_left
  · skip
    (refine load_gives_at 27 (.tmp 45) ?_ b (off + i * 37) ?_ R1 _ (HC1.out W hS) Tryd.underlying27 rfl HL1.out ?_ <;> first | rfl | exact ⟨Below.refl _ _, hS⟩)
  simp only [List.setIfInBounds_toArray, List.set_cons_zero, List.set_cons_succ]
  refine extS_take (i := 4) (d := 47) (v := ?_) rfl rfl (by kernel_rfl) (by kernel_rfl) (by kernel_rfl) (fun _ _ _ h => h) (by rfl) (fun W hS => ?_) ?_
  rotate_left
  · skip
    (refine load_gives 27 (.tmp 5) ?_ w.heap.size ?_ _ A (0, 0) _ (HXW.out W hS) Tryd.underlying27 rfl HMA.out ?_ <;> first | rfl | exact ⟨Below.refl _ _, hS⟩)
  simp only [List.setIfInBounds_toArray, List.set_cons_zero, List.set_cons_succ]
  refine extS_take (i := 5) (d := 48) (v := ?_) rfl rfl (by kernel_rfl) (by kernel_rfl) (by kernel_rfl) (fun _ _ _ h => h) (by rfl) (fun W hS => ?_) ?_
  rotate_left
  · skip
    go_simp; refine Gives.enter ((HSM.out W hS).mono ?_); rintro e wn ⟨rfl, hbn⟩; refine ⟨?_, hbn, Below.trans hS (hbn.mono hS.size)⟩; with_reducible rfl
  simp only [List.setIfInBounds_toArray, List.set_cons_zero, List.set_cons_succ]
  refine extS_done (by kernel_rfl) (fun w5 _ hS5 => ?_) _
  have HB5 := Lib.hid (HB4.out.trans (hS5.mono HB4.out.size))
  have HR5 := Lib.hid (HR.out w5 HB5.out)
  clear hS5 hw1 hw2 hw3
  obtain ⟨W6, hW6⟩ : ∃ W, W = w5.alloc (.cells #[] 27) := ⟨_, rfl⟩
  have hb6 : Below w5.heap.size w5 W6 := by rw [hW6]; exact (Below.refl _ _).alloc (Nat.le_refl _) _
  have he6 : RecOwn W6 w5.heap.size 27 37 (.slice (some ⟨w5.heap.size, 0, none⟩) 0 0) [] := by rw [hW6]; exact recOwn_empty w5 w5.heap.size 27 37 (Nat.le_refl _)
  have HE6 := Lib.hid he6
  have HR6 := Lib.hid (HR5.out.old hb6)
  have HRW := Lib.hid (ms_rows HR5.out)
  have HB56 := Lib.hid hb6
  have HLN : Hid (([] : List (List Value)).length + (rs.map mvRow).length ≤ maxLen ∧ (([] : List (List Value)).length + (rs.map mvRow).length) * 88 ≤ 140737488355328) := Lib.hid (by rw [List.length_map, ← HN.out]; have := HN12.out; simp [maxLen]; omega)
  have HW6 := Lib.hid hW6
  clear hb6 he6 hW6
  go_wp2_with (at_builtin; rw [← HW6.out]; go_must (refine wpList_appRecs rfl _ _ 22 rfl w5.heap.size 27 (.agg (mfRow mf0 (.slice none 0 0)).toArray) 37 88 Tryd.underlying22 Tryd.infoMF (by kernel_rfl) (by decide) _ _ [] (rs.map mvRow) rfl rfl HE6.out HR6.out.1 HRW.out.1 HRW.out.2 HLN.out.1 HLN.out.2 HB56.out.size ?_))
  intro v7 w7 ho7 hg7
  have hg57 : ∀ j, j < w5.heap.size → w7.heap[j]? = w5.heap[j]? := fun j hj => (hg7.block j (Nat.lt_of_lt_of_le hj HB56.out.size) (by simp [Value.ownBlock]; omega)).trans (HB56.out.block j hj)
  have hmo : MsOwn w7 w5.heap.size 27 v7 rs := HR5.out.copied (by simpa using ho7) (Nat.le_refl _) hg57 (Nat.le_trans HB56.out.size hg7.size)
  have HB57 : Hid (Below w5.heap.size w5 w7) := Lib.hid (HB56.out.grown hg7 HB56.out.size (fun j hj => by simp [Value.ownBlock] at hj; omega))
  have HB7 := Lib.hid (HB5.out.trans (HB57.out.mono HB5.out.size))
  obtain ⟨g, c7, old, rfl, hgb, hc7, hm7, hold, hsz⟩ := hmo.blk (by intro e; have := HN2.out; rw [HN.out, e] at this; simp at this)
  rw [← HN.out] at hmo hc7 hsz ⊢
  have HMO := Lib.hid hmo
  have HGB := Lib.hid hgb
  have HOLD := Lib.hid hold
  have HSZ := Lib.hid hsz
  have HX7 := Lib.hid (HXA.out w7 HB7.out)
  have HIL : Hid (i < rs.length) := Lib.hid (by rw [← HN.out]; omega)
  have HFIT : Hid (i * 37 + A.size ≤ old.size) := Lib.hid (by rw [HSA.out]; omega)
  obtain ⟨new, hnew⟩ : ∃ a : Array Value, a = (old.toList.take (i * 37) ++ A.toList ++ old.toList.drop (i * 37 + A.size)).toArray := ⟨_, rfl⟩
  have HNEW := Lib.hid hnew
  have hci : (i : Int) < (c7 : Int) := by omega
  clear ho7 hg7 hg57 hmo hgb hold hsz hnew
  go_wp2_with (first
    | ((with_reducible show wpList _ _ _ (Oper.mk (some 54) _ _ _ _ _ :: _) _ _); go_must (refine wpList_load_row rfl 27 (.tmp 5) rfl w.heap.size rfl _ A _ _ HX7.out Tryd.underlying27 rfl HMA.out ?_))
    | ((with_reducible show wpList _ _ _ (Oper.mk none _ _ _ _ _ :: _) _ _); go_must (refine wpList_store_part rfl 27 (.tmp 55) (.tmp 54) rfl g (i * 37) A new (by first | rfl | simp) rfl 27 old HOLD.out HMA.out HFIT.out HOA.out HNEW.out.symm ?_)))
  intro W8 hq8 hg8 hs8
  have hms : MsAt W8 (fun _ => True) (.slice (some ⟨g, 0, none⟩) n c7) (rs.set i (m, .slice ap np cp)) := by
    refine HMO.out.put HIL.out HOLD.out (by rw [← HN.out]; exact HSZ.out) HD.out ?_ ?_ hq8 hg8
    · exact ((HP.out w5 HB5.out).mono (C := fun j => j < w5.heap.size) fun j hj _ => hj).keep ⟨HB57.out.size, fun j hj _ => HB57.out.block j hj⟩ |>.mono fun j _ hj e => by have := HGB.out; omega
    · rw [HMV.out, HNEW.out, HSA.out, HA.out]
  have HMS := Lib.hid hms
  have hb8 : Below W1.heap.size W1 W8 := HB7.out.grown hg8 HB7.out.size (fun j hj => by cases hj; exact Nat.le_trans HB5.out.size HGB.out)
  have HB8 := Lib.hid hb8
  have HCK8 := Lib.hid (ccheck_any _ _ W8 _ hms (HLD.out W8 hb8))
  clear hq8 hg8 hs8 hms hb8
  go_wp2_with fail
  refine HCK8.out.mono ?_
  rintro e w9 ⟨n9, c9, hcc9, rfl, hb9⟩
  have HB9 := Lib.hid (HB8.out.trans (hb9.mono HB8.out.size))
  have HBW9 := Lib.hid (HB1.out.trans (HB9.out.mono HB1.out.size))
  have HMS9 := Lib.hid (HMS.out.old hb9)
  rw [msOf_set] at hcc9
  have HCC9 := Lib.hid hcc9
  have HCB := Lib.hid (chain_breaks HCC.out (by rw [msOf_length, ← HN.out]; exact HI.out) HNE.out HOKS.out HOKM.out hcc9)
  clear hcc9 hb9
  by_cases hc9 : c9 = 0
  · subst hc9
    rw [errV_zero]
    have HCO : Hid (Coll (msOf rs) (msOf (rs.set i (m, .slice ap np cp)))) := Lib.hid (by
      rw [msOf_set]
      rcases HCB.out with ⟨_, h⟩ | ⟨h, _⟩
      · exact h
      · exact absurd rfl h)
    have hcol := collides_any _ _ rs (rs.set i (m, .slice ap np cp)) w9 B1 _ (HR.out w9 HB9.out) HMS9.out (by rw [List.length_set]; exact Nat.le_refl _) HCC.out.right (by rw [msOf_set]; exact HCC9.out.right)
    have HCOL := Lib.hid hcol
    clear hcol
    go_wp2_with fail
    refine HCOL.out.mono ?_
    rintro e w10 ⟨z, hz, rfl, hb10⟩
    have hz1 := hz HCO.out
    subst hz1
    have HB10 := Lib.hid (HBW9.out.trans (hb10.mono HBW9.out.size))
    clear hz hb10
    go_wp2
    go_ret
    exact ⟨rfl, HB10.out⟩
  · have hle : n9 ≤ i + 1 := by
      rcases HCB.out with ⟨h, _⟩ | ⟨_, h⟩
      · exact absurd h hc9
      · exact h
    rw [errV_pos hc9]
    have hlei : (n9 : Int) ≤ (i : Int) + 1 := by omega
    have HE : Hid (decide ((n9 : Int) ≤ (i : Int) + 1) = true) := Lib.hid (decide_eq_true hlei)
    have hw5 := HWS.out.2
    clear hc9 hle
    go_wp2
    go_ret
    exact ⟨by first | rfl | (rw [HE.out]; rfl) | simp [hlei], HBW9.out⟩

end Go.Proofs.YtgnalcobcdgnkaaDoor
