/- ChainGrows' walk. -/
import Derived.Test.YtgnalcobcdgnkaaDoorQza
import Derived.Test.YtgnalcobcdgnkaaDoorQx
namespace Go.Proofs.YtgnalcobcdgnkaaDoor
open Go.RowKit

theorem cell_of_rowM {w : World} {g i : Nat} {cs : Array Value} {T : TypeId} (h : w.heap[g]? = some (.cells cs T (0, 0))) : w.cell? ⟨g, i, none⟩ = cs[i]? := by simp [World.cell?, h]

set_option maxHeartbeats 16000000 in
set_option maxRecDepth 100000 in
theorem chainGrows_walk (v : Value) (rs : List MV) (m : MF) (mv : Value) (v2 : Value) (rs2 : List MV) (w : World) (B1 B2 B3 : Nat → Prop) (h : MsAt w B1 v rs) (hm : PsAt w B2 mv m.ps) (hd : Dg m.prev) (h2 : MsAt w B3 v2 rs2) (hld : Laid w) :
    Calls Tryd.prog 3 #[v, .agg (mfRow m mv).toArray, v2] w fun e w' => e = .returned (.bool true) ∧ Below w.heap.size w w' := by
  obtain ⟨ao, cap, rfl, l1, m1, _⟩ := h.val
  obtain ⟨ao2, cap2, rfl, l2, m2, _⟩ := h2.val
  obtain ⟨ap, cp, rfl, _, pm1, _⟩ := hm.val
  obtain ⟨n0, hn⟩ : ∃ n, n = rs.length := ⟨_, rfl⟩
  obtain ⟨n2, hn2⟩ : ∃ n, n = rs2.length := ⟨_, rfl⟩
  obtain ⟨np, hnp⟩ : ∃ n, n = m.ps.length := ⟨_, rfl⟩
  rw [← hn] at h l1 ⊢
  rw [← hn2] at h2 l2 ⊢
  rw [← hnp] at hm ⊢
  obtain ⟨W1, hW1⟩ : ∃ W1, W1 = w.alloc (.cells (mfRow m (.slice ap np cp)).toArray 27) := ⟨_, rfl⟩
  have hb1 : Below w.heap.size w W1 := by rw [hW1]; exact (Below.refl _ _).alloc (Nat.le_refl _) _
  have hx1 : MB W1 w.heap.size m (.slice ap np cp) 27 := by rw [hW1]; exact mb_new _ _ _ _
  have HR : Hid (∀ W, Below W1.heap.size W1 W → MsAt W B1 (.slice ao n0 cap) rs) := Lib.hid fun W hb => (h.old hb1).old hb
  have HR2 : Hid (∀ W, Below W1.heap.size W1 W → MsAt W B3 (.slice ao2 n2 cap2) rs2) := Lib.hid fun W hb => (h2.old hb1).old hb
  have HP : Hid (∀ W, Below W1.heap.size W1 W → PsAt W B2 (.slice ap np cp) m.ps) := Lib.hid fun W hb => (hm.old hb1).old hb
  have HLD : Hid (∀ W, Below W1.heap.size W1 W → Laid W) := Lib.hid fun W hb => (hld.next hb1).next hb
  have HX : Hid (∀ W, Below W1.heap.size W1 W → MB W w.heap.size m (.slice ap np cp) 27) := Lib.hid fun W hb => hx1.old hb
  have HD := Lib.hid hd
  have HB1 := Lib.hid hb1
  have HN := Lib.hid hn
  have HN2 := Lib.hid hn2
  have HNP := Lib.hid hnp
  have HAL := Lib.hid (alive16_any W1 (hld.next hb1))
  have HMX : Hid (Tryd.prog.follows .mixedOrders = true) := Lib.hid (by kernel_rfl)
  have HOK1 : Hid (∀ x ∈ msOf rs, MOk x) := Lib.hid h.mok
  have HOK2 : Hid (∀ x ∈ msOf rs2, MOk x) := Lib.hid h2.mok
  have HRW := Lib.hid (ms_rows h)
  obtain ⟨A, hA⟩ : ∃ A, A = (mfRow m (.slice ap np cp)).toArray := ⟨_, rfl⟩
  rw [← hA] at hW1 ⊢
  have HW1 := Lib.hid hW1
  clear h h2 hm hd hld hb1 hx1 hA hW1 hn hn2 hnp l1 m1 l2 m2 pm1
  go_enter Tryd.func3, Tryd.ntmps3
  go_wp2_with fail
  rw [← HW1.out]
  refine HAL.out.mono ?_
  rintro e w2 ⟨rfl, hb2⟩
  have HB2 := Lib.hid hb2
  have HLG := Lib.hid (long16_any _ rs w2 B1 (HR.out w2 hb2))
  clear hb2
  go_wp2_with fail
  refine HLG.out.mono ?_
  rintro e w3 ⟨z, hz, rfl, hb3⟩
  have HB3 := Lib.hid (HB2.out.trans (hb3.mono HB2.out.size))
  have HBW3 := Lib.hid (HB1.out.trans (HB3.out.mono HB1.out.size))
  have HZ := Lib.hid hz
  clear hz hb3
  cases z
  rotate_left
  · go_wp2
    go_ret
    exact ⟨rfl, HBW3.out⟩
  have HLEN := Lib.hid (HZ.out rfl)
  have HLG2 := Lib.hid (long16_any _ rs2 w3 B3 (HR2.out w3 HB3.out))
  go_wp2_with fail
  refine HLG2.out.mono ?_
  rintro e w4 ⟨z, hz, rfl, hb4⟩
  have HB4 := Lib.hid (HB3.out.trans (hb4.mono HB3.out.size))
  have HBW4 := Lib.hid (HB1.out.trans (HB4.out.mono HB1.out.size))
  have HZ2 := Lib.hid hz
  obtain ⟨_, x1, _, x3, x36⟩ := (HX.out w4 HB4.out).x HD.out
  clear hz hb4
  cases z
  rotate_left
  · go_wp2
    go_ret
    exact ⟨rfl, HBW4.out⟩
  have HLEN2 := Lib.hid (HZ2.out rfl)
  by_cases g1 : (np : Int) > 12
  · go_wp2
    go_ret
    exact ⟨rfl, HBW4.out⟩
  have HN12 : Hid (n0 ≤ 12) := Lib.hid (by have := HLEN.out.1; rw [msOf_length, ← HN.out] at this; exact this)
  have HN22 : Hid (n2 ≤ 12) := Lib.hid (by have := HLEN2.out.1; rw [msOf_length, ← HN2.out] at this; exact this)
  have HNX := Lib.hid (cnext_any _ rs m.fro m.trim _ m.ps w4 B1 B2 (HR.out w4 HB4.out) (HP.out w4 HB4.out) (HLD.out w4 HB4.out))
  go_wp2_with fail
  refine HNX.out.mono ?_
  rintro e w5 ⟨hb5, nn, cn, hcn, hres⟩
  have HB5 := Lib.hid (HB4.out.trans (hb5.mono HB4.out.size))
  have HCN := Lib.hid hcn
  clear x1 x3 x36
  obtain ⟨M, xv, er, rfl, hMd, hxo, hgo⟩ : ∃ (M : MF) (xv er : Value), e = .returned (.tuple #[.agg (mfRow M xv).toArray, er]) ∧ Dg M.prev ∧ (∃ o c, xv = .slice o M.ps.length c) ∧
      ((er = .nilIface ∧ PsAt w5 (fun _ => True) xv M.ps ∧ CChk (msOf rs ++ [M]) ((msOf rs).length + 1) 0) ∨ ∃ k : Nat, k ≠ 0 ∧ er = errV k) := by
    rcases hres with ⟨hz, v', rfl, hp⟩ | ⟨hz, rfl⟩
    · obtain ⟨hc0, hmz, hfo⟩ := nextC_zero hz
      subst hc0
      obtain ⟨o, c, rfl, _, _, _⟩ := hp.val
      exact ⟨_, _, _, rfl, headM_dg _, ⟨o, c, rfl⟩, .inl ⟨rfl, hp.mono fun _ _ _ => trivial, cchk_grow hcn hmz hfo⟩⟩
    · exact ⟨mf0, _, _, rfl, dg_zero, ⟨none, 0, rfl⟩, .inr ⟨_, hz, rfl⟩⟩
  obtain ⟨ox, cx, rfl⟩ := hxo
  obtain ⟨np', hnp'⟩ : ∃ j, j = M.ps.length := ⟨_, rfl⟩
  rw [← hnp'] at hgo ⊢
  have HMD := Lib.hid hMd
  have HGO := Lib.hid hgo
  obtain ⟨R, hR⟩ : ∃ R, R = mfRow M (.slice ox np' cx) := ⟨_, rfl⟩
  rw [← hR]
  have HR37 : Hid (R.length = 37) := Lib.hid (by rw [hR, mfRow_len _ hMd])
  have HR1 : Hid (∀ u ∈ R, u.oneCell' = true) := Lib.hid (by rw [hR]; exact mfRow_one _ rfl)
  have HRR : Hid ([R] = [(M, .slice ox np' cx)].map mvRow) := Lib.hid (by rw [hR]; rfl)
  have HMR : Hid ((Tryd.prog.info? 27).map (·.size) = some R.toArray.size) := Lib.hid (by rw [List.size_toArray, HR37.out]; exact Tryd.sizeMF)
  have HSR : Hid (R.toArray.size = 37) := Lib.hid (by rw [List.size_toArray, HR37.out])
  have HOR : Hid (R.toArray.all (·.oneCell') = true) := Lib.hid (all_one HR1.out)
  have HFP := Lib.hid (fold_put37 HR37.out)
  clear hcn hres hMd hgo hR hb5 hnp'
  go_wp2_with ((with_reducible show wpList _ _ _ (Oper.mk none _ _ _ _ _ :: _) _ _); go_must (refine wpList_store_new rfl 27 (.tmp 7) (.tmp 42) rfl w5 _ R.toArray rfl rfl _ HMR.out (by rw [HSR.out]; rfl) HOR.out ?_))
  intro w6 hq6 hb6 hs6
  have HB56 := Lib.hid hb6
  have HB6 := Lib.hid (HB5.out.trans (hb6.mono HB5.out.size))
  obtain ⟨qx, hqx⟩ : ∃ q, q = w5.heap.size := ⟨_, rfl⟩
  rw [← hqx] at hq6 ⊢
  have HQX : Hid (∀ W, Below w6.heap.size w6 W → W.heap[qx]? = some (.cells R.toArray 27 (0, 0))) := Lib.hid fun W hb => (hb.block _ (by omega)).trans hq6
  clear hq6 hb6 hs6 hqx
  obtain ⟨X, hX⟩ : ∃ X : Bool, (X = true ∧ er = .nilIface ∧ PsAt w5 (fun _ => True) (.slice ox np' cx) M.ps ∧ CChk (msOf rs ++ [M]) ((msOf rs).length + 1) 0) ∨ (X = false ∧ ∃ k : Nat, er = .iface 45 (.int .i64 (k : Int))) := by
    rcases HGO.out with h | ⟨k, hk, h⟩
    · exact ⟨true, .inl ⟨rfl, h⟩⟩
    · exact ⟨false, .inr ⟨rfl, k, by rw [h, errV_pos hk]⟩⟩
  have HX0 := Lib.hid hX
  clear hX HGO
  go_upto_region 6 with fail
  go_cut [45] from 46 (fun bv wx => bv = .bool X ∧ wx = w6)
  case first =>
    rcases HX0.out with ⟨rfl, rfl, _⟩ | ⟨rfl, k, rfl⟩
    · go_wp2
      go_meet
      case rel => exact ⟨rfl, rfl⟩
    · go_wp2
      go_meet
      case rel => exact ⟨rfl, rfl⟩
  case rest =>
  obtain ⟨rfl, hwc⟩ := hcut
  have hwc := hwc.symm
  subst hwc
  go_upto_if 45 with fail
  go_cut [] from 7 (fun wx => Below W1.heap.size W1 wx)
  case first =>
    rcases HX0.out with ⟨rfl, rfl, hpx, hgr⟩ | ⟨rfl, k, rfl⟩
    rotate_left
    · go_wp2
      go_meet
      case rel => exact HB6.out
    have HPX0 := Lib.hid hpx
    have HGR : Hid (∀ {n c : Nat}, CChk (msOf (rs ++ [(M, .slice ox np' cx)])) n c → n = n0 + 1 ∧ c = 0) := Lib.hid fun hc => by
      rw [msOf_app] at hc
      have := hc.unique hgr
      rw [msOf_length, ← HN.out] at this
      exact this
    have HPX : Hid (∀ W, Below w6.heap.size w6 W → PsAt W (fun j => j < w6.heap.size) (.slice ox np' cx) M.ps) := Lib.hid fun W hb => ((hpx.old HB56.out).mono (C := fun j => j < w6.heap.size) fun j hj _ => hj).old hb
    have HR6 : Hid (∀ W, Below w6.heap.size w6 W → MsAt W B1 (.slice ao n0 cap) rs) := Lib.hid fun W hb => HR.out W (HB6.out.trans (hb.mono HB6.out.size))
    have HLD6 : Hid (∀ W, Below w6.heap.size w6 W → Laid W) := Lib.hid fun W hb => HLD.out W (HB6.out.trans (hb.mono HB6.out.size))
    have HLN : Hid (([] : List (List Value)).length + (rs.map mvRow).length ≤ maxLen ∧ (([] : List (List Value)).length + (rs.map mvRow).length) * 88 ≤ 140737488355328) := Lib.hid (by rw [List.length_map, ← HN.out]; have := HN12.out; simp [maxLen]; omega)
    have HLN1 : Hid ((rs.map mvRow).length + 1 ≤ maxLen ∧ ((rs.map mvRow).length + 1) * 88 ≤ 140737488355328) := Lib.hid (by rw [List.length_map, ← HN.out]; have := HN12.out; simp [maxLen]; omega)
    clear hpx hgr
    go_upto_region 7 with fail
    go_cut [9, 10] from 7 (fun nv ev wx => nv = .int .i64 (((n0 + 1 : Nat)) : Int) ∧ ev = .nilIface ∧ Below w6.heap.size w6 wx)
    case first =>
      refine wp_region_extS (fun W => Below w6.heap.size w6 W) (Below.refl _ _).drew HMX.out ?_
      refine extS_take (i := 1) (d := 48) (v := ?_) rfl rfl (by kernel_rfl) (by kernel_rfl) (by kernel_rfl) (fun _ _ _ h => h) (by rfl) (fun W hS => ?_) ?_
      rotate_left
      · skip
        refine gives_value (w := W) ⟨Below.refl _ _, hS⟩ ?_; go_simp; try with_reducible rfl
      simp only [List.setIfInBounds_toArray, List.set_cons_zero, List.set_cons_succ]
      refine extS_take (i := 3) (d := 50) (v := ?_) rfl rfl (by kernel_rfl) (by kernel_rfl) (by kernel_rfl) (fun _ _ _ h => h) (by rfl) (fun W hS => ?_) ?_
      rotate_left
      · skip
        (refine load_gives 27 (.tmp 7) ?_ qx ?_ _ R.toArray (0, 0) _ (HQX.out W hS) Tryd.underlying27 rfl HMR.out ?_ <;> first | rfl | exact ⟨Below.refl _ _, hS⟩)
      simp only [List.setIfInBounds_toArray, List.set_cons_zero, List.set_cons_succ]
      refine extS_two (i := 0) (j := 4) (by kernel_rfl) rfl rfl (fun wa hbwa hSwa => ?_) (fun wa hbwa hSwa => ?_)
      · intro K hK
        rw [if_pos (by rfl)]
        unfold Oper.wp
        go_simp
        refine hK _ _ (hSwa.alloc (hSwa.size) _) ?_
        clear hK K
        obtain ⟨wb, hwb⟩ : ∃ W, W = wa.alloc (.cells #[] 27) := ⟨_, rfl⟩
        have HEM := Lib.hid (show RecOwn wb w6.heap.size 27 37 (.slice (some ⟨wa.heap.size, 0, none⟩) 0 0) [] by rw [hwb]; exact (recOwn_empty wa wa.heap.size 27 37 (Nat.le_refl _)).mono hSwa.size)
        have hTwb : Below w6.heap.size w6 wb := by rw [hwb]; exact hSwa.alloc hSwa.size _
        have hUwb : Below wa.heap.size wa wb := by rw [hwb]; exact (Below.refl _ _).alloc (Nat.le_refl _) _
        rw [← hwb]
        try simp only [List.setIfInBounds_toArray, List.set_cons_zero, List.set_cons_succ]
        refine extS_two (i := 2) (j := 4) (by kernel_rfl) rfl rfl (fun wc hbwc hSwc => ?_) (fun wc hbwc hSwc => ?_)
        · have HEMx := Lib.hid (HEM.out.keep fun j hj => hbwc.block j (HEM.out.block hj).2.1)
          intro K hK
          refine step_appRecs rfl (.tmp 47) (.tmp 48) 22 rfl w6.heap.size 27 (.agg (mfRow mf0 (.slice none 0 0)).toArray) 37 88 Tryd.underlying22 Tryd.infoMF (by kernel_rfl) (by decide) _ _ [] (rs.map mvRow) rfl rfl HEMx.out (HR6.out wc hSwc).1 HRW.out.1 HRW.out.2 HLN.out.1 HLN.out.2 hSwc.size (fun vwd wd howd hgwd => ?_)
          have hTwd : Below w6.heap.size w6 wd := hSwc.grown hgwd hSwc.size (fun j hj => (HEMx.out.block hj).1)
          refine hK _ _ hTwd ?_
          clear hK K
          have HMO := Lib.hid (show MsOwn wd w6.heap.size 27 vwd rs from (HR6.out w6 (Below.refl _ _)).copied (by simpa using howd) (Nat.le_refl _) (fun j hj => hTwd.block j hj) hTwd.size)
          try simp only [List.setIfInBounds_toArray, List.set_cons_zero, List.set_cons_succ]
          refine extS_one (i := 4) (by kernel_rfl) rfl (fun we hbwe hSwe => ?_)
          intro K hK
          rw [if_pos (by rfl)]
          unfold Oper.wp
          have hr37 := HR37.out
          go_simp
          rw [HFP.out]
          refine hK _ _ (hSwe.alloc (hSwe.size) _) ?_
          clear hK K hr37
          obtain ⟨wf, hwf⟩ : ∃ W, W = we.alloc (.cells R.toArray 27) := ⟨_, rfl⟩
          have HXB := Lib.hid (show wf.heap[we.heap.size]? = some (.cells R.toArray 27 (0, 0)) by rw [hwf]; exact heap_alloc_new _ _)
          have hTwf : Below w6.heap.size w6 wf := by rw [hwf]; exact hSwe.alloc hSwe.size _
          have hUwf : Below we.heap.size we wf := by rw [hwf]; exact (Below.refl _ _).alloc (Nat.le_refl _) _
          rw [← hwf]
          try simp only [List.setIfInBounds_toArray, List.set_cons_zero, List.set_cons_succ]
          refine extS_one (i := 5) (by kernel_rfl) rfl (fun wg hbwg hSwg => ?_)
          have HMOx := Lib.hid ((((HMO.out.old hbwe).old hUwf)).old hbwg)
          have HXBx := Lib.hid ((hbwg.block _ (Array.getElem?_eq_some_iff.1 HXB.out).1).trans HXB.out)
          intro K hK
          obtain ⟨ao52, cap52, hv52, _, _, _⟩ := HMOx.out.rows.val
          refine step_appRecM rfl (.tmp 49) (.tmp 51) 22 rfl w6.heap.size 27 (.agg (mfRow mf0 (.slice none 0 0)).toArray) 37 88 Tryd.underlying22 Tryd.infoMF (by kernel_rfl) (by decide) vwd (rs.map mvRow) rfl HMOx.out.rows R HR37.out HR1.out ⟨we.heap.size, 0, none⟩ rfl (fun j u hu => by rw [Addr.add_lit, Nat.zero_add, cell_of_rowM HXBx.out, List.getElem?_toArray]; exact hu) HLN1.out.1 HLN1.out.2 hSwg.size (fun g52 c52 wh howh hgwh hlwh => ?_)
          have hTwh : Below w6.heap.size w6 wh := hSwg.grown hgwh hSwg.size (fun j hj => (HMOx.out.rows.block hj).1)
          refine hK _ _ hTwh ?_
          clear hK K
          have HMP := Lib.hid (show MsOwn wh w6.heap.size 27 (.slice (some ⟨g52, 0, none⟩) (rs.length + 1) c52) (rs ++ [(M, .slice ox np' cx)]) from HMOx.out.app (by
              rw [List.map_append]
              rw [List.length_map] at howh
              rw [HRR.out] at howh
              exact howh) hgwh (by
              rcases hlwh with h | h
              · exact .inl (by rw [h]; rfl)
              · exact .inr (by rw [h]; rfl)) (fun r hr => by
              obtain rfl := List.mem_singleton.1 hr
              exact ⟨(HPX.out wg hSwg).mono fun j _ hj e => by have := (HMOx.out.rows.block e).1; omega, HMD.out⟩))
          rw [List.length_map, ← HN.out]
          try simp only [List.setIfInBounds_toArray, List.set_cons_zero, List.set_cons_succ]
          refine extS_one (i := 6) (by kernel_rfl) rfl (fun wk hbwk hSwk => ?_)
          intro K hK
          go_simp
          refine (ccheck_any _ _ wk _ (by have := (HMP.out.old hbwk).all; rw [← HN.out] at this; exact this) (HLD6.out wk hSwk)).mono ?_
          rintro e wl ⟨nl, cl, hcc, rfl, hbl⟩
          have hSwl := hSwk.trans (hbl.mono hSwk.size)
          obtain ⟨rfl, rfl⟩ := HGR.out hcc
          refine hK _ _ hSwl ?_
          clear hK K hbl hcc
          try simp only [List.setIfInBounds_toArray, List.set_cons_zero, List.set_cons_succ]
          refine extS_take (i := 7) (d := 46) (v := ?_) rfl rfl (by kernel_rfl) (by kernel_rfl) (by kernel_rfl) (fun _ _ _ h => h) (by rfl) (fun W hS => ?_) ?_
          rotate_left
          · skip
            refine gives_value (w := W) ⟨Below.refl _ _, hS⟩ ?_; go_simp; try with_reducible rfl
          simp only [List.setIfInBounds_toArray, List.set_cons_zero, List.set_cons_succ]
          refine extS_take (i := 8) (d := 54) (v := ?_) rfl rfl (by kernel_rfl) (by kernel_rfl) (by kernel_rfl) (fun _ _ _ h => h) (by rfl) (fun W hS => ?_) ?_
          rotate_left
          · skip
            refine gives_value (w := W) ⟨Below.refl _ _, hS⟩ ?_; go_simp; try with_reducible rfl
          simp only [List.setIfInBounds_toArray, List.set_cons_zero, List.set_cons_succ]
          refine extS_take (i := 9) (d := 55) (v := ?_) rfl rfl (by kernel_rfl) (by kernel_rfl) (by kernel_rfl) (fun _ _ _ h => h) (by rfl) (fun W hS => ?_) ?_
          rotate_left
          · skip
            refine gives_value (w := W) ⟨Below.refl _ _, hS⟩ ?_; go_simp; try with_reducible rfl
          simp only [List.setIfInBounds_toArray, List.set_cons_zero, List.set_cons_succ]
          refine extS_take (i := 10) (d := 9) (v := ?_) rfl rfl (by kernel_rfl) (by kernel_rfl) (by kernel_rfl) (fun _ _ _ h => h) (by rfl) (fun W hS => ?_) ?_
          rotate_left
          · skip
            refine gives_value (w := W) ⟨Below.refl _ _, hS⟩ ?_; go_simp; try with_reducible rfl
          simp only [List.setIfInBounds_toArray, List.set_cons_zero, List.set_cons_succ]
          refine extS_take (i := 11) (d := 10) (v := ?_) rfl rfl (by kernel_rfl) (by kernel_rfl) (by kernel_rfl) (fun _ _ _ h => h) (by rfl) (fun W hS => ?_) ?_
          rotate_left
          · skip
            refine gives_value (w := W) ⟨Below.refl _ _, hS⟩ ?_; go_simp; try with_reducible rfl
          simp only [List.setIfInBounds_toArray, List.set_cons_zero, List.set_cons_succ]
          refine extS_done (by kernel_rfl) (fun wm _ hSwm => ?_) _
          have HSM := Lib.hid hSwm
          clear hSwm
          rw [errV_zero]
          go_wp2
          go_meet
          case rel => exact ⟨by first | rfl | (push_cast; rfl), rfl, HSM.out⟩
        · intro K hK
          rw [if_pos (by rfl)]
          unfold Oper.wp
          have hr37 := HR37.out
          go_simp
          rw [HFP.out]
          refine hK _ _ (hSwc.alloc (hSwc.size) _) ?_
          clear hK K hr37
          obtain ⟨wd, hwd⟩ : ∃ W, W = wc.alloc (.cells R.toArray 27) := ⟨_, rfl⟩
          have HXB := Lib.hid (show wd.heap[wc.heap.size]? = some (.cells R.toArray 27 (0, 0)) by rw [hwd]; exact heap_alloc_new _ _)
          have hTwd : Below w6.heap.size w6 wd := by rw [hwd]; exact hSwc.alloc hSwc.size _
          have hUwd : Below wc.heap.size wc wd := by rw [hwd]; exact (Below.refl _ _).alloc (Nat.le_refl _) _
          rw [← hwd]
          try simp only [List.setIfInBounds_toArray, List.set_cons_zero, List.set_cons_succ]
          refine extS_one (i := 2) (by kernel_rfl) rfl (fun we hbwe hSwe => ?_)
          have HEMc := Lib.hid (HEM.out.keep fun j hj => hbwc.block j (HEM.out.block hj).2.1)
          have HEMd := Lib.hid (HEMc.out.keep fun j hj => hUwd.block j (HEMc.out.block hj).2.1)
          have HEMx := Lib.hid (HEMd.out.keep fun j hj => hbwe.block j (HEMd.out.block hj).2.1)
          intro K hK
          refine step_appRecs rfl (.tmp 47) (.tmp 48) 22 rfl w6.heap.size 27 (.agg (mfRow mf0 (.slice none 0 0)).toArray) 37 88 Tryd.underlying22 Tryd.infoMF (by kernel_rfl) (by decide) _ _ [] (rs.map mvRow) rfl rfl HEMx.out (HR6.out we hSwe).1 HRW.out.1 HRW.out.2 HLN.out.1 HLN.out.2 hSwe.size (fun vwf wf howf hgwf => ?_)
          have hTwf : Below w6.heap.size w6 wf := hSwe.grown hgwf hSwe.size (fun j hj => (HEMx.out.block hj).1)
          refine hK _ _ hTwf ?_
          clear hK K
          have HMO := Lib.hid (show MsOwn wf w6.heap.size 27 vwf rs from (HR6.out w6 (Below.refl _ _)).copied (by simpa using howf) (Nat.le_refl _) (fun j hj => hTwf.block j hj) hTwf.size)
          try simp only [List.setIfInBounds_toArray, List.set_cons_zero, List.set_cons_succ]
          refine extS_one (i := 5) (by kernel_rfl) rfl (fun wg hbwg hSwg => ?_)
          have HMOx := Lib.hid (HMO.out.old hbwg)
          have HXBe := Lib.hid ((hbwe.block _ (Array.getElem?_eq_some_iff.1 HXB.out).1).trans HXB.out)
          have HXBf := Lib.hid ((hgwf.block _ (Array.getElem?_eq_some_iff.1 HXBe.out).1 (by intro e; have h1 : wc.heap.size = wa.heap.size := Option.some.inj e; have h2 : wa.heap.size < wb.heap.size := (by rw [hwb]; simp); have h3 := hbwc.size; omega)).trans HXBe.out)
          have HXBx := Lib.hid ((hbwg.block _ (Array.getElem?_eq_some_iff.1 HXBf.out).1).trans HXBf.out)
          intro K hK
          obtain ⟨ao52, cap52, hv52, _, _, _⟩ := HMOx.out.rows.val
          refine step_appRecM rfl (.tmp 49) (.tmp 51) 22 rfl w6.heap.size 27 (.agg (mfRow mf0 (.slice none 0 0)).toArray) 37 88 Tryd.underlying22 Tryd.infoMF (by kernel_rfl) (by decide) vwf (rs.map mvRow) rfl HMOx.out.rows R HR37.out HR1.out ⟨wc.heap.size, 0, none⟩ rfl (fun j u hu => by rw [Addr.add_lit, Nat.zero_add, cell_of_rowM HXBx.out, List.getElem?_toArray]; exact hu) HLN1.out.1 HLN1.out.2 hSwg.size (fun g52 c52 wh howh hgwh hlwh => ?_)
          have hTwh : Below w6.heap.size w6 wh := hSwg.grown hgwh hSwg.size (fun j hj => (HMOx.out.rows.block hj).1)
          refine hK _ _ hTwh ?_
          clear hK K
          have HMP := Lib.hid (show MsOwn wh w6.heap.size 27 (.slice (some ⟨g52, 0, none⟩) (rs.length + 1) c52) (rs ++ [(M, .slice ox np' cx)]) from HMOx.out.app (by
              rw [List.map_append]
              rw [List.length_map] at howh
              rw [HRR.out] at howh
              exact howh) hgwh (by
              rcases hlwh with h | h
              · exact .inl (by rw [h]; rfl)
              · exact .inr (by rw [h]; rfl)) (fun r hr => by
              obtain rfl := List.mem_singleton.1 hr
              exact ⟨(HPX.out wg hSwg).mono fun j _ hj e => by have := (HMOx.out.rows.block e).1; omega, HMD.out⟩))
          rw [List.length_map, ← HN.out]
          try simp only [List.setIfInBounds_toArray, List.set_cons_zero, List.set_cons_succ]
          refine extS_one (i := 6) (by kernel_rfl) rfl (fun wk hbwk hSwk => ?_)
          intro K hK
          go_simp
          refine (ccheck_any _ _ wk _ (by have := (HMP.out.old hbwk).all; rw [← HN.out] at this; exact this) (HLD6.out wk hSwk)).mono ?_
          rintro e wl ⟨nl, cl, hcc, rfl, hbl⟩
          have hSwl := hSwk.trans (hbl.mono hSwk.size)
          obtain ⟨rfl, rfl⟩ := HGR.out hcc
          refine hK _ _ hSwl ?_
          clear hK K hbl hcc
          try simp only [List.setIfInBounds_toArray, List.set_cons_zero, List.set_cons_succ]
          refine extS_take (i := 7) (d := 46) (v := ?_) rfl rfl (by kernel_rfl) (by kernel_rfl) (by kernel_rfl) (fun _ _ _ h => h) (by rfl) (fun W hS => ?_) ?_
          rotate_left
          · skip
            refine gives_value (w := W) ⟨Below.refl _ _, hS⟩ ?_; go_simp; try with_reducible rfl
          simp only [List.setIfInBounds_toArray, List.set_cons_zero, List.set_cons_succ]
          refine extS_take (i := 8) (d := 54) (v := ?_) rfl rfl (by kernel_rfl) (by kernel_rfl) (by kernel_rfl) (fun _ _ _ h => h) (by rfl) (fun W hS => ?_) ?_
          rotate_left
          · skip
            refine gives_value (w := W) ⟨Below.refl _ _, hS⟩ ?_; go_simp; try with_reducible rfl
          simp only [List.setIfInBounds_toArray, List.set_cons_zero, List.set_cons_succ]
          refine extS_take (i := 9) (d := 55) (v := ?_) rfl rfl (by kernel_rfl) (by kernel_rfl) (by kernel_rfl) (fun _ _ _ h => h) (by rfl) (fun W hS => ?_) ?_
          rotate_left
          · skip
            refine gives_value (w := W) ⟨Below.refl _ _, hS⟩ ?_; go_simp; try with_reducible rfl
          simp only [List.setIfInBounds_toArray, List.set_cons_zero, List.set_cons_succ]
          refine extS_take (i := 10) (d := 9) (v := ?_) rfl rfl (by kernel_rfl) (by kernel_rfl) (by kernel_rfl) (fun _ _ _ h => h) (by rfl) (fun W hS => ?_) ?_
          rotate_left
          · skip
            refine gives_value (w := W) ⟨Below.refl _ _, hS⟩ ?_; go_simp; try with_reducible rfl
          simp only [List.setIfInBounds_toArray, List.set_cons_zero, List.set_cons_succ]
          refine extS_take (i := 11) (d := 10) (v := ?_) rfl rfl (by kernel_rfl) (by kernel_rfl) (by kernel_rfl) (fun _ _ _ h => h) (by rfl) (fun W hS => ?_) ?_
          rotate_left
          · skip
            refine gives_value (w := W) ⟨Below.refl _ _, hS⟩ ?_; go_simp; try with_reducible rfl
          simp only [List.setIfInBounds_toArray, List.set_cons_zero, List.set_cons_succ]
          refine extS_done (by kernel_rfl) (fun wm _ hSwm => ?_) _
          have HSM := Lib.hid hSwm
          clear hSwm
          rw [errV_zero]
          go_wp2
          go_meet
          case rel => exact ⟨by first | rfl | (push_cast; rfl), rfl, HSM.out⟩
      · intro K hK
        rw [if_pos (by rfl)]
        unfold Oper.wp
        have hr37 := HR37.out
        go_simp
        rw [HFP.out]
        refine hK _ _ (hSwa.alloc (hSwa.size) _) ?_
        clear hK K hr37
        obtain ⟨wb, hwb⟩ : ∃ W, W = wa.alloc (.cells R.toArray 27) := ⟨_, rfl⟩
        have HXB := Lib.hid (show wb.heap[wa.heap.size]? = some (.cells R.toArray 27 (0, 0)) by rw [hwb]; exact heap_alloc_new _ _)
        have hTwb : Below w6.heap.size w6 wb := by rw [hwb]; exact hSwa.alloc hSwa.size _
        have hUwb : Below wa.heap.size wa wb := by rw [hwb]; exact (Below.refl _ _).alloc (Nat.le_refl _) _
        rw [← hwb]
        try simp only [List.setIfInBounds_toArray, List.set_cons_zero, List.set_cons_succ]
        refine extS_one (i := 0) (by kernel_rfl) rfl (fun wc hbwc hSwc => ?_)
        intro K hK
        rw [if_pos (by rfl)]
        unfold Oper.wp
        go_simp
        refine hK _ _ (hSwc.alloc (hSwc.size) _) ?_
        clear hK K
        obtain ⟨wd, hwd⟩ : ∃ W, W = wc.alloc (.cells #[] 27) := ⟨_, rfl⟩
        have HEM := Lib.hid (show RecOwn wd w6.heap.size 27 37 (.slice (some ⟨wc.heap.size, 0, none⟩) 0 0) [] by rw [hwd]; exact (recOwn_empty wc wc.heap.size 27 37 (Nat.le_refl _)).mono hSwc.size)
        have hTwd : Below w6.heap.size w6 wd := by rw [hwd]; exact hSwc.alloc hSwc.size _
        have hUwd : Below wc.heap.size wc wd := by rw [hwd]; exact (Below.refl _ _).alloc (Nat.le_refl _) _
        rw [← hwd]
        try simp only [List.setIfInBounds_toArray, List.set_cons_zero, List.set_cons_succ]
        refine extS_one (i := 2) (by kernel_rfl) rfl (fun we hbwe hSwe => ?_)
        have HEMx := Lib.hid (HEM.out.keep fun j hj => hbwe.block j (HEM.out.block hj).2.1)
        intro K hK
        refine step_appRecs rfl (.tmp 47) (.tmp 48) 22 rfl w6.heap.size 27 (.agg (mfRow mf0 (.slice none 0 0)).toArray) 37 88 Tryd.underlying22 Tryd.infoMF (by kernel_rfl) (by decide) _ _ [] (rs.map mvRow) rfl rfl HEMx.out (HR6.out we hSwe).1 HRW.out.1 HRW.out.2 HLN.out.1 HLN.out.2 hSwe.size (fun vwf wf howf hgwf => ?_)
        have hTwf : Below w6.heap.size w6 wf := hSwe.grown hgwf hSwe.size (fun j hj => (HEMx.out.block hj).1)
        refine hK _ _ hTwf ?_
        clear hK K
        have HMO := Lib.hid (show MsOwn wf w6.heap.size 27 vwf rs from (HR6.out w6 (Below.refl _ _)).copied (by simpa using howf) (Nat.le_refl _) (fun j hj => hTwf.block j hj) hTwf.size)
        try simp only [List.setIfInBounds_toArray, List.set_cons_zero, List.set_cons_succ]
        refine extS_one (i := 5) (by kernel_rfl) rfl (fun wg hbwg hSwg => ?_)
        have HMOx := Lib.hid (HMO.out.old hbwg)
        have HXBc := Lib.hid ((hbwc.block _ (Array.getElem?_eq_some_iff.1 HXB.out).1).trans HXB.out)
        have HXBd := Lib.hid ((hUwd.block _ (Array.getElem?_eq_some_iff.1 HXBc.out).1).trans HXBc.out)
        have HXBe := Lib.hid ((hbwe.block _ (Array.getElem?_eq_some_iff.1 HXBd.out).1).trans HXBd.out)
        have HXBf := Lib.hid ((hgwf.block _ (Array.getElem?_eq_some_iff.1 HXBe.out).1 (by intro e; have h1 : wa.heap.size = wc.heap.size := Option.some.inj e; have h2 : wa.heap.size < wb.heap.size := (by rw [hwb]; simp); have h3 := hbwc.size; omega)).trans HXBe.out)
        have HXBx := Lib.hid ((hbwg.block _ (Array.getElem?_eq_some_iff.1 HXBf.out).1).trans HXBf.out)
        intro K hK
        obtain ⟨ao52, cap52, hv52, _, _, _⟩ := HMOx.out.rows.val
        refine step_appRecM rfl (.tmp 49) (.tmp 51) 22 rfl w6.heap.size 27 (.agg (mfRow mf0 (.slice none 0 0)).toArray) 37 88 Tryd.underlying22 Tryd.infoMF (by kernel_rfl) (by decide) vwf (rs.map mvRow) rfl HMOx.out.rows R HR37.out HR1.out ⟨wa.heap.size, 0, none⟩ rfl (fun j u hu => by rw [Addr.add_lit, Nat.zero_add, cell_of_rowM HXBx.out, List.getElem?_toArray]; exact hu) HLN1.out.1 HLN1.out.2 hSwg.size (fun g52 c52 wh howh hgwh hlwh => ?_)
        have hTwh : Below w6.heap.size w6 wh := hSwg.grown hgwh hSwg.size (fun j hj => (HMOx.out.rows.block hj).1)
        refine hK _ _ hTwh ?_
        clear hK K
        have HMP := Lib.hid (show MsOwn wh w6.heap.size 27 (.slice (some ⟨g52, 0, none⟩) (rs.length + 1) c52) (rs ++ [(M, .slice ox np' cx)]) from HMOx.out.app (by
            rw [List.map_append]
            rw [List.length_map] at howh
            rw [HRR.out] at howh
            exact howh) hgwh (by
            rcases hlwh with h | h
            · exact .inl (by rw [h]; rfl)
            · exact .inr (by rw [h]; rfl)) (fun r hr => by
            obtain rfl := List.mem_singleton.1 hr
            exact ⟨(HPX.out wg hSwg).mono fun j _ hj e => by have := (HMOx.out.rows.block e).1; omega, HMD.out⟩))
        rw [List.length_map, ← HN.out]
        try simp only [List.setIfInBounds_toArray, List.set_cons_zero, List.set_cons_succ]
        refine extS_one (i := 6) (by kernel_rfl) rfl (fun wk hbwk hSwk => ?_)
        intro K hK
        go_simp
        refine (ccheck_any _ _ wk _ (by have := (HMP.out.old hbwk).all; rw [← HN.out] at this; exact this) (HLD6.out wk hSwk)).mono ?_
        rintro e wl ⟨nl, cl, hcc, rfl, hbl⟩
        have hSwl := hSwk.trans (hbl.mono hSwk.size)
        obtain ⟨rfl, rfl⟩ := HGR.out hcc
        refine hK _ _ hSwl ?_
        clear hK K hbl hcc
        try simp only [List.setIfInBounds_toArray, List.set_cons_zero, List.set_cons_succ]
        refine extS_take (i := 7) (d := 46) (v := ?_) rfl rfl (by kernel_rfl) (by kernel_rfl) (by kernel_rfl) (fun _ _ _ h => h) (by rfl) (fun W hS => ?_) ?_
        rotate_left
        · skip
          refine gives_value (w := W) ⟨Below.refl _ _, hS⟩ ?_; go_simp; try with_reducible rfl
        simp only [List.setIfInBounds_toArray, List.set_cons_zero, List.set_cons_succ]
        refine extS_take (i := 8) (d := 54) (v := ?_) rfl rfl (by kernel_rfl) (by kernel_rfl) (by kernel_rfl) (fun _ _ _ h => h) (by rfl) (fun W hS => ?_) ?_
        rotate_left
        · skip
          refine gives_value (w := W) ⟨Below.refl _ _, hS⟩ ?_; go_simp; try with_reducible rfl
        simp only [List.setIfInBounds_toArray, List.set_cons_zero, List.set_cons_succ]
        refine extS_take (i := 9) (d := 55) (v := ?_) rfl rfl (by kernel_rfl) (by kernel_rfl) (by kernel_rfl) (fun _ _ _ h => h) (by rfl) (fun W hS => ?_) ?_
        rotate_left
        · skip
          refine gives_value (w := W) ⟨Below.refl _ _, hS⟩ ?_; go_simp; try with_reducible rfl
        simp only [List.setIfInBounds_toArray, List.set_cons_zero, List.set_cons_succ]
        refine extS_take (i := 10) (d := 9) (v := ?_) rfl rfl (by kernel_rfl) (by kernel_rfl) (by kernel_rfl) (fun _ _ _ h => h) (by rfl) (fun W hS => ?_) ?_
        rotate_left
        · skip
          refine gives_value (w := W) ⟨Below.refl _ _, hS⟩ ?_; go_simp; try with_reducible rfl
        simp only [List.setIfInBounds_toArray, List.set_cons_zero, List.set_cons_succ]
        refine extS_take (i := 11) (d := 10) (v := ?_) rfl rfl (by kernel_rfl) (by kernel_rfl) (by kernel_rfl) (fun _ _ _ h => h) (by rfl) (fun W hS => ?_) ?_
        rotate_left
        · skip
          refine gives_value (w := W) ⟨Below.refl _ _, hS⟩ ?_; go_simp; try with_reducible rfl
        simp only [List.setIfInBounds_toArray, List.set_cons_zero, List.set_cons_succ]
        refine extS_done (by kernel_rfl) (fun wm _ hSwm => ?_) _
        have HSM := Lib.hid hSwm
        clear hSwm
        rw [errV_zero]
        go_wp2
        go_meet
        case rel => exact ⟨by first | rfl | (push_cast; rfl), rfl, HSM.out⟩
    case rest =>
      obtain ⟨rfl, rfl, hbc⟩ := hcut
      have HBC := Lib.hid (HB6.out.trans (hbc.mono HB6.out.size))
      have hwn : wrap64 ((n0 : Int) + 1) = (n0 : Int) + 1 := IntWalk.wrap64_in _ (by have := HN12.out; omega)
      have hnn : (((n0 + 1 : Nat) : Int) != (n0 : Int) + 1) = false := by simp
      clear hbc
      go_wp2
      go_meet
      case rel => exact HBC.out
  case rest =>
  have HB7 := Lib.hid hcut
  clear hcut
  have HC1 := Lib.hid (ccheck_any _ rs wc B1 (HR.out wc HB7.out) (HLD.out wc HB7.out))
  go_wp2_with fail
  refine HC1.out.mono ?_
  rintro e w8 ⟨n8, c8, hc8, rfl, hb8⟩
  have HCC1 := Lib.hid hc8
  have HB8 := Lib.hid (HB7.out.trans (hb8.mono HB7.out.size))
  have HC2 := Lib.hid (ccheck_any _ rs2 w8 B3 (HR2.out w8 HB8.out) (HLD.out w8 HB8.out))
  clear hc8 hb8
  go_wp2_with fail
  refine HC2.out.mono ?_
  rintro e w9 ⟨n9, c9, hc9, rfl, hb9⟩
  have HCC2 := Lib.hid hc9
  have HB9 := Lib.hid (HB8.out.trans (hb9.mono HB8.out.size))
  have HH1 := Lib.hid (chead_any _ rs w9 B1 (HR.out w9 HB9.out) (HLD.out w9 HB9.out))
  clear hc9 hb9
  go_wp2_with fail
  refine HH1.out.mono ?_
  rintro e wa ⟨rfl, hba⟩
  have HBA := Lib.hid (HB9.out.trans (hba.mono HB9.out.size))
  obtain ⟨D1, hD1⟩ : ∃ D, D = headR (msOf rs) := ⟨_, rfl⟩
  obtain ⟨D2, hD2⟩ : ∃ D, D = headR (msOf rs2) := ⟨_, rfl⟩
  have hd1 : D1.length = 32 := by rw [hD1]; exact (headR_dg _).1
  have hd2 : D2.length = 32 := by rw [hD2]; exact (headR_dg _).1
  have HS1 : Hid ((Tryd.prog.info? 24).map (·.size) = some (vals .u8 D1).toArray.size) := Lib.hid (by rw [List.size_toArray, vals_length, hd1]; exact Tryd.sizeDG)
  have HS2 : Hid ((Tryd.prog.info? 24).map (·.size) = some (vals .u8 D2).toArray.size) := Lib.hid (by rw [List.size_toArray, vals_length, hd2]; exact Tryd.sizeDG)
  have HZ1 : Hid ((vals .u8 D1).toArray.size = 32) := Lib.hid (by rw [List.size_toArray, vals_length, hd1])
  have HZ2' : Hid ((vals .u8 D2).toArray.size = 32) := Lib.hid (by rw [List.size_toArray, vals_length, hd2])
  have HEQ := Lib.hid fun w => eq_digestsM D1 D2 hd1 hd2 w
  have HDD := Lib.hid (And.intro hD1 hD2)
  rw [← hD1]
  obtain ⟨h1c, hh1c⟩ : ∃ c, c = errV (headC (msOf rs)) := ⟨_, rfl⟩
  rw [← hh1c]
  clear hba hD1 hd1 hd2 hh1c
  go_wp2_with ((with_reducible show wpList _ _ _ (Oper.mk none _ _ _ _ _ :: _) _ _); go_must (refine wpList_store_new rfl 24 (.tmp 15) (.tmp 78) rfl wa _ (vals .u8 D1).toArray rfl rfl _ HS1.out (by rw [HZ1.out]; rfl) (all_one (ptRow_valsQ D1)) ?_))
  intro wb hqb hbb hsb
  have HQB := Lib.hid hqb
  have HBB := Lib.hid (HBA.out.trans (hbb.mono HBA.out.size))
  have HH2 := Lib.hid (chead_any _ rs2 wb B3 (HR2.out wb HBB.out) (HLD.out wb HBB.out))
  have HSB : Hid (wa.heap.size < wb.heap.size) := Lib.hid (by omega)
  clear hqb hbb hsb
  go_wp2_with fail
  refine HH2.out.mono ?_
  rintro e wd ⟨rfl, hbd⟩
  have HBD := Lib.hid (HBB.out.trans (hbd.mono HBB.out.size))
  have HQD := Lib.hid ((hbd.block _ HSB.out).trans HQB.out)
  have HSD : Hid (wa.heap.size < wd.heap.size) := Lib.hid (Nat.lt_of_lt_of_le HSB.out hbd.size)
  rw [← hD2]
  obtain ⟨h2c, hh2c⟩ : ∃ c, c = errV (headC (msOf rs2)) := ⟨_, rfl⟩
  rw [← hh2c]
  clear hbd hD2 hh2c
  go_wp2_with ((with_reducible show wpList _ _ _ (Oper.mk none _ _ _ _ _ :: _) _ _); go_must (refine wpList_store_new rfl 24 (.tmp 17) (.tmp 83) rfl wd _ (vals .u8 D2).toArray rfl rfl _ HS2.out (by rw [HZ2'.out]; rfl) (all_one (ptRow_valsQ D2)) ?_))
  intro we hqe hbe hse
  have HQE := Lib.hid hqe
  have HQF := Lib.hid ((hbe.block _ HSD.out).trans HQD.out)
  have HBE := Lib.hid (HBD.out.trans (hbe.mono HBD.out.size))
  have HBWE := Lib.hid (HB1.out.trans (HBE.out.mono HB1.out.size))
  clear hqe hbe hse
  by_cases k1 : c8 = 0
  rotate_left
  · rw [errV_pos k1]
    clear k1
    go_wp2
    go_ret
    exact ⟨rfl, HBWE.out⟩
  subst k1
  rw [errV_zero]
  by_cases k2 : c9 = 0
  rotate_left
  · rw [errV_pos k2]
    clear k2
    go_wp2
    go_ret
    exact ⟨rfl, HBWE.out⟩
  subst k2
  rw [errV_zero]
  by_cases k3 : n0 = n2
  rotate_left
  · have k3b : ((n0 : Int) != (n2 : Int)) = true := by simp; omega
    clear k3
    go_wp2
    go_ret
    exact ⟨rfl, HBWE.out⟩
  have k3b : ((n0 : Int) != (n2 : Int)) = false := by simp; omega
  have HK3 := Lib.hid k3
  clear k3
  obtain ⟨pq, hpq⟩ : ∃ x, x = (D1 == D2) := ⟨_, rfl⟩
  have heq := HEQ.out
  rw [← hpq] at heq
  have HPQ := Lib.hid hpq
  clear hpq
  cases pq
  · go_wp2_with (first
      | ((with_reducible show wpList _ _ _ (Oper.mk (some 99) _ _ _ _ _ :: _) _ _); go_must (refine wpList_load_rowH (by first | rfl | simp [Region.wanted, yielded, Act.put]) 24 (.tmp 15) rfl wa.heap.size rfl _ (vals .u8 D1).toArray _ _ HQF.out Tryd.underlying24 rfl HS1.out ?_))
      | ((with_reducible show wpList _ _ _ (Oper.mk (some 100) _ _ _ _ _ :: _) _ _); go_must (refine wpList_load_rowH (by first | rfl | simp [Region.wanted, yielded, Act.put]) 24 (.tmp 17) rfl wd.heap.size rfl _ (vals .u8 D2).toArray _ _ HQE.out Tryd.underlying24 rfl HS2.out ?_)))
    go_ret
    exact ⟨rfl, HBWE.out⟩
  have HHD : Hid (headM (msOf rs) = headM (msOf rs2)) := Lib.hid (by
    have h1 : D1 = D2 := by simpa using HPQ.out.symm
    rw [HDD.out.1, HDD.out.2, headR_right HCC1.out.right, headR_right HCC2.out.right] at h1
    exact h1)
  have HLL : Hid ((msOf rs).length = (msOf rs2).length) := Lib.hid (by rw [msOf_length, msOf_length, ← HN.out, ← HN2.out]; exact HK3.out)
  have HCO := Lib.hid (ccommon_any _ _ rs rs2 we B1 B3 (HR.out we HBE.out) (HR2.out we HBE.out))
  go_wp2_with (first
    | ((with_reducible show wpList _ _ _ (Oper.mk (some 99) _ _ _ _ _ :: _) _ _); go_must (refine wpList_load_rowH (by first | rfl | simp [Region.wanted, yielded, Act.put]) 24 (.tmp 15) rfl wa.heap.size rfl _ (vals .u8 D1).toArray _ _ HQF.out Tryd.underlying24 rfl HS1.out ?_))
    | ((with_reducible show wpList _ _ _ (Oper.mk (some 100) _ _ _ _ _ :: _) _ _); go_must (refine wpList_load_rowH (by first | rfl | simp [Region.wanted, yielded, Act.put]) 24 (.tmp 17) rfl wd.heap.size rfl _ (vals .u8 D2).toArray _ _ HQE.out Tryd.underlying24 rfl HS2.out ?_)))
  refine HCO.out.mono ?_
  rintro e wf ⟨k, hk, rfl, hbf⟩
  have HBF := Lib.hid (HBE.out.trans (hbf.mono HBE.out.size))
  have HBWF := Lib.hid (HB1.out.trans (HBF.out.mono HB1.out.size))
  have HKK := Lib.hid hk
  clear hk hbf
  by_cases k4 : k = n0
  · have k4b : ((k : Int) == (n0 : Int)) = true := by simp [k4]
    clear k4
    go_wp2
    go_ret
    exact ⟨rfl, HBWF.out⟩
  · have k4b : ((k : Int) == (n0 : Int)) = false := by simp; omega
    have HCL : Hid (Coll (msOf rs) (msOf rs2)) := Lib.hid (by
      rcases heads_same HCC1.out HCC2.out HOK1.out HOK2.out HLL.out HHD.out with h | h
      · have := (HKK.out.all HLL.out).2 h
        rw [msOf_length, ← HN.out] at this
        exact absurd this k4
      · exact h)
    have hcol := collides_any _ _ rs rs2 wf B1 B3 (HR.out wf HBF.out) (HR2.out wf HBF.out) (by rw [← HN.out, ← HN2.out]; exact Nat.le_of_eq HK3.out) HCC1.out.right HCC2.out.right
    have HCOL := Lib.hid hcol
    clear hcol k4
    go_wp2_with fail
    refine HCOL.out.mono ?_
    rintro e wg ⟨z, hz, rfl, hbg⟩
    have hz1 := hz HCL.out
    subst hz1
    have HBG := Lib.hid (HBWF.out.trans (hbg.mono HBWF.out.size))
    clear hz hbg
    go_wp2
    go_ret
    exact ⟨rfl, HBG.out⟩

end Go.Proofs.YtgnalcobcdgnkaaDoor
