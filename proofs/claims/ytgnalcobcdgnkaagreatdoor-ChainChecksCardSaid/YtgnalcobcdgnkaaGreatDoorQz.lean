/- Package chain: the last part, endOf; slices.Clone of parts. · Package chain: Next. -/
import Derived.Test.YtgnalcobcdgnkaaGreatDoorQy
import Derived.Test.YtgnalcobcdgnkaaGreatDoorQf
import Derived.Test.YtgnalcobcdgnkaaGreatDoorMfN
namespace Go.Proofs.YtgnalcobcdgnkaaGreatDoor
open Go.RowKit

abbrev p00 : PT := (0, 0, 0, zero32)
theorem lastP_dg {ps : List PT} (h : ∀ p ∈ ps, Dg p.2.2.2) : Dg (lastP ps).2.2.2 := by
  unfold lastP
  by_cases h0 : ps.length = 0
  · rw [if_pos h0]; exact dg_zero
  · rw [if_neg h0]; exact h _ (getD_memP (by omega))
theorem pt0_cellsE : (ptRow p00).toArray = #[.int .i64 0, .int .i64 0, .int .i64 0, .int .u8 0, .int .u8 0, .int .u8 0, .int .u8 0, .int .u8 0, .int .u8 0, .int .u8 0, .int .u8 0, .int .u8 0, .int .u8 0, .int .u8 0, .int .u8 0, .int .u8 0, .int .u8 0, .int .u8 0, .int .u8 0, .int .u8 0, .int .u8 0, .int .u8 0, .int .u8 0, .int .u8 0, .int .u8 0, .int .u8 0, .int .u8 0, .int .u8 0, .int .u8 0, .int .u8 0, .int .u8 0, .int .u8 0, .int .u8 0, .int .u8 0, .int .u8 0] := by rfl
theorem endP_last {x : Int} {ps : List PT} (h : ps.length ≠ 0) : endP x ps = wrap64 ((lastP ps).1 + (lastP ps).2.1) := by
  unfold endP lastP
  rw [if_neg h, if_neg h]
theorem endP_nil {x : Int} {ps : List PT} (h : ps.length = 0) : endP x ps = x := by
  unfold endP
  rw [if_pos h]

set_option maxHeartbeats 2000000 in
set_option maxRecDepth 100000 in
theorem clastP_any (v : Value) (ps : List PT) (w : World) (B : Nat → Prop) (h : PsAt w B v ps) :
    Calls Tryz.prog 36 #[v] w fun e w' => e = .returned (.tuple #[.agg (ptRow (lastP ps)).toArray, .bool (decide (ps.length ≠ 0))]) ∧ Below w.heap.size w w' := by
  obtain ⟨ao, cap, rfl, l1, m1, _⟩ := h.val
  obtain ⟨W1, hW1⟩ : ∃ W1, W1 = w.alloc (.cells (ptRow p00).toArray 67) := ⟨_, rfl⟩
  have hb1 : Below w.heap.size w W1 := by rw [hW1]; exact (Below.refl _ _).alloc (Nat.le_refl _) _
  have hx1 : W1.heap[w.heap.size]? = some (.cells (ptRow p00).toArray 67 (0, 0)) := by rw [hW1]; exact heap_alloc_new _ _
  have hdg : Dg (lastP ps).2.2.2 := lastP_dg h.2
  have hs1 : W1.heap.size = w.heap.size + 1 := by rw [hW1]; simp
  have HMS : Hid ((Tryz.prog.info? 67).map (·.size) = some (ptRow (lastP ps)).toArray.size) := Lib.hid (by rw [ptRow_size hdg]; exact Tryz.sizePT)
  have HML : Hid ((Tryz.prog.info? 67).map (·.size) = some (ptRow (lastP ps)).length) := Lib.hid (by rw [ptRow_len hdg]; exact Tryz.sizePT)
  have HSS : Hid ((ptRow p00).toArray.size = (ptRow (lastP ps)).toArray.size) := Lib.hid (by rw [ptRow_size hdg, ptRow_size dg_zero])
  have HB1 := Lib.hid hb1
  have HX1 := Lib.hid hx1
  by_cases h0 : ps.length = 0
  · obtain rfl : ps = [] := List.length_eq_zero_iff.1 h0
    obtain ⟨W2, hW2⟩ : ∃ W, W = W1.alloc (.cells (ptRow p00).toArray 67) := ⟨_, rfl⟩
    have hb2 : Below W1.heap.size W1 W2 := by rw [hW2]; exact (Below.refl _ _).alloc (Nat.le_refl _) _
    have HX2 : Hid (W2.heap[w.heap.size]? = some (.cells (ptRow p00).toArray 67 (0, 0))) := Lib.hid ((hb2.block _ (by omega)).trans hx1)
    have HY2 : Hid (W2.heap[w.heap.size + 1]? = some (.cells (ptRow p00).toArray 67 (0, 0))) := Lib.hid (by rw [hW2, ← hs1]; exact heap_alloc_new _ _)
    have HB2 : Hid (Below w.heap.size w W2) := Lib.hid (hb1.trans (hb2.mono hb1.size))
    have hlv : ptRow (lastP []) = ptRow p00 := rfl
    rw [hlv] at HMS HML HSS ⊢
    have HON : Hid ((ptRow p00).toArray.all (·.oneCell') = true) := Lib.hid (all_one (ptRow_one _))
    rw [hW1, pt0_cellsE] at hW2
    obtain ⟨A, hA⟩ : ∃ A, A = (ptRow p00).toArray := ⟨_, rfl⟩
    rw [← hA] at HMS HSS HX2 HY2 HON ⊢
    have HW2 := Lib.hid hW2
    clear hW1 hb1 hx1 h hdg hs1 HX1 hb2 hW2 hlv hA h0 HML l1 m1
    go_enter Tryz.func36, Tryz.ntmps36
    go_wp2_with (first
      | ((with_reducible show wpList _ _ _ (Oper.mk (some 8) _ _ _ _ _ :: _) _ _); rw [← HW2.out]; go_must (refine wpList_load_row rfl 67 (.tmp 4) rfl (w.heap.size + 1) rfl _ A _ _ HY2.out Tryz.underlying67 rfl HMS.out ?_))
      | ((with_reducible show wpList _ _ _ (Oper.mk none _ _ _ _ _ :: _) _ _); go_must (refine wpList_store_box rfl 67 (.tmp 2) (.tmp 8) rfl w.heap.size A rfl rfl _ _ HX2.out HMS.out rfl HON.out ?_)))
    intro W4 hq4 hb4 _
    have HQ4 := Lib.hid hq4
    have HB4 := Lib.hid (HB2.out.trans hb4)
    clear hq4 hb4
    go_wp2
    refine bodyPost_ret (v := .tuple #[.agg A, .bool false]) (results_row_tmp (p := 2) rfl _ _ w.heap.size _ _ _ _ _ rfl rfl HQ4.out Tryz.underlying67 rfl HMS.out) rfl ?_
    exact ⟨rfl, HB4.out⟩
  · obtain ⟨k, hk⟩ : ∃ k, ps.length = k + 1 := ⟨ps.length - 1, by omega⟩
    have hlt : k < ps.length := by omega
    obtain ⟨b, off, rfl, _, _, _, hcell⟩ := (h.old hb1).at hlt
    have hlv : lastP ps = ps.getD k (0, 0, 0, []) := by unfold lastP; rw [if_neg h0, hk]; rfl
    rw [← hlv] at hcell
    have HCELL := Lib.hid hcell
    have HON : Hid ((ptRow (lastP ps)).toArray.all (·.oneCell') = true) := Lib.hid (all_one (ptRow_one _))
    obtain ⟨n, hn⟩ : ∃ n, n = ps.length := ⟨_, rfl⟩
    rw [← hn] at hk hlt h0 l1 h ⊢
    have hnm : (n : Int) ≤ 9223372036854775807 := by unfold maxLen at m1; omega
    have hwr : wrap64 ((n : Int) - 1) = (k : Int) := by rw [IntWalk.wrap64_in _ (by omega)]; omega
    have hki : (k : Int) < (n : Int) := by omega
    have h0b : ((n : Int) == 0) = false := by simp; omega
    have HD : Hid (decide (n ≠ 0) = true) := Lib.hid (by simp [h0])
    rw [HD.out]
    rw [pt0_cellsE] at hW1
    obtain ⟨r, hr⟩ : ∃ r, r = ptRow (lastP ps) := ⟨_, rfl⟩
    rw [← hr] at HMS HML HSS HCELL HON ⊢
    have HW1 := Lib.hid hW1
    have hkn : k = n - 1 := by omega
    rw [hkn] at HCELL
    clear hW1 hb1 hx1 h hdg hs1 hkn hk hlt hcell hlv hn hr l1 m1 h0
    go_enter Tryz.func36, Tryz.ntmps36
    go_wp2_with (first
      | ((with_reducible show wpList _ _ _ (Oper.mk (some 14) _ _ _ _ _ :: _) _ _); rw [← HW1.out]; go_must (refine wpList_load_at rfl 67 (.tmp 13) rfl b (off + (n - 1) * 35) rfl r _ HCELL.out Tryz.underlying67 rfl HML.out ?_))
      | ((with_reducible show wpList _ _ _ (Oper.mk none _ _ _ _ _ :: _) _ _); go_must (refine wpList_store_box rfl 67 (.tmp 2) (.tmp 14) rfl w.heap.size r.toArray rfl rfl _ _ HX1.out HMS.out HSS.out HON.out ?_)))
    intro W4 hq4 hb4 _
    have HQ4 := Lib.hid hq4
    have HB4 := Lib.hid (HB1.out.trans hb4)
    clear hq4 hb4
    go_wp2
    refine bodyPost_ret (v := .tuple #[.agg r.toArray, .bool true]) (results_row_tmp (p := 2) rfl _ _ w.heap.size _ _ _ _ _ rfl rfl HQ4.out Tryz.underlying67 rfl HMS.out) rfl ?_
    exact ⟨rfl, HB4.out⟩


set_option maxHeartbeats 2000000 in
set_option maxRecDepth 100000 in
theorem cendOf_any (x : Int) (v : Value) (ps : List PT) (w : World) (B : Nat → Prop) (h : PsAt w B v ps) :
    Calls Tryz.prog 26 #[.int .i64 x, v] w fun e w' => e = .returned (.int .i64 (endP x ps)) ∧ Below w.heap.size w w' := by
  have HL := Lib.hid (clastP_any v ps w B h)
  have hdg : Dg (lastP ps).2.2.2 := lastP_dg h.2
  have HMS : Hid ((Tryz.prog.info? 67).map (·.size) = some (ptRow (lastP ps)).toArray.size) := Lib.hid (by rw [ptRow_size hdg]; exact Tryz.sizePT)
  have HSS : Hid ((ptRow (lastP ps)).toArray.size = 35) := Lib.hid (ptRow_size hdg)
  have HON : Hid ((ptRow (lastP ps)).toArray.all (·.oneCell') = true) := Lib.hid (all_one (ptRow_one _))
  obtain ⟨p, hp⟩ : ∃ p, p = lastP ps := ⟨_, rfl⟩
  have HE0 : Hid (ps.length = 0 → endP x ps = x) := Lib.hid endP_nil
  have HE1 : Hid (ps.length ≠ 0 → endP x ps = wrap64 (p.1 + p.2.1)) := Lib.hid fun h => by rw [endP_last h, hp]
  rw [← hp] at HL HMS HSS HON
  obtain ⟨A, hA⟩ : ∃ A, A = (ptRow p).toArray := ⟨_, rfl⟩
  rw [← hA] at HL HMS HSS HON
  have HA := Lib.hid hA
  obtain ⟨n, hn⟩ : ∃ n, n = ps.length := ⟨_, rfl⟩
  obtain ⟨z, hz⟩ : ∃ z, z = endP x ps := ⟨_, rfl⟩
  rw [← hn] at HL HE0 HE1
  rw [← hz] at HE0 HE1 ⊢
  clear h hdg hA hp hn hz
  by_cases h0 : n = 0
  · have HD : Hid (decide (n ≠ 0) = false) := Lib.hid (by simp [h0])
    rw [HD.out] at HL
    have HZ := Lib.hid (HE0.out h0)
    clear h0
    go_enter Tryz.func26, Tryz.ntmps26
    go_wp2_with fail
    refine HL.out.mono ?_
    rintro e w2 ⟨rfl, hb2⟩
    have HB2 := Lib.hid hb2
    clear hb2
    go_wp2_with ((with_reducible show wpList _ _ _ (Oper.mk none _ _ _ _ _ :: _) _ _); go_must (refine wpList_store_new rfl 67 (.tmp 5) (.tmp 10) rfl w2 _ A rfl rfl _ HMS.out (by rw [HSS.out]; rfl) HON.out ?_))
    intro W3 hq3 hb3 hs3
    have HB3 := Lib.hid (HB2.out.trans (hb3.mono HB2.out.size))
    clear hq3 hb3 hs3
    go_wp2
    go_ret
    exact ⟨by rw [HZ.out]; rfl, HB3.out⟩
  · have HD : Hid (decide (n ≠ 0) = true) := Lib.hid (by simp [h0])
    rw [HD.out] at HL
    have HZ := Lib.hid (HE1.out h0)
    clear h0
    go_enter Tryz.func26, Tryz.ntmps26
    go_wp2_with fail
    refine HL.out.mono ?_
    rintro e w2 ⟨rfl, hb2⟩
    have HB2 := Lib.hid hb2
    clear hb2
    go_wp2_with ((with_reducible show wpList _ _ _ (Oper.mk none _ _ _ _ _ :: _) _ _); go_must (refine wpList_store_new rfl 67 (.tmp 5) (.tmp 10) rfl w2 _ A rfl rfl _ HMS.out (by rw [HSS.out]; rfl) HON.out ?_))
    intro W3 hq3 hb3 hs3
    have hq3 : PB W3 w2.heap.size p 67 := by rw [HA.out] at hq3; exact hq3
    obtain ⟨x0, x1, _⟩ := hq3.x
    have HB3 := Lib.hid (HB2.out.trans (hb3.mono HB2.out.size))
    clear hq3 hb3 hs3
    go_wp2
    go_ret
    exact ⟨by rw [HZ.out]; rfl, HB3.out⟩

set_option maxHeartbeats 1000000 in
set_option maxRecDepth 100000 in
theorem cloneP_any (v : Value) (ps : List PT) (w : World) (B : Nat → Prop) (h : PsAt w B v ps) (hx : ps.length ≤ 1000000) :
    Calls Tryz.prog 28 #[v] w fun e w' => ∃ v', e = .returned v' ∧ PsAt w' (fun j => w.heap.size ≤ j) v' ps ∧ Below w.heap.size w w' := by
  have heq := fun w a n c n' c' => Lib.run_eql_slice_nil (P := Tryz.prog) w 41 67 a n c n' c' Tryz.underlying41
  obtain ⟨ao, cap, rfl, h1, h2, h3⟩ := h.val
  cases ao with
  | none =>
    obtain rfl := h3 rfl
    obtain rfl : ps = [] := List.length_eq_zero_iff.1 (by omega)
    go_enter Tryz.func28, Tryz.ntmps28
    go_wp2
    go_ret
    exact ⟨_, rfl, ps_nil _ _, Below.refl _ _⟩
  | some ad =>
    obtain ⟨W1, hW1⟩ : ∃ W, W = w.alloc (.cells #[] 67) := ⟨_, rfl⟩
    have hb1 : Below w.heap.size w W1 := by rw [hW1]; exact (Below.refl _ _).alloc (Nat.le_refl _) _
    have he : RecOwn W1 w.heap.size 67 35 (.slice (some ⟨w.heap.size, 0, none⟩) 0 0) [] := by rw [hW1]; exact recOwn_empty w w.heap.size 67 35 (Nat.le_refl _)
    have HE := Lib.hid he
    have HR := Lib.hid (h.1.keep (w' := W1) ⟨hb1.size, fun j hj _ => hb1.block j hj⟩)
    have HDG := Lib.hid h.2
    have HLN : Hid (∀ r ∈ ps.map ptRow, r.length = 35) := Lib.hid (by
      intro r hr
      obtain ⟨p, hp, rfl⟩ := List.mem_map.1 hr
      exact ptRow_len (h.2 p hp))
    have HON : Hid (∀ r ∈ ps.map ptRow, ∀ u ∈ r, u.oneCell' = true) := Lib.hid (by
      intro r hr
      obtain ⟨p, hp, rfl⟩ := List.mem_map.1 hr
      exact ptRow_one p)
    have HB1 := Lib.hid hb1
    have HX := Lib.hid hx
    obtain ⟨n, hn⟩ : ∃ n, n = ps.length := ⟨_, rfl⟩
    rw [← hn] at HR ⊢
    have HN := Lib.hid hn
    have HW1 := Lib.hid hW1
    clear hb1 he h h1 h2 h3 hx hW1 hn
    go_enter Tryz.func28, Tryz.ntmps28
    go_wp2_with (at_builtin; rw [← HW1.out]; go_must (refine wpList_appRecs rfl _ _ 41 rfl w.heap.size 67 (.agg (ptRow p00).toArray) 35 56 Tryz.underlying41 Tryz.infoPart (by kernel_rfl) (by decide) _ _ [] (ps.map ptRow) rfl rfl HE.out HR.out HLN.out HON.out ?c1 ?c3 HB1.out.size ?_))
    case c1 => rw [List.length_map]; have := HX.out; simp [maxLen]; omega
    case c3 => rw [List.length_map]; have := HX.out; simp; omega
    intro v' w1 ho hg
    have HO : Hid (PsAt w1 (fun j => w.heap.size ≤ j) v' ps) := Lib.hid ⟨by
      have := ho.at'.mono (C := fun j => w.heap.size ≤ j) fun j _ hj => hj.2
      simpa using this, HDG.out⟩
    have HB : Hid (Below w.heap.size w w1) := Lib.hid (HB1.out.grown hg HB1.out.size (fun j hj => by simp [Value.ownBlock] at hj; omega))
    clear ho hg
    go_wp2
    go_ret
    exact ⟨_, rfl, HO.out, HB.out⟩

end Go.Proofs.YtgnalcobcdgnkaaGreatDoor

namespace Go.Proofs.YtgnalcobcdgnkaaGreatDoor
open Go.RowKit

/-- What Next answers. -/
def CNextPost (l : List MF) (x t : Int) (ps : List PT) (w : World) (e : Ending) (w' : World) : Prop :=
  Below w.heap.size w w' ∧ ∃ n c0 : Nat, CChk l n c0 ∧ ((nextC l c0 x t ps = 0 ∧ ∃ v', e = .returned (.tuple #[.agg (mfRow (nextM l x t ps) v').toArray, .nilIface]) ∧ PsAt w' (fun j => w.heap.size ≤ j) v' ps) ∨
    (nextC l c0 x t ps ≠ 0 ∧ e = .returned (.tuple #[.agg (mfRow mf0 (.slice none 0 0)).toArray, errV (nextC l c0 x t ps)])))
set_option maxHeartbeats 16000000 in
set_option maxRecDepth 100000 in
theorem cnext_any (v : Value) (rs : List MV) (x t : Int) (pv : Value) (ps : List PT) (w : World) (B C : Nat → Prop) (h : MsAt w B v rs) (hp : PsAt w C pv ps) (hld : Laid w) :
    Calls Tryz.prog 17 #[v, .int .i64 x, .int .i64 t, pv] w (CNextPost (msOf rs) x t ps w) := by
  obtain ⟨ao, cap, rfl, l1, m1, _⟩ := h.val
  obtain ⟨ap, cp, rfl, l2, m2, _⟩ := hp.val
  obtain ⟨W1, hW1⟩ : ∃ W1, W1 = w.alloc (.cells (mfRow mf0 (.slice none 0 0)).toArray 43) := ⟨_, rfl⟩
  have hb1 : Below w.heap.size w W1 := by rw [hW1]; exact (Below.refl _ _).alloc (Nat.le_refl _) _
  have hz1 : W1.heap[w.heap.size]? = some (.cells (mfRow mf0 (.slice none 0 0)).toArray 43 (0, 0)) := by rw [hW1]; exact heap_alloc_new _ _
  have hs1 : w.heap.size < W1.heap.size := by rw [hW1]; simp
  have hh1 := h.old hb1
  have hp1 := hp.old hb1
  have hl1 := hld.next hb1
  have HCH := Lib.hid (ccheck_any _ rs W1 B hh1 hl1)
  have HEN : Hid (∀ W, Below W1.heap.size W1 W → Calls Tryz.prog 13 #[.slice ao rs.length cap] W fun e w' => e = .returned (.int .i64 (lastM (msOf rs)).upto) ∧ Below W.heap.size W w') := Lib.hid fun W hb => cend_any _ rs W B (hh1.old hb)
  have HMK : Hid (∀ W, Below W1.heap.size W1 W → Calls Tryz.prog 14 #[.slice ao rs.length cap] W fun e w' => e = .returned (.int .i64 (lastM (msOf rs)).trim) ∧ Below W.heap.size W w') := Lib.hid fun W hb => cmark_any _ rs W B (hh1.old hb)
  have HHE : Hid (∀ W, Below W1.heap.size W1 W → Calls Tryz.prog 9 #[.slice ao rs.length cap] W (CHeadPost (msOf rs) W)) := Lib.hid fun W hb => chead_any _ rs W B (hh1.old hb) (hl1.next hb)
  have HEP : Hid (∀ W, Below W1.heap.size W1 W → Calls Tryz.prog 26 #[.int .i64 x, .slice ap ps.length cp] W fun e w' => e = .returned (.int .i64 (endP x ps)) ∧ Below W.heap.size W w') := Lib.hid fun W hb => cendOf_any x _ ps W C (hp1.old hb)
  have HCL : Hid (∀ W, Below W1.heap.size W1 W → ps.length ≤ 1000000 → Calls Tryz.prog 28 #[.slice ap ps.length cp] W fun e w' => ∃ v', e = .returned v' ∧ PsAt w' (fun j => W.heap.size ≤ j) v' ps ∧ Below W.heap.size W w') := Lib.hid fun W hb hx => cloneP_any _ ps W C (hp1.old hb) hx
  have HPS : Hid (∀ W, Below W1.heap.size W1 W → PsAt W C (.slice ap ps.length cp) ps) := Lib.hid fun W hb => hp1.old hb
  have HM0 : Hid ((Tryz.prog.info? 43).map (·.size) = some (mfRow mf0 (.slice none 0 0)).toArray.size) := Lib.hid (by rw [mfRow_size dg_zero]; exact Tryz.sizeMF)
  have HO0 : Hid ((mfRow mf0 (.slice none 0 0)).toArray.all (·.oneCell') = true) := Lib.hid (all_one (mfRow_one _ rfl))
  have HMX : Hid (Tryz.prog.follows .mixedOrders = true) := Lib.hid (by kernel_rfl)
  have HB1 := Lib.hid hb1
  have HZ1 := Lib.hid hz1
  have HS1 := Lib.hid hs1
  obtain ⟨l, hl⟩ : ∃ l, l = msOf rs := ⟨_, rfl⟩
  obtain ⟨n0, hn0⟩ : ∃ n, n = rs.length := ⟨_, rfl⟩
  have hll : l.length = n0 := by rw [hl, hn0, msOf_length]
  obtain ⟨np, hnp⟩ : ∃ n, n = ps.length := ⟨_, rfl⟩
  rw [← hl] at HCH HEN HMK HHE
  rw [← hl]
  rw [← hn0] at HCH HEN HMK HHE ⊢
  rw [← hnp] at HEP HCL HPS ⊢
  have HLL := Lib.hid hll
  have HNP := Lib.hid hnp
  rw [mf0_cells] at hW1
  have HW1 := Lib.hid hW1
  clear h hp hld hb1 hz1 hs1 hh1 hp1 hl1 hl hn0 hll hnp hW1 l1 m1 l2 m2
  go_enter Tryz.func17, Tryz.ntmps17
  go_wp2_with fail
  rw [← HW1.out]
  refine HCH.out.mono ?_
  rintro e w2 ⟨n, c0, hcc, rfl, hb2⟩
  have HCC := Lib.hid hcc
  have HB2 := Lib.hid hb2
  have HZ2 := Lib.hid ((hb2.block _ HS1.out).trans HZ1.out)
  have HBW2 := Lib.hid (HB1.out.trans (hb2.mono HB1.out.size))
  clear hcc hb2
  obtain ⟨nc, hnc⟩ : ∃ c, c = nextC l c0 x t ps := ⟨_, rfl⟩
  by_cases h0 : c0 = 0
  rotate_left
  · have HNC : Hid (nextC l c0 x t ps = c0) := Lib.hid (by unfold nextC; rw [if_pos h0])
    have H0 := Lib.hid h0
    rw [errV_pos h0]
    clear h0 hnc
    go_wp2_with ((with_reducible show wpList _ _ _ (Oper.mk none _ _ _ _ _ :: _) _ _); rw [← mf0_cells]; go_must (refine wpList_store_box rfl 43 (.tmp 8) (.tmp 23) rfl w.heap.size (mfRow mf0 (.slice none 0 0)).toArray rfl rfl _ _ HZ2.out HM0.out rfl HO0.out ?_))
    intro WE hqe hbe _
    have HQE := Lib.hid hqe
    have HBE := Lib.hid (HBW2.out.trans hbe)
    clear hqe hbe
    go_wp2
    refine bodyPost_ret (v := .tuple #[.agg (mfRow mf0 (.slice none 0 0)).toArray, .iface 58 (.int .i64 (c0 : Int))]) (results_row_tmp (p := 8) rfl _ _ w.heap.size _ _ _ _ _ rfl rfl HQE.out Tryz.underlying43 rfl HM0.out) rfl ?_
    exact ⟨HBE.out, n, c0, HCC.out, .inr ⟨by rw [HNC.out]; exact H0.out, by rw [HNC.out, errV_pos H0.out] <;> rfl⟩⟩

  subst h0
  have HRT := Lib.hid HCC.out.right
  rw [errV_zero]
  obtain ⟨X, hX⟩ : ∃ X, X = decide (n0 ≠ 0 ∧ (x ≠ (lastM l).upto ∨ t < (lastM l).trim)) := ⟨_, rfl⟩
  have HX := Lib.hid hX
  have HNC0 : Hid (nc = if X = true then 12 else mchk (nextM l x t ps)) := Lib.hid (by
    rw [hnc, hX]; unfold nextC
    rw [if_neg (by simp), HLL.out]
    simp only [decide_eq_true_iff])
  have HNCE := Lib.hid hnc
  obtain ⟨en, hen⟩ : ∃ x, x = (lastM l).upto := ⟨_, rfl⟩
  obtain ⟨mk, hmk⟩ : ∃ x, x = (lastM l).trim := ⟨_, rfl⟩
  rw [← hen] at HEN HX
  rw [← hmk] at HMK HX
  clear hX hnc hen hmk
  go_upto_region 4 with fail
  go_cut [39] from 17 (fun bv wx => bv = .bool X ∧ Below W1.heap.size W1 wx)
  case first =>
    by_cases g0 : n0 = 0
    · have HXF : Hid (X = false) := Lib.hid (by rw [HX.out]; simp [g0])
      subst g0
      go_wp2
      go_meet
      case rel => exact ⟨by rw [HXF.out], HB2.out⟩
    have hg0 : (0 : Int) < (n0 : Int) := by omega
    have hcen := HEN.out w2 HB2.out
    have HEN2 := Lib.hid hcen
    clear hcen
    by_cases g1 : x = en
    rotate_left
    · have g1b : (x != en) = true := by simp [g1]
      have HXT : Hid (X = true) := Lib.hid (by rw [HX.out]; exact decide_eq_true ⟨g0, .inl g1⟩)
      clear g1
      go_wp2_with fail
      refine HEN2.out.mono ?_
      rintro e w3 ⟨rfl, hb3⟩
      have HB3 := Lib.hid (HB2.out.trans (hb3.mono HB2.out.size))
      clear hb3
      go_wp2
      go_meet
      case rel => exact ⟨by rw [HXT.out], HB3.out⟩
    have g1b : (x != en) = false := by simp [g1]
    have HG1 := Lib.hid g1
    clear g1
    go_wp2_with fail
    refine HEN2.out.mono ?_
    rintro e w3 ⟨rfl, hb3⟩
    have HB3 := Lib.hid (HB2.out.trans (hb3.mono HB2.out.size))
    have HMK3 := Lib.hid (HMK.out w3 HB3.out)
    clear hb3
    go_wp2_with fail
    refine HMK3.out.mono ?_
    rintro e w4 ⟨rfl, hb4⟩
    have HB4 := Lib.hid (HB3.out.trans (hb4.mono HB3.out.size))
    clear hb4
    by_cases g2 : t < mk
    · have HXT : Hid (X = true) := Lib.hid (by rw [HX.out]; exact decide_eq_true ⟨g0, .inr g2⟩)
      go_wp2
      go_meet
      case rel => exact ⟨by rw [HXT.out], HB4.out⟩
    · have HXF : Hid (X = false) := Lib.hid (by
        rw [HX.out]
        refine decide_eq_false ?_
        rintro ⟨_, h | h⟩
        · exact h HG1.out
        · exact g2 h)
      go_wp2
      go_meet
      case rel => exact ⟨by rw [HXF.out, decide_eq_false (by omega)], HB4.out⟩
  case rest =>
  obtain ⟨rfl, hbc⟩ := hcut
  have HBC := Lib.hid hbc
  have HZC := Lib.hid ((hbc.block _ HS1.out).trans HZ1.out)
  have HBWC := Lib.hid (HB1.out.trans (hbc.mono HB1.out.size))
  clear hbc
  cases X
  rotate_left
  · have HNC : Hid (nextC l 0 x t ps = 12) := Lib.hid (by rw [← HNCE.out, HNC0.out]; rfl)
    have H12 : Hid ((12 : Nat) ≠ 0) := Lib.hid (by decide)
    go_wp2_with ((with_reducible show wpList _ _ _ (Oper.mk none _ _ _ _ _ :: _) _ _); rw [← mf0_cells]; go_must (refine wpList_store_box rfl 43 (.tmp 8) (.tmp 40) rfl w.heap.size (mfRow mf0 (.slice none 0 0)).toArray rfl rfl _ _ HZC.out HM0.out rfl HO0.out ?_))
    intro WE hqe hbe _
    have HQE := Lib.hid hqe
    have HBE := Lib.hid (HBWC.out.trans hbe)
    clear hqe hbe
    go_wp2
    refine bodyPost_ret (v := .tuple #[.agg (mfRow mf0 (.slice none 0 0)).toArray, .iface 58 (.int .i64 12)]) (results_row_tmp (p := 8) rfl _ _ w.heap.size _ _ _ _ _ rfl rfl HQE.out Tryz.underlying43 rfl HM0.out) rfl ?_
    exact ⟨HBE.out, n, 0, HCC.out, .inr ⟨by rw [HNC.out]; exact H12.out, by rw [HNC.out, errV_pos H12.out] <;> rfl⟩⟩

  have HNC : Hid (nextC l 0 x t ps = mchk (nextM l x t ps)) := Lib.hid (by rw [← HNCE.out, HNC0.out]; rfl)
  clear HNC0 HX
  have hhe := HHE.out wc HBC.out
  have hhr : Calls Tryz.prog 9 #[.slice ao n0 cap] wc fun e w' => e = .returned (.tuple #[.agg (vals .u8 (headM l)).toArray, .nilIface]) ∧ Below wc.heap.size wc w' := by
    refine hhe.mono ?_
    rintro e w' ⟨rfl, hb⟩
    exact ⟨by rw [headR_right HRT.out, headC_right HRT.out]; rfl, hb⟩
  have HHR := Lib.hid hhr
  clear hhe hhr
  obtain ⟨H, hH⟩ : ∃ H, H = headM l := ⟨_, rfl⟩
  have hHd : Dg H := by rw [hH]; exact headM_dg _
  obtain ⟨M, hM⟩ : ∃ M, M = nextM l x t ps := ⟨_, rfl⟩
  have hM2 : M = ⟨(n0 : Int), x, endP x ps, t, H, ps⟩ := by rw [hM, hH]; unfold nextM; rw [HLL.out]
  rw [← hH] at HHR
  rw [← hM] at HNC
  have HM := Lib.hid hM
  have HHS : Hid ((Tryz.prog.info? 34).map (·.size) = some (vals .u8 H).toArray.size) := Lib.hid (by rw [List.size_toArray, vals_length, hHd.1]; exact Tryz.sizeDG)
  have HH32 : Hid ((vals .u8 H).toArray.size = 32) := Lib.hid (by rw [List.size_toArray, vals_length, hHd.1])
  have HV32 : Hid ((vals .u8 H).length = 32) := Lib.hid (by rw [vals_length, hHd.1])
  have HMD : Hid (Dg M.prev) := Lib.hid (by rw [hM2]; exact hHd)
  obtain ⟨ep, hep⟩ : ∃ y, y = endP x ps := ⟨_, rfl⟩
  rw [← hep] at HEP hM2
  obtain ⟨A9, hA9⟩ : ∃ A, A = (mfRow M (.slice ap np cp)).toArray := ⟨_, rfl⟩
  obtain ⟨B0, hB0⟩ : ∃ A, A = (mfRow ⟨(n0 : Int), x, ep, t, H, []⟩ (.slice none 0 0)).toArray := ⟨_, rfl⟩
  have HFA : Hid ((List.foldl (fun (cs : Array Value) (x : Value × Nat) => cs.setIfInBounds (4 + x.2) x.1) #[.int .i64 (n0 : Int), .int .i64 x, .int .i64 ep, .int .i64 t, .int .u8 0, .int .u8 0, .int .u8 0, .int .u8 0, .int .u8 0, .int .u8 0, .int .u8 0, .int .u8 0, .int .u8 0, .int .u8 0, .int .u8 0, .int .u8 0, .int .u8 0, .int .u8 0, .int .u8 0, .int .u8 0, .int .u8 0, .int .u8 0, .int .u8 0, .int .u8 0, .int .u8 0, .int .u8 0, .int .u8 0, .int .u8 0, .int .u8 0, .int .u8 0, .int .u8 0, .int .u8 0, .int .u8 0, .int .u8 0, .int .u8 0, .int .u8 0, .slice none 0 0] (vals .u8 H).zipIdx) = B0) := Lib.hid (by rw [hB0]; exact fold_man _ _ _ _ hHd.1)
  have HFZ : Hid (¬ B0.size < 37) := Lib.hid (by rw [hB0, mfRow_size hHd]; decide)
  have HFB : Hid (B0.setIfInBounds 36 (.slice ap np cp) = A9) := Lib.hid (by rw [hA9, hM2, hB0]; exact mfRow_set36 _ _ hHd.1)
  have HM9 : Hid ((Tryz.prog.info? 43).map (·.size) = some A9.size) := Lib.hid (by rw [hA9, mfRow_size HMD.out]; exact Tryz.sizeMF)
  have HS9 : Hid ((mfRow mf0 (.slice none 0 0)).toArray.size = A9.size) := Lib.hid (by rw [hA9, mfRow_size HMD.out, mfRow_size dg_zero])
  have HO9 : Hid (A9.all (·.oneCell') = true) := Lib.hid (by rw [hA9]; exact all_one (mfRow_one _ rfl))
  have HA9 := Lib.hid hA9
  have HMP : Hid (M.ps = ps) := Lib.hid (by rw [hM2])
  have HMC : Hid (∀ W, Below W1.heap.size W1 W → Calls Tryz.prog 27 #[.agg A9] W fun e w' => e = .returned (errV (mchk M)) ∧ Below W.heap.size W w') := Lib.hid fun W hb => by
    rw [hA9]
    exact mcheck_any M _ W C (by rw [HMP.out]; exact HPS.out W hb) HMD.out
  clear hH hHd hM hM2 hep hA9 hB0
  go_wp2_with fail
  refine HHR.out.mono ?_
  rintro e w4 ⟨rfl, hb4⟩
  have HB4 := Lib.hid (HBC.out.trans (hb4.mono HBC.out.size))
  clear hb4
  go_wp2_with ((with_reducible show wpList _ _ _ (Oper.mk none _ _ _ _ _ :: _) _ _); go_must (refine wpList_store_new rfl 34 (.tmp 12) (.tmp 45) rfl w4 _ (vals .u8 H).toArray rfl rfl _ HHS.out (by rw [HH32.out]; rfl) (all_one (ptRow_valsQ H)) ?_))
  intro W5 hq5 hb5 hs5
  have HB5 := Lib.hid (HB4.out.trans (hb5.mono HB4.out.size))
  have HH5 : Hid (∀ W, Below W5.heap.size W5 W → W.heap[w4.heap.size]? = some (.cells (vals .u8 H).toArray 34 (0, 0))) := Lib.hid fun W hb => (hb.block _ (by omega)).trans hq5
  have HEO : Hid (∀ W, Below W5.heap.size W5 W → Calls Tryz.prog 26 #[.int .i64 x, .slice ap np cp] W fun e w' => e = .returned (.int .i64 ep) ∧ Below W.heap.size W w') := Lib.hid fun W hb => HEP.out W (HB5.out.trans (hb.mono HB5.out.size))
  clear hq5 hb5 hs5
  go_upto_region 9 with fail
  refine wp_region_extS (fun W => Below W5.heap.size W5 W) (Below.refl _ _).drew HMX.out ?_
  refine extS_take (i := 0) (d := 51) (v := ?_) rfl rfl (by kernel_rfl) (by kernel_rfl) (by kernel_rfl) (fun _ _ _ h => h) (by rfl) (fun W hS => ?_) ?_
  rotate_left
  · skip
    refine gives_value (w := W) ⟨Below.refl _ _, hS⟩ ?_; go_simp; try with_reducible rfl
  simp only [List.setIfInBounds_toArray, List.set_cons_zero, List.set_cons_succ]
  refine extS_take (i := 1) (d := 52) (v := ?_) rfl rfl (by kernel_rfl) (by kernel_rfl) (by kernel_rfl) (fun _ _ _ h => h) (by rfl) (fun W hS => ?_) ?_
  rotate_left
  · skip
    refine gives_value (w := W) ⟨Below.refl _ _, hS⟩ ?_; go_simp; try with_reducible rfl
  simp only [List.setIfInBounds_toArray, List.set_cons_zero, List.set_cons_succ]
  refine extS_take (i := 2) (d := 53) (v := ?_) rfl rfl (by kernel_rfl) (by kernel_rfl) (by kernel_rfl) (fun _ _ _ h => h) (by rfl) (fun W hS => ?_) ?_
  rotate_left
  · skip
    refine gives_value (w := W) ⟨Below.refl _ _, hS⟩ ?_; go_simp; try with_reducible rfl
  simp only [List.setIfInBounds_toArray, List.set_cons_zero, List.set_cons_succ]
  refine extS_take (i := 3) (d := 54) (v := ?_) rfl rfl (by kernel_rfl) (by kernel_rfl) (by kernel_rfl) (fun _ _ _ h => h) (by rfl) (fun W hS => ?_) ?_
  rotate_left
  · skip
    refine gives_value (w := W) ⟨Below.refl _ _, hS⟩ ?_; go_simp; try with_reducible rfl
  simp only [List.setIfInBounds_toArray, List.set_cons_zero, List.set_cons_succ]
  refine extS_take (i := 4) (d := 55) (v := ?_) rfl rfl (by kernel_rfl) (by kernel_rfl) (by kernel_rfl) (fun _ _ _ h => h) (by rfl) (fun W hS => ?_) ?_
  rotate_left
  · skip
    refine gives_value (w := W) ⟨Below.refl _ _, hS⟩ ?_; go_simp; try with_reducible rfl
  simp only [List.setIfInBounds_toArray, List.set_cons_zero, List.set_cons_succ]
  refine extS_take (i := 5) (d := 56) (v := ?_) rfl rfl (by kernel_rfl) (by kernel_rfl) (by kernel_rfl) (fun _ _ _ h => h) (by rfl) (fun W hS => ?_) ?_
  rotate_left
  · skip
    go_simp; refine Gives.enter ((HEO.out W hS).mono ?_); rintro e wn ⟨rfl, hbn⟩; refine ⟨?_, hbn, Below.trans hS (hbn.mono hS.size)⟩; with_reducible rfl
  simp only [List.setIfInBounds_toArray, List.set_cons_zero, List.set_cons_succ]
  refine extS_take (i := 6) (d := 57) (v := ?_) rfl rfl (by kernel_rfl) (by kernel_rfl) (by kernel_rfl) (fun _ _ _ h => h) (by rfl) (fun W hS => ?_) ?_
  rotate_left
  · skip
    refine gives_value (w := W) ⟨Below.refl _ _, hS⟩ ?_; go_simp; try with_reducible rfl
  simp only [List.setIfInBounds_toArray, List.set_cons_zero, List.set_cons_succ]
  refine extS_take (i := 7) (d := 58) (v := ?_) rfl rfl (by kernel_rfl) (by kernel_rfl) (by kernel_rfl) (fun _ _ _ h => h) (by rfl) (fun W hS => ?_) ?_
  rotate_left
  · skip
    (refine load_gives 34 (.tmp 12) ?_ w4.heap.size ?_ _ (vals .u8 H).toArray (0, 0) _ (HH5.out W hS) Tryz.underlying34 rfl HHS.out ?_ <;> first | rfl | exact ⟨Below.refl _ _, hS⟩)
  simp only [List.setIfInBounds_toArray, List.set_cons_zero, List.set_cons_succ]
  refine extS_take (i := 8) (d := 59) (v := ?_) rfl rfl (by kernel_rfl) (by kernel_rfl) (by kernel_rfl) (fun _ _ _ h => h) (by rfl) (fun W hS => ?_) ?_
  rotate_left
  · skip
    refine gives_value (w := W) ⟨Below.refl _ _, hS⟩ ?_; go_simp; try with_reducible rfl
  simp only [List.setIfInBounds_toArray, List.set_cons_zero, List.set_cons_succ]
  refine extS_take (i := 9) (d := 60) (v := .agg A9) rfl rfl (by kernel_rfl) (by kernel_rfl) (by kernel_rfl) (fun _ _ _ h => h) (by rfl) (fun W hS => ?_) ?_
  · refine gives_value (w := W) ⟨Below.refl _ _, hS⟩ ?_
    have hv32 := HV32.out
    go_simp
    rw [HFA.out, if_neg HFZ.out, HFB.out]
    rfl
  simp only [List.setIfInBounds_toArray, List.set_cons_zero, List.set_cons_succ]
  refine extS_one (i := 10) (by kernel_rfl) rfl (fun W6 hb6 hS6 => ?_)
  intro K hK
  rw [if_pos (by rfl)]
  unfold Oper.wp
  go_simp
  refine hK _ _ (hS6.alloc (hS6.size) _) ?_
  clear hK K
  obtain ⟨W7, hW7⟩ : ∃ W, W = W6.alloc (.cells (mfRow mf0 (.slice none 0 0)).toArray 43) := ⟨_, rfl⟩
  rw [← mf0_cells, ← hW7]
  refine extS_one (i := 11) (by kernel_rfl) rfl (fun W8 hb8 hS8 => ?_)
  intro K hK
  rw [if_pos (by rfl)]
  have hq7 : W7.heap[W6.heap.size]? = some (.cells (mfRow mf0 (.slice none 0 0)).toArray 43 (0, 0)) := by rw [hW7]; exact heap_alloc_new _ _
  have hq8 := (hb8.block _ (Array.getElem?_eq_some_iff.1 hq7).1).trans hq7
  refine wp_store_row 43 (.tmp 14) (.tmp 60) rfl W6.heap.size A9 rfl rfl _ _ hq8 HM9.out HS9.out HO9.out ?_
  obtain ⟨W9, hW9⟩ : ∃ W, W = W8.setRow W6.heap.size A9 := ⟨_, rfl⟩
  have hq9 : W9.heap[W6.heap.size]? = some (.cells A9 43 (0, 0)) := by rw [hW9]; exact setRow_heap _ _ _ _ _ _ hq8
  have hS9 : Below W5.heap.size W5 W9 := by rw [hW9]; exact hS8.trans ⟨rfl, rfl, rfl, by simp [World.setRow], fun j hj => setRow_other _ _ j _ (by have := hS6.size; omega)⟩
  rw [← hW9]
  refine hK _ _ hS9 ?_
  clear hK K
  refine extS_done (by kernel_rfl) (fun w10 hb10 hS10 => ?_) _
  have HQ10 := Lib.hid ((hb10.block _ (Array.getElem?_eq_some_iff.1 hq9).1).trans hq9)
  have HS10 := Lib.hid hS10
  have HQL : Hid (W5.heap.size ≤ W6.heap.size) := Lib.hid hS6.size
  have HQU : Hid (W6.heap.size < w10.heap.size) := Lib.hid (Array.getElem?_eq_some_iff.1 HQ10.out).1
  obtain ⟨q, hq⟩ : ∃ q, q = W6.heap.size := ⟨_, rfl⟩
  rw [← hq] at HQ10 HQL HQU ⊢
  clear hb6 hS6 hq7 hq8 hq9 hb8 hS8 hS9 hb10 hS10 hW7 hW9 hq

  have HB10 : Hid (Below W1.heap.size W1 w10) := Lib.hid (HB5.out.trans (HS10.out.mono HB5.out.size))
  have HMC10 := Lib.hid (HMC.out w10 HB10.out)
  go_wp2_with ((with_reducible show wpList _ _ _ (Oper.mk (some 61) _ _ _ _ _ :: _) _ _); go_must (refine wpList_load_row rfl 43 (.tmp 14) rfl q rfl _ A9 _ _ HQ10.out Tryz.underlying43 rfl HM9.out ?_))
  refine HMC10.out.mono ?_
  rintro e w11 ⟨rfl, hb11⟩
  have HB11 := Lib.hid (HB10.out.trans (hb11.mono HB10.out.size))
  have HQ11 := Lib.hid ((hb11.block _ HQU.out).trans HQ10.out)
  have HZ11 := Lib.hid ((HB11.out.block _ HS1.out).trans HZ1.out)
  have HBW11 := Lib.hid (HB1.out.trans (HB11.out.mono HB1.out.size))
  have HU11 : Hid (q < w11.heap.size) := Lib.hid (Nat.lt_of_lt_of_le HQU.out hb11.size)
  clear hb11
  obtain ⟨z, hz⟩ : ∃ z, z = mchk M := ⟨_, rfl⟩
  rw [← hz] at HNC ⊢
  have HZZ := Lib.hid hz
  by_cases hz0 : z = 0
  rotate_left
  · have H0 := Lib.hid hz0
    rw [errV_pos hz0]
    clear hz hz0
    go_wp2_with ((with_reducible show wpList _ _ _ (Oper.mk none _ _ _ _ _ :: _) _ _); rw [← mf0_cells]; go_must (refine wpList_store_box rfl 43 (.tmp 8) (.tmp 65) rfl w.heap.size (mfRow mf0 (.slice none 0 0)).toArray rfl rfl _ _ HZ11.out HM0.out rfl HO0.out ?_))
    intro WE hqe hbe _
    have HQE := Lib.hid hqe
    have HBE := Lib.hid (HBW11.out.trans hbe)
    clear hqe hbe
    go_wp2
    refine bodyPost_ret (v := .tuple #[.agg (mfRow mf0 (.slice none 0 0)).toArray, .iface 58 (.int .i64 (z : Int))]) (results_row_tmp (p := 8) rfl _ _ w.heap.size _ _ _ _ _ rfl rfl HQE.out Tryz.underlying43 rfl HM0.out) rfl ?_
    exact ⟨HBE.out, n, 0, HCC.out, .inr ⟨by rw [HNC.out]; exact H0.out, by rw [HNC.out, errV_pos H0.out] <;> rfl⟩⟩

  have HMZ : Hid (mchk M = 0) := Lib.hid (by rw [← hz, hz0])
  have HCL11 := Lib.hid (HCL.out w11 HB11.out (by have := (mchk_zero HMZ.out).2.2.2.1; rw [HMP.out, ← HNP.out] at this; omega))
  have HNZ : Hid (nextC l 0 x t ps = 0) := Lib.hid (by rw [HNC.out, hz0])
  rw [hz0, errV_zero]
  clear hz hz0
  go_wp2_with fail
  refine HCL11.out.mono ?_
  rintro e w12 ⟨v', rfl, hps, hb12⟩
  obtain ⟨a', c', rfl, _, _, _⟩ := hps.val
  rw [← HNP.out] at hps ⊢
  have hq12 : MB w12 q M (.slice ap np cp) 43 := by
    have := (hb12.block _ HU11.out).trans HQ11.out
    rw [HA9.out] at this; exact this
  obtain ⟨W13, hW13⟩ : ∃ W, W = w12.setCell ⟨q, 36, none⟩ (.slice a' np c') := ⟨_, rfl⟩
  have hq13 : MB W13 q M (.slice a' np c') 43 := by rw [hW13]; exact hq12.set36 HMD.out.1 _
  have hbq : W1.heap.size ≤ q := Nat.le_trans (Nat.le_trans HB5.out.size (Nat.le_refl _)) HQL.out
  have hb13 : Below W1.heap.size W1 W13 := by rw [hW13]; exact (HB11.out.trans (hb12.mono HB11.out.size)).setCell hbq _
  have HPS13 : Hid (PsAt W13 (fun j => w11.heap.size ≤ j) (.slice a' np c') ps) := Lib.hid (hps.keep (by rw [hW13]; exact ⟨by simp, fun j _ hj => Below.heap_setCell _ _ _ _ (by have := HU11.out; simp only; omega)⟩))
  obtain ⟨_, _, _, _, x36⟩ := hq12.x HMD.out
  have f36 := hq12.fz 36
  have HQ13 := Lib.hid hq13
  have HB13 := Lib.hid hb13
  have HW13 := Lib.hid hW13
  have HZ13 := Lib.hid ((hb13.block _ HS1.out).trans HZ1.out)
  have HL11 : Hid (w.heap.size ≤ w11.heap.size) := Lib.hid HBW11.out.size
  have HMR : Hid ((Tryz.prog.info? 43).map (·.size) = some (mfRow M (.slice a' np c')).toArray.size) := Lib.hid (by rw [mfRow_size HMD.out]; exact Tryz.sizeMF)
  have HMS : Hid ((mfRow mf0 (.slice none 0 0)).toArray.size = (mfRow M (.slice a' np c')).toArray.size) := Lib.hid (by rw [mfRow_size HMD.out, mfRow_size dg_zero])
  have HMO : Hid ((mfRow M (.slice a' np c')).toArray.all (·.oneCell') = true) := Lib.hid (all_one (mfRow_one _ rfl))
  clear hps hb12 hq12 hq13 hbq hb13 hW13
  go_wp2_with (first
    | ((with_reducible show wpList _ _ _ (Oper.mk (some 70) _ _ _ _ _ :: _) _ _); rw [← HW13.out]; go_must (refine wpList_load_row rfl 43 (.tmp 14) rfl q rfl _ (mfRow M (.slice a' np c')).toArray _ _ HQ13.out Tryz.underlying43 rfl HMR.out ?_))
    | ((with_reducible show wpList _ _ _ (Oper.mk none (.store 43 _ _) _ _ _ _ :: _) _ _); go_must (refine wpList_store_box rfl 43 (.tmp 8) (.tmp 70) rfl w.heap.size (mfRow M (.slice a' np c')).toArray rfl rfl _ _ HZ13.out HMR.out HMS.out HMO.out ?_)))
  intro WE hqe hbe hoe
  have HQE := Lib.hid hqe
  have HBE := Lib.hid ((HB1.out.trans (HB13.out.mono HB1.out.size)).trans hbe)
  have HPE : Hid (PsAt WE (fun j => w.heap.size ≤ j) (.slice a' np c') ps) := Lib.hid ((HPS13.out.keep ⟨hbe.size, fun j _ hj => hoe j (by have := HS1.out; have := HB11.out.size; omega)⟩).mono fun j _ hj => Nat.le_trans HL11.out hj)
  clear hqe hbe hoe x36 f36
  go_wp2
  refine bodyPost_ret (v := .tuple #[.agg (mfRow M (.slice a' np c')).toArray, .nilIface]) (results_row_tmp (p := 8) rfl _ _ w.heap.size _ _ _ _ _ rfl rfl HQE.out Tryz.underlying43 rfl HMR.out) rfl ?_
  exact ⟨HBE.out, n, 0, HCC.out, .inl ⟨HNZ.out, _, by rw [← HM.out], HPE.out⟩⟩

end Go.Proofs.YtgnalcobcdgnkaaGreatDoor
