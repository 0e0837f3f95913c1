/- Package chain: last, End, Mark, Head, endOf. · Package chain: follows. · Package chain: Check. · Package chain: Common. -/
import Derived.Test.YtgnalcobcdgnkaaGreatDoorQx
import Derived.Test.YtgnalcobcdgnkaaGreatDoorChM
import Derived.Test.YtgnalcobcdgnkaaGreatDoorQh
namespace Go.Proofs.YtgnalcobcdgnkaaGreatDoor
open Go.RowKit

def lastV (rs : List MV) : MV := mvd rs (rs.length - 1)
theorem lastV_fst (rs : List MV) : (lastV rs).1 = lastM (msOf rs) := by
  unfold lastV lastM mfd
  rw [msOf_length, mvd_fst]
def lastP (ps : List PT) : PT := if ps.length = 0 then (0, 0, 0, zero32) else ps.getD (ps.length - 1) (0, 0, 0, [])
theorem mvRow_size {r : MV} (h : Dg r.1.prev) : (mvRow r).toArray.size = 37 := mfRow_size h

set_option maxHeartbeats 2000000 in
set_option maxRecDepth 100000 in
theorem clast_any (v : Value) (rs : List MV) (w : World) (B : Nat → Prop) (h : MsAt w B v rs) :
    Calls Tryz.prog 24 #[v] w fun e w' => e = .returned (.tuple #[.agg (mvRow (lastV rs)).toArray, .bool (decide (rs.length ≠ 0))]) ∧ Below w.heap.size w w' := by
  obtain ⟨ao, cap, rfl, l1, m1, _⟩ := h.val
  obtain ⟨W1, hW1⟩ : ∃ W1, W1 = w.alloc (.cells (mfRow mf0 (.slice none 0 0)).toArray 43) := ⟨_, rfl⟩
  have hb1 : Below w.heap.size w W1 := by rw [hW1]; exact (Below.refl _ _).alloc (Nat.le_refl _) _
  have hx1 : W1.heap[w.heap.size]? = some (.cells (mfRow mf0 (.slice none 0 0)).toArray 43 (0, 0)) := by rw [hW1]; exact heap_alloc_new _ _
  have hdg : Dg (lastV rs).1.prev := h.dg _
  have hs1 : W1.heap.size = w.heap.size + 1 := by rw [hW1]; simp
  have HMS : Hid ((Tryz.prog.info? 43).map (·.size) = some (mvRow (lastV rs)).toArray.size) := Lib.hid (by rw [mvRow_size hdg]; exact Tryz.sizeMF)
  have HML : Hid ((Tryz.prog.info? 43).map (·.size) = some (mvRow (lastV rs)).length) := Lib.hid (by rw [mvRow_len hdg]; exact Tryz.sizeMF)
  have HSS : Hid ((mfRow mf0 (.slice none 0 0)).toArray.size = (mvRow (lastV rs)).toArray.size) := Lib.hid (by rw [mvRow_size hdg, mfRow_size dg_zero])
  have HB1 := Lib.hid hb1
  have HX1 := Lib.hid hx1
  by_cases h0 : rs.length = 0
  · obtain rfl : rs = [] := List.length_eq_zero_iff.1 h0
    obtain ⟨W2, hW2⟩ : ∃ W, W = W1.alloc (.cells (mfRow mf0 (.slice none 0 0)).toArray 43) := ⟨_, rfl⟩
    have hb2 : Below W1.heap.size W1 W2 := by rw [hW2]; exact (Below.refl _ _).alloc (Nat.le_refl _) _
    have HX2 : Hid (W2.heap[w.heap.size]? = some (.cells (mfRow mf0 (.slice none 0 0)).toArray 43 (0, 0))) := Lib.hid ((hb2.block _ (by omega)).trans hx1)
    have HY2 : Hid (W2.heap[w.heap.size + 1]? = some (.cells (mfRow mf0 (.slice none 0 0)).toArray 43 (0, 0))) := Lib.hid (by rw [hW2, ← hs1]; exact heap_alloc_new _ _)
    have HB2 : Hid (Below w.heap.size w W2) := Lib.hid (hb1.trans (hb2.mono hb1.size))
    have hlv : mvRow (lastV []) = mfRow mf0 (.slice none 0 0) := rfl
    rw [hlv] at HMS HML HSS ⊢
    have HON : Hid ((mfRow mf0 (.slice none 0 0)).toArray.all (·.oneCell') = true) := Lib.hid (all_one (mfRow_one _ rfl))
    rw [hW1, mf0_cells] at hW2
    obtain ⟨A, hA⟩ : ∃ A, A = (mfRow mf0 (.slice none 0 0)).toArray := ⟨_, rfl⟩
    rw [← hA] at HMS HSS HX2 HY2 HON ⊢
    have HW2 := Lib.hid hW2
    clear hW1 hb1 hx1 h hdg hs1 HX1 hb2 hW2 hlv hA h0 HML l1 m1
    go_enter Tryz.func24, Tryz.ntmps24
    go_wp2_with (first
      | ((with_reducible show wpList _ _ _ (Oper.mk (some 8) _ _ _ _ _ :: _) _ _); rw [← HW2.out]; go_must (refine wpList_load_row rfl 43 (.tmp 4) rfl (w.heap.size + 1) rfl _ A _ _ HY2.out Tryz.underlying43 rfl HMS.out ?_))
      | ((with_reducible show wpList _ _ _ (Oper.mk none _ _ _ _ _ :: _) _ _); go_must (refine wpList_store_box rfl 43 (.tmp 2) (.tmp 8) rfl w.heap.size A rfl rfl _ _ HX2.out HMS.out rfl HON.out ?_)))
    intro W4 hq4 hb4 _
    have HQ4 := Lib.hid hq4
    have HB4 := Lib.hid (HB2.out.trans hb4)
    clear hq4 hb4
    go_wp2
    refine bodyPost_ret (v := .tuple #[.agg A, .bool false]) (results_row_tmp (p := 2) rfl _ _ w.heap.size _ _ _ _ _ rfl rfl HQ4.out Tryz.underlying43 rfl HMS.out) rfl ?_
    exact ⟨rfl, HB4.out⟩
  · obtain ⟨k, hk⟩ : ∃ k, rs.length = k + 1 := ⟨rs.length - 1, by omega⟩
    have hlt : k < rs.length := by omega
    obtain ⟨b, off, rfl, _, _, hcell⟩ := (h.old hb1).at hlt
    have hlv : lastV rs = mvd rs k := by unfold lastV; rw [hk]; rfl
    rw [← hlv] at hcell
    have HCELL := Lib.hid hcell
    have HON : Hid ((mvRow (lastV rs)).toArray.all (·.oneCell') = true) := Lib.hid (all_one (mfRow_one _ (by obtain ⟨_, _, e, _⟩ := (h.ps (rs.length - 1)).val; show (mvd rs (rs.length - 1)).2.oneCell' = true; rw [e]; rfl)))
    obtain ⟨n, hn⟩ : ∃ n, n = rs.length := ⟨_, rfl⟩
    rw [← hn] at hk hlt h0 l1 h ⊢
    have hnm : (n : Int) ≤ 9223372036854775807 := by unfold maxLen at m1; omega
    have hwr : wrap64 ((n : Int) - 1) = (k : Int) := by rw [IntWalk.wrap64_in _ (by omega)]; omega
    have hki : (k : Int) < (n : Int) := by omega
    have h0b : ((n : Int) == 0) = false := by simp; omega
    have HD : Hid (decide (n ≠ 0) = true) := Lib.hid (by simp [h0])
    rw [HD.out]
    rw [mf0_cells] at hW1
    obtain ⟨r, hr⟩ : ∃ r, r = mvRow (lastV rs) := ⟨_, rfl⟩
    rw [← hr] at HMS HML HSS HCELL HON ⊢
    have HW1 := Lib.hid hW1
    have hkn : k = n - 1 := by omega
    rw [hkn] at HCELL
    clear hW1 hb1 hx1 h hdg hs1 hkn hk hlt hcell hlv hn hr l1 m1 h0
    go_enter Tryz.func24, Tryz.ntmps24
    go_wp2_with (first
      | ((with_reducible show wpList _ _ _ (Oper.mk (some 14) _ _ _ _ _ :: _) _ _); rw [← HW1.out]; go_must (refine wpList_load_at rfl 43 (.tmp 13) rfl b (off + (n - 1) * 37) rfl r _ HCELL.out Tryz.underlying43 rfl HML.out ?_))
      | ((with_reducible show wpList _ _ _ (Oper.mk none _ _ _ _ _ :: _) _ _); go_must (refine wpList_store_box rfl 43 (.tmp 2) (.tmp 14) rfl w.heap.size r.toArray rfl rfl _ _ HX1.out HMS.out HSS.out HON.out ?_)))
    intro W4 hq4 hb4 _
    have HQ4 := Lib.hid hq4
    have HB4 := Lib.hid (HB1.out.trans hb4)
    clear hq4 hb4
    go_wp2
    refine bodyPost_ret (v := .tuple #[.agg r.toArray, .bool true]) (results_row_tmp (p := 2) rfl _ _ w.heap.size _ _ _ _ _ rfl rfl HQ4.out Tryz.underlying43 rfl HMS.out) rfl ?_
    exact ⟨rfl, HB4.out⟩

theorem MsAt.one {w : World} {B : Nat → Prop} {v : Value} {rs : List MV} (h : MsAt w B v rs) (i : Nat) : (mvRow (mvd rs i)).toArray.all (·.oneCell') = true :=
  all_one (mfRow_one _ (by obtain ⟨_, _, e, _⟩ := (h.ps i).val; rw [e]; rfl))

set_option maxHeartbeats 2000000 in
set_option maxRecDepth 100000 in
theorem cend_any (v : Value) (rs : List MV) (w : World) (B : Nat → Prop) (h : MsAt w B v rs) :
    Calls Tryz.prog 13 #[v] w fun e w' => e = .returned (.int .i64 (lastM (msOf rs)).upto) ∧ Below w.heap.size w w' := by
  have HL := Lib.hid (clast_any v rs w B h)
  have hdg : Dg (lastV rs).1.prev := h.dg _
  have HMS : Hid ((Tryz.prog.info? 43).map (·.size) = some (mvRow (lastV rs)).toArray.size) := Lib.hid (by rw [mvRow_size hdg]; exact Tryz.sizeMF)
  have HSS : Hid ((mvRow (lastV rs)).toArray.size = 37) := Lib.hid (mvRow_size hdg)
  have HON : Hid ((mvRow (lastV rs)).toArray.all (·.oneCell') = true) := Lib.hid (h.one _)
  have HFS := Lib.hid (lastV_fst rs)
  have HDG := Lib.hid hdg
  have HE : Hid (mvRow (lastV rs) = mfRow (lastV rs).1 (lastV rs).2) := Lib.hid rfl
  obtain ⟨A, hA⟩ : ∃ A, A = (mvRow (lastV rs)).toArray := ⟨_, rfl⟩
  rw [← hA] at HL HMS HSS HON
  have HA := Lib.hid hA
  clear h hdg hA
  go_enter Tryz.func13, Tryz.ntmps13
  go_wp2_with fail
  refine HL.out.mono ?_
  rintro e w2 ⟨rfl, hb2⟩
  have HB2 := Lib.hid hb2
  clear hb2
  go_wp2_with ((with_reducible show wpList _ _ _ (Oper.mk none _ _ _ _ _ :: _) _ _); go_must (refine wpList_store_new rfl 43 (.tmp 3) (.tmp 8) rfl w2 _ A rfl rfl _ HMS.out (by rw [HSS.out]; rfl) HON.out ?_))
  intro W3 hq3 hb3 hs3
  have hq3 : MB W3 w2.heap.size (lastV rs).1 (lastV rs).2 43 := by rw [HA.out, HE.out] at hq3; exact hq3
  obtain ⟨x0, x1, x2, x3, x36⟩ := hq3.x HDG.out
  rw [HFS.out] at x0 x1 x2 x3
  have HB3 := Lib.hid (HB2.out.trans (hb3.mono HB2.out.size))
  clear hq3 hb3 hs3
  go_wp2
  go_ret
  exact ⟨rfl, HB3.out⟩

set_option maxHeartbeats 2000000 in
set_option maxRecDepth 100000 in
theorem cmark_any (v : Value) (rs : List MV) (w : World) (B : Nat → Prop) (h : MsAt w B v rs) :
    Calls Tryz.prog 14 #[v] w fun e w' => e = .returned (.int .i64 (lastM (msOf rs)).trim) ∧ Below w.heap.size w w' := by
  have HL := Lib.hid (clast_any v rs w B h)
  have hdg : Dg (lastV rs).1.prev := h.dg _
  have HMS : Hid ((Tryz.prog.info? 43).map (·.size) = some (mvRow (lastV rs)).toArray.size) := Lib.hid (by rw [mvRow_size hdg]; exact Tryz.sizeMF)
  have HSS : Hid ((mvRow (lastV rs)).toArray.size = 37) := Lib.hid (mvRow_size hdg)
  have HON : Hid ((mvRow (lastV rs)).toArray.all (·.oneCell') = true) := Lib.hid (h.one _)
  have HFS := Lib.hid (lastV_fst rs)
  have HDG := Lib.hid hdg
  have HE : Hid (mvRow (lastV rs) = mfRow (lastV rs).1 (lastV rs).2) := Lib.hid rfl
  obtain ⟨A, hA⟩ : ∃ A, A = (mvRow (lastV rs)).toArray := ⟨_, rfl⟩
  rw [← hA] at HL HMS HSS HON
  have HA := Lib.hid hA
  clear h hdg hA
  go_enter Tryz.func14, Tryz.ntmps14
  go_wp2_with fail
  refine HL.out.mono ?_
  rintro e w2 ⟨rfl, hb2⟩
  have HB2 := Lib.hid hb2
  clear hb2
  go_wp2_with ((with_reducible show wpList _ _ _ (Oper.mk none _ _ _ _ _ :: _) _ _); go_must (refine wpList_store_new rfl 43 (.tmp 3) (.tmp 8) rfl w2 _ A rfl rfl _ HMS.out (by rw [HSS.out]; rfl) HON.out ?_))
  intro W3 hq3 hb3 hs3
  have hq3 : MB W3 w2.heap.size (lastV rs).1 (lastV rs).2 43 := by rw [HA.out, HE.out] at hq3; exact hq3
  obtain ⟨x0, x1, x2, x3, x36⟩ := hq3.x HDG.out
  rw [HFS.out] at x0 x1 x2 x3
  have HB3 := Lib.hid (HB2.out.trans (hb3.mono HB2.out.size))
  clear hq3 hb3 hs3
  go_wp2
  go_ret
  exact ⟨rfl, HB3.out⟩

/-- What Head answers. -/
def CHeadPost (l : List MF) (w : World) (e : Ending) (w' : World) : Prop := e = .returned (.tuple #[.agg (vals .u8 (headR l)).toArray, errV (headC l)]) ∧ Below w.heap.size w w'

set_option maxHeartbeats 4000000 in
set_option maxRecDepth 100000 in
theorem chead_any (v : Value) (rs : List MV) (w : World) (B : Nat → Prop) (h : MsAt w B v rs) (hld : Laid w) :
    Calls Tryz.prog 9 #[v] w (CHeadPost (msOf rs) w) := by
  obtain ⟨W1, hW1⟩ : ∃ W1, W1 = w.alloc (.cells (vals .u8 zero32).toArray 34) := ⟨_, rfl⟩
  have hb1 : Below w.heap.size w W1 := by rw [hW1]; exact (Below.refl _ _).alloc (Nat.le_refl _) _
  have hz1 : W1.heap[w.heap.size]? = some (.cells (vals .u8 zero32).toArray 34 (0, 0)) := by rw [hW1]; exact heap_alloc_new _ _
  have hs1 : W1.heap.size = w.heap.size + 1 := by rw [hW1]; simp
  have h1 := h.old hb1
  have HL := Lib.hid (clast_any v rs W1 B h1)
  have hdg : Dg (lastV rs).1.prev := h.dg _
  have HMS : Hid ((Tryz.prog.info? 43).map (·.size) = some (mvRow (lastV rs)).toArray.size) := Lib.hid (by rw [mvRow_size hdg]; exact Tryz.sizeMF)
  have HSS : Hid ((mvRow (lastV rs)).toArray.size = 37) := Lib.hid (mvRow_size hdg)
  have HON : Hid ((mvRow (lastV rs)).toArray.all (·.oneCell') = true) := Lib.hid (h.one _)
  have HFS := Lib.hid (lastV_fst rs)
  have HDG := Lib.hid hdg
  have HDC : Hid (∀ W, Below W1.heap.size W1 W → Calls Tryz.prog 19 #[.agg (mvRow (lastV rs)).toArray] W (MDigPost (lastV rs).1 W)) := Lib.hid fun W hb => mdigest_any _ _ W B ((h1.old hb).ps _) hdg ((hld.next hb1).next hb)
  obtain ⟨A, hA⟩ : ∃ A, A = (mvRow (lastV rs)).toArray := ⟨_, rfl⟩
  rw [← hA] at HL HMS HSS HON HDC
  have HB1 := Lib.hid hb1
  have HZ1 := Lib.hid hz1
  have HS1 := Lib.hid hs1
  rw [rsha_zero] at hW1
  have HW1 := Lib.hid hW1
  have HDZ : Hid ((Tryz.prog.info? 34).map (·.size) = some (vals .u8 zero32).toArray.size) := Lib.hid (by rw [List.size_toArray, vals_length]; exact Tryz.sizeDG)
  have HLN := Lib.hid (msOf_length rs)
  obtain ⟨n, hn⟩ : ∃ n, n = rs.length := ⟨_, rfl⟩
  rw [← hn] at HL HLN
  clear h h1 hdg hA hb1 hz1 hs1 hW1 hld hn
  by_cases h0 : n = 0
  · have HD : Hid (decide (n ≠ 0) = false) := Lib.hid (by simp [h0])
    have HP : Hid (headR (msOf rs) = zero32 ∧ headC (msOf rs) = 0) := Lib.hid (by
      have hc : headC (msOf rs) = 0 := by unfold headC; rw [HLN.out, if_pos h0]
      exact ⟨by unfold headR headM; rw [if_neg (by rw [hc]; simp), HLN.out, if_pos h0], hc⟩)
    rw [HD.out] at HL
    clear h0
    go_enter Tryz.func9, Tryz.ntmps9
    go_wp2_with fail
    rw [← HW1.out]
    refine HL.out.mono ?_
    rintro e w2 ⟨rfl, hb2⟩
    have HB2 := Lib.hid (HB1.out.trans (hb2.mono HB1.out.size))
    have HZ2 := Lib.hid ((hb2.block _ (by have := HS1.out; omega)).trans HZ1.out)
    have HS2 : Hid (w.heap.size < w2.heap.size) := Lib.hid (by have := hb2.size; have := HS1.out; omega)
    clear hb2
    go_wp2_with ((with_reducible show wpList _ _ _ (Oper.mk none _ _ _ _ _ :: _) _ _); go_must (refine wpList_store_new rfl 43 (.tmp 4) (.tmp 9) rfl w2 _ A rfl rfl _ HMS.out (by rw [HSS.out]; rfl) HON.out ?_))
    intro W3 hq3 hb3 hs3
    have HB3 := Lib.hid (HB2.out.trans (hb3.mono HB2.out.size))
    have HZ3 := Lib.hid ((hb3.block _ HS2.out).trans HZ2.out)
    clear hq3 hb3 hs3
    go_wp2_with ((with_reducible show wpList _ _ _ (Oper.mk none _ _ _ _ _ :: _) _ _); rw [← rsha_zero]; go_must (refine wpList_store_box rfl 34 (.tmp 2) (.tmp 13) rfl w.heap.size (vals .u8 zero32).toArray rfl rfl _ _ HZ3.out HDZ.out rfl (all_one (ptRow_valsQ zero32)) ?_))
    intro W4 hq4 hb4 _
    have HQ4 := Lib.hid hq4
    have HB4 := Lib.hid (HB3.out.trans hb4)
    clear hq4 hb4
    go_wp2
    refine bodyPost_ret (v := .tuple #[.agg (vals .u8 zero32).toArray, .nilIface]) (results_row_tmp (p := 2) rfl _ _ w.heap.size _ _ _ _ _ rfl rfl HQ4.out Tryz.underlying34 rfl HDZ.out) rfl ?_
    exact ⟨by rw [HP.out.1, HP.out.2]; rfl, HB4.out⟩
  · have HD : Hid (decide (n ≠ 0) = true) := Lib.hid (by simp [h0])
    have HP : Hid (headC (msOf rs) = mchk (lastV rs).1 ∧ (mchk (lastV rs).1 = 0 → headR (msOf rs) = mdig (lastV rs).1) ∧ (mchk (lastV rs).1 ≠ 0 → headR (msOf rs) = zero32)) := Lib.hid (by
      have hc : headC (msOf rs) = mchk (lastV rs).1 := by unfold headC; rw [HLN.out, if_neg h0, HFS.out]
      refine ⟨hc, fun hz => ?_, fun hz => ?_⟩
      · unfold headR headM
        rw [if_neg (by rw [hc, hz]; simp), HLN.out, if_neg h0, HFS.out]
      · unfold headR
        rw [if_pos (by rw [hc]; exact hz)])
    rw [HD.out] at HL
    clear h0
    go_enter Tryz.func9, Tryz.ntmps9
    go_wp2_with fail
    rw [← HW1.out]
    refine HL.out.mono ?_
    rintro e w2 ⟨rfl, hb2⟩
    have HB2 := Lib.hid hb2
    have HZ2 := Lib.hid ((hb2.block _ (by have := HS1.out; omega)).trans HZ1.out)
    have HS2 : Hid (w.heap.size < w2.heap.size) := Lib.hid (by have := hb2.size; have := HS1.out; omega)
    clear hb2
    go_wp2_with ((with_reducible show wpList _ _ _ (Oper.mk none _ _ _ _ _ :: _) _ _); go_must (refine wpList_store_new rfl 43 (.tmp 4) (.tmp 9) rfl w2 _ A rfl rfl _ HMS.out (by rw [HSS.out]; rfl) HON.out ?_))
    intro W3 hq3 hb3 hs3
    have HQ3 := Lib.hid hq3
    have HB3 := Lib.hid (HB2.out.trans (hb3.mono HB2.out.size))
    have HZ3 := Lib.hid ((hb3.block _ HS2.out).trans HZ2.out)
    have HS3 : Hid (w.heap.size < W3.heap.size) := Lib.hid (by have := HS2.out; omega)
    have HD3 := Lib.hid (HDC.out W3 HB3.out)
    clear hq3 hb3 hs3
    go_wp2_with ((with_reducible show wpList _ _ _ (Oper.mk (some 14) _ _ _ _ _ :: _) _ _); go_must (refine wpList_load_row rfl 43 (.tmp 4) rfl w2.heap.size rfl _ A _ _ HQ3.out Tryz.underlying43 rfl HMS.out ?_))
    refine HD3.out.mono ?_
    rintro e w4 ⟨hb4, h4⟩
    have HB4 := Lib.hid (HB1.out.trans ((HB3.out.trans (hb4.mono HB3.out.size)).mono HB1.out.size))
    have HZ4 := Lib.hid ((hb4.block _ HS3.out).trans HZ3.out)
    obtain ⟨D, er, rfl, hD, hdd⟩ : ∃ D er, e = .returned (.tuple #[.agg (vals .u8 D).toArray, er]) ∧ (D = headR (msOf rs) ∧ er = errV (headC (msOf rs))) ∧ D.length = 32 := by
      rcases h4 with ⟨hz, rfl⟩ | ⟨hz, rfl⟩
      · exact ⟨_, _, rfl, ⟨(HP.out.2.1 hz).symm, by rw [HP.out.1, hz]; rfl⟩, sha_len _⟩
      · exact ⟨_, _, rfl, ⟨(HP.out.2.2 hz).symm, by rw [HP.out.1]⟩, by simp [zero32]⟩
    have HDD := Lib.hid hD
    have HDS : Hid ((Tryz.prog.info? 34).map (·.size) = some (vals .u8 D).toArray.size) := Lib.hid (by rw [List.size_toArray, vals_length, hdd]; exact Tryz.sizeDG)
    have HD0 : Hid ((vals .u8 zero32).toArray.size = (vals .u8 D).toArray.size) := Lib.hid (by rw [List.size_toArray, List.size_toArray, vals_length, vals_length, hdd]; rfl)
    clear hb4 h4 hD hdd
    go_wp2_with ((with_reducible show wpList _ _ _ (Oper.mk none _ _ _ _ _ :: _) _ _); go_must (refine wpList_store_box rfl 34 (.tmp 2) (.tmp 16) rfl w.heap.size (vals .u8 D).toArray rfl rfl _ _ HZ4.out HDS.out HD0.out (all_one (ptRow_valsQ D)) ?_))
    intro W5 hq5 hb5 _
    have HQ5 := Lib.hid hq5
    have HB5 := Lib.hid (HB4.out.trans hb5)
    clear hq5 hb5
    go_wp2
    refine bodyPost_ret (v := .tuple #[.agg (vals .u8 D).toArray, er]) (results_row_tmp (p := 2) rfl _ _ w.heap.size _ _ _ _ _ rfl rfl HQ5.out Tryz.underlying34 rfl HDS.out) rfl ?_
    exact ⟨by rw [HDD.out.1, HDD.out.2], HB5.out⟩

end Go.Proofs.YtgnalcobcdgnkaaGreatDoor

namespace Go.Proofs.YtgnalcobcdgnkaaGreatDoor
open Go.RowKit

/-- Whether a manifest follows, by a head that is told. -/
def folB (l : List MF) (hd : List Nat) (m : MF) : Bool := decide (m.num = (l.length : Int) ∧ m.prev = hd ∧ (lastM l).trim ≤ m.trim ∧ (l.length = 0 ∨ m.fro = (lastM l).upto))
theorem folB_head {l : List MF} {m : MF} : folB l (headM l) m = decide (folP l m) := by unfold folB folP; rfl
theorem neq_digests (a b : List Nat) (ha : a.length = 32) (hb : b.length = 32) (w : World) : (binOp .neq 34 (.agg (vals .u8 a).toArray) (.agg (vals .u8 b).toArray)).run Tryz.prog w = .ok (.bool (!(a == b))) w := by
  have this : (Op.equal 34 (.agg (vals .u8 a).toArray) (.agg (vals .u8 b).toArray)).run Tryz.prog w = .ok (a == b) w := eq_digestsM a b ha hb w
  simp [binOp, this]

set_option maxHeartbeats 8000000 in
set_option maxRecDepth 100000 in
theorem cfollows_any (v : Value) (rs : List MV) (hd : List Nat) (m : MF) (mv : Value) (w : World) (B : Nat → Prop) (h : MsAt w B v rs) (hh : Dg hd) (hm : Dg m.prev) :
    Calls Tryz.prog 20 #[v, .agg (vals .u8 hd).toArray, .agg (mfRow m mv).toArray] w fun e w' => e = .returned (.bool (folB (msOf rs) hd m)) ∧ Below w.heap.size w w' := by
  obtain ⟨ao, cap, rfl, l1, m1, _⟩ := h.val
  obtain ⟨W1, hW1⟩ : ∃ W1, W1 = (w.alloc (.cells (vals .u8 hd).toArray 34)).alloc (.cells (mfRow m mv).toArray 43) := ⟨_, rfl⟩
  have hb1 : Below w.heap.size w W1 := by rw [hW1]; exact ((Below.refl _ _).alloc (Nat.le_refl _) _).alloc (by simp) _
  have hd1 : W1.heap[w.heap.size]? = some (.cells (vals .u8 hd).toArray 34 (0, 0)) := by rw [hW1, Below.heap_alloc _ _ _ (by simp)]; exact heap_alloc_new _ _
  have hx1 : MB W1 (w.heap.size + 1) m mv 43 := by
    have := mb_new (w.alloc (.cells (vals .u8 hd).toArray 34)) m mv 43
    rw [hW1]; simpa using this
  have HX : Hid (∀ W, Below W1.heap.size W1 W → W.cell? ⟨w.heap.size + 1, 0, none⟩ = some (.int .i64 m.num) ∧ W.cell? ⟨w.heap.size + 1, 1, none⟩ = some (.int .i64 m.fro) ∧ W.cell? ⟨w.heap.size + 1, 3, none⟩ = some (.int .i64 m.trim)) := Lib.hid fun W hb => by
    obtain ⟨a, b, _, d, _⟩ := (hx1.old hb).x hm
    exact ⟨a, b, d⟩
  have HPV : Hid (∀ W, Below W1.heap.size W1 W → ∀ j u, (vals .u8 m.prev)[j]? = some u → W.cell? ⟨w.heap.size + 1, 4 + j, none⟩ = some u) := Lib.hid fun W hb => (hx1.old hb).prev
  have HBX : Hid (∀ W, Below W1.heap.size W1 W → W.heap[w.heap.size]? = some (.cells (vals .u8 hd).toArray 34 (0, 0))) := Lib.hid fun W hb => (hb.block _ (Array.getElem?_eq_some_iff.1 hd1).1).trans hd1
  have HDS : Hid ((Tryz.prog.info? 34).map (·.size) = some (vals .u8 m.prev).length) := Lib.hid (by rw [vals_length, hm.1]; exact Tryz.sizeDG)
  have HDH : Hid ((Tryz.prog.info? 34).map (·.size) = some (vals .u8 hd).toArray.size) := Lib.hid (by rw [List.size_toArray, vals_length, hh.1]; exact Tryz.sizeDG)
  have HMX : Hid (Tryz.prog.follows .mixedOrders = true) := Lib.hid (by kernel_rfl)
  have h1 := h.old hb1
  have HMK : Hid (∀ W, Below W1.heap.size W1 W → Calls Tryz.prog 14 #[.slice ao rs.length cap] W fun e w' => e = .returned (.int .i64 (lastM (msOf rs)).trim) ∧ Below W.heap.size W w') := Lib.hid fun W hb => cmark_any _ rs W B (h1.old hb)
  have HEN : Hid (∀ W, Below W1.heap.size W1 W → Calls Tryz.prog 13 #[.slice ao rs.length cap] W fun e w' => e = .returned (.int .i64 (lastM (msOf rs)).upto) ∧ Below W.heap.size W w') := Lib.hid fun W hb => cend_any _ rs W B (h1.old hb)
  have HNE : Hid (∀ W, (binOp .neq 34 (.agg (vals .u8 m.prev).toArray) (.agg (vals .u8 hd).toArray)).run Tryz.prog W = .ok (.bool (!(m.prev == hd))) W) := Lib.hid fun W => neq_digests _ _ hm.1 hh.1 W
  have HB1 := Lib.hid hb1
  obtain ⟨n, hn⟩ : ∃ n, n = rs.length := ⟨_, rfl⟩
  rw [← hn] at HMK HEN h l1 ⊢
  obtain ⟨z, hz⟩ : ∃ z, z = folB (msOf rs) hd m := ⟨_, rfl⟩
  rw [← hz]
  have hzz : z = decide (m.num = (n : Int) ∧ m.prev = hd ∧ (lastM (msOf rs)).trim ≤ m.trim ∧ (n = 0 ∨ m.fro = (lastM (msOf rs)).upto)) := by rw [hz, hn, ← msOf_length rs]; rfl
  have HZ := Lib.hid hzz
  obtain ⟨D1, hD1⟩ : ∃ A, A = (vals .u8 hd).toArray := ⟨_, rfl⟩
  obtain ⟨A1, hA1⟩ : ∃ A, A = (mfRow m mv).toArray := ⟨_, rfl⟩
  rw [← hD1] at hW1 HBX HDH HNE ⊢
  rw [← hA1] at hW1 ⊢
  have HW1 := Lib.hid hW1
  generalize (lastM (msOf rs)).trim = mk at *
  generalize (lastM (msOf rs)).upto = en at *
  obtain ⟨pq, hpq⟩ : ∃ x, x = (m.prev == hd) := ⟨_, rfl⟩
  rw [← hpq] at HNE
  have HPQ := Lib.hid hpq
  generalize m.num = nu at *
  generalize m.fro = fo at *
  generalize m.trim = tr at *
  clear hb1 hd1 hx1 h1 h hm hh hn hz hzz hD1 hA1 hW1 hpq l1 m1
  by_cases g1 : nu = (n : Int)
  rotate_left
  · have g1b : (nu != (n : Int)) = true := by simp [g1]
    have HE : Hid (z = false) := Lib.hid (by rw [HZ.out]; simp [g1])
    clear g1
    go_enter Tryz.func20, Tryz.ntmps20
    go_upto_region 1 with fail
    rw [← HW1.out]
    refine wp_region_extS (fun W => Below W1.heap.size W1 W) (Below.refl _ _).drew HMX.out ?_
    refine extS_take (i := 0) (d := 7) (v := ?_) rfl rfl (by kernel_rfl) (by kernel_rfl) (by kernel_rfl) (fun _ _ _ h => h) (by rfl) (fun W hS => ?_) ?_
    rotate_left
    · skip
      refine gives_value (w := W) ⟨Below.refl _ _, hS⟩ ?_; go_simp; try with_reducible rfl
    simp only [List.setIfInBounds_toArray, List.set_cons_zero, List.set_cons_succ]
    refine extS_take (i := 1) (d := 8) (v := ?_) rfl rfl (by kernel_rfl) (by kernel_rfl) (by kernel_rfl) (fun _ _ _ h => h) (by rfl) (fun W hS => ?_) ?_
    rotate_left
    · skip
      obtain ⟨z0, z1, z3⟩ := HX.out W hS
      refine gives_value (w := W) ⟨Below.refl _ _, hS⟩ ?_; go_simp; try with_reducible rfl
    simp only [List.setIfInBounds_toArray, List.set_cons_zero, List.set_cons_succ]
    refine extS_take (i := 2) (d := 9) (v := ?_) rfl rfl (by kernel_rfl) (by kernel_rfl) (by kernel_rfl) (fun _ _ _ h => h) (by rfl) (fun W hS => ?_) ?_
    rotate_left
    · skip
      refine gives_value (w := W) ⟨Below.refl _ _, hS⟩ ?_; go_simp; try with_reducible rfl
    simp only [List.setIfInBounds_toArray, List.set_cons_zero, List.set_cons_succ]
    refine extS_take (i := 3) (d := 10) (v := ?_) rfl rfl (by kernel_rfl) (by kernel_rfl) (by kernel_rfl) (fun _ _ _ h => h) (by rfl) (fun W hS => ?_) ?_
    rotate_left
    · skip
      refine gives_value (w := W) ⟨Below.refl _ _, hS⟩ ?_; go_simp; try with_reducible rfl
    simp only [List.setIfInBounds_toArray, List.set_cons_zero, List.set_cons_succ]
    refine extS_take (i := 4) (d := 11) (v := ?_) rfl rfl (by kernel_rfl) (by kernel_rfl) (by kernel_rfl) (fun _ _ _ h => h) (by rfl) (fun W hS => ?_) ?_
    rotate_left
    · skip
      refine gives_value (w := W) ⟨Below.refl _ _, hS⟩ ?_; go_simp; try with_reducible rfl
    simp only [List.setIfInBounds_toArray, List.set_cons_zero, List.set_cons_succ]
    refine extS_take (i := 5) (d := 12) (v := ?_) rfl rfl (by kernel_rfl) (by kernel_rfl) (by kernel_rfl) (fun _ _ _ h => h) (by rfl) (fun W hS => ?_) ?_
    rotate_left
    · skip
      refine gives_value (w := W) ⟨Below.refl _ _, hS⟩ ?_; go_simp; try with_reducible rfl
    simp only [List.setIfInBounds_toArray, List.set_cons_zero, List.set_cons_succ]
    refine extS_skip (i := 6) (d := 13) rfl rfl (by kernel_rfl) (by kernel_rfl) (by kernel_rfl) (fun _ _ _ h => h) (by rfl) ?_
    simp only [List.setIfInBounds_toArray, List.set_cons_zero, List.set_cons_succ]
    refine extS_skip (i := 7) (d := 14) rfl rfl (by kernel_rfl) (by kernel_rfl) (by kernel_rfl) (fun _ _ _ h => h) (by rfl) ?_
    simp only [List.setIfInBounds_toArray, List.set_cons_zero, List.set_cons_succ]
    refine extS_skip (i := 8) (d := 15) rfl rfl (by kernel_rfl) (by kernel_rfl) (by kernel_rfl) (fun _ _ _ h => h) (by rfl) ?_
    simp only [List.setIfInBounds_toArray, List.set_cons_zero, List.set_cons_succ]
    refine extS_skip (i := 9) (d := 16) rfl rfl (by kernel_rfl) (by kernel_rfl) (by kernel_rfl) (fun _ _ _ h => h) (by rfl) ?_
    simp only [List.setIfInBounds_toArray, List.set_cons_zero, List.set_cons_succ]
    refine extS_take (i := 10) (d := 17) (v := ?_) rfl rfl (by kernel_rfl) (by kernel_rfl) (by kernel_rfl) (fun _ _ _ h => h) (by rfl) (fun W hS => ?_) ?_
    rotate_left
    · skip
      refine gives_value (w := W) ⟨Below.refl _ _, hS⟩ ?_; go_simp; try with_reducible rfl
    simp only [List.setIfInBounds_toArray, List.set_cons_zero, List.set_cons_succ]
    refine extS_take (i := 11) (d := 18) (v := ?_) rfl rfl (by kernel_rfl) (by kernel_rfl) (by kernel_rfl) (fun _ _ _ h => h) (by rfl) (fun W hS => ?_) ?_
    rotate_left
    · skip
      refine gives_value (w := W) ⟨Below.refl _ _, hS⟩ ?_; go_simp; try with_reducible rfl
    simp only [List.setIfInBounds_toArray, List.set_cons_zero, List.set_cons_succ]
    refine extS_skip (i := 12) (d := 19) rfl rfl (by kernel_rfl) (by kernel_rfl) (by kernel_rfl) (fun _ _ _ h => h) (by rfl) ?_
    simp only [List.setIfInBounds_toArray, List.set_cons_zero, List.set_cons_succ]
    refine extS_skip (i := 13) (d := 20) rfl rfl (by kernel_rfl) (by kernel_rfl) (by kernel_rfl) (fun _ _ _ h => h) (by rfl) ?_
    simp only [List.setIfInBounds_toArray, List.set_cons_zero, List.set_cons_succ]
    refine extS_skip (i := 14) (d := 21) rfl rfl (by kernel_rfl) (by kernel_rfl) (by kernel_rfl) (fun _ _ _ h => h) (by rfl) ?_
    simp only [List.setIfInBounds_toArray, List.set_cons_zero, List.set_cons_succ]
    refine extS_skip (i := 15) (d := 22) rfl rfl (by kernel_rfl) (by kernel_rfl) (by kernel_rfl) (fun _ _ _ h => h) (by rfl) ?_
    simp only [List.setIfInBounds_toArray, List.set_cons_zero, List.set_cons_succ]
    refine extS_skip (i := 16) (d := 23) rfl rfl (by kernel_rfl) (by kernel_rfl) (by kernel_rfl) (fun _ _ _ h => h) (by rfl) ?_
    simp only [List.setIfInBounds_toArray, List.set_cons_zero, List.set_cons_succ]
    refine extS_take (i := 17) (d := 24) (v := ?_) rfl rfl (by kernel_rfl) (by kernel_rfl) (by kernel_rfl) (fun _ _ _ h => h) (by rfl) (fun W hS => ?_) ?_
    rotate_left
    · skip
      refine gives_value (w := W) ⟨Below.refl _ _, hS⟩ ?_; go_simp; try with_reducible rfl
    simp only [List.setIfInBounds_toArray, List.set_cons_zero, List.set_cons_succ]
    refine extS_done (by kernel_rfl) (fun w11 _ hS11 => ?_) _
    have HS11 := Lib.hid hS11
    clear hS11
    go_wp2
    go_ret
    exact ⟨by rw [HE.out]; rfl, HB1.out.trans (HS11.out.mono HB1.out.size)⟩
  have g1b : (nu != (n : Int)) = false := by simp [g1]
  have HG1 := Lib.hid g1
  clear g1
  cases pq
  · have HE : Hid (z = false) := Lib.hid (by
      have hne : ¬ m.prev = hd := by
        intro e
        have := HPQ.out
        rw [e] at this
        simp at this
      rw [HZ.out]; simp [hne])
    go_enter Tryz.func20, Tryz.ntmps20
    go_upto_region 1 with fail
    rw [← HW1.out]
    refine wp_region_extS (fun W => Below W1.heap.size W1 W) (Below.refl _ _).drew HMX.out ?_
    refine extS_take (i := 0) (d := 7) (v := ?_) rfl rfl (by kernel_rfl) (by kernel_rfl) (by kernel_rfl) (fun _ _ _ h => h) (by rfl) (fun W hS => ?_) ?_
    rotate_left
    · skip
      refine gives_value (w := W) ⟨Below.refl _ _, hS⟩ ?_; go_simp; try with_reducible rfl
    simp only [List.setIfInBounds_toArray, List.set_cons_zero, List.set_cons_succ]
    refine extS_take (i := 1) (d := 8) (v := ?_) rfl rfl (by kernel_rfl) (by kernel_rfl) (by kernel_rfl) (fun _ _ _ h => h) (by rfl) (fun W hS => ?_) ?_
    rotate_left
    · skip
      obtain ⟨z0, z1, z3⟩ := HX.out W hS
      refine gives_value (w := W) ⟨Below.refl _ _, hS⟩ ?_; go_simp; try with_reducible rfl
    simp only [List.setIfInBounds_toArray, List.set_cons_zero, List.set_cons_succ]
    refine extS_take (i := 2) (d := 9) (v := ?_) rfl rfl (by kernel_rfl) (by kernel_rfl) (by kernel_rfl) (fun _ _ _ h => h) (by rfl) (fun W hS => ?_) ?_
    rotate_left
    · skip
      refine gives_value (w := W) ⟨Below.refl _ _, hS⟩ ?_; go_simp; try with_reducible rfl
    simp only [List.setIfInBounds_toArray, List.set_cons_zero, List.set_cons_succ]
    refine extS_take (i := 3) (d := 10) (v := ?_) rfl rfl (by kernel_rfl) (by kernel_rfl) (by kernel_rfl) (fun _ _ _ h => h) (by rfl) (fun W hS => ?_) ?_
    rotate_left
    · skip
      refine gives_value (w := W) ⟨Below.refl _ _, hS⟩ ?_; go_simp; try with_reducible rfl
    simp only [List.setIfInBounds_toArray, List.set_cons_zero, List.set_cons_succ]
    refine extS_take (i := 4) (d := 11) (v := ?_) rfl rfl (by kernel_rfl) (by kernel_rfl) (by kernel_rfl) (fun _ _ _ h => h) (by rfl) (fun W hS => ?_) ?_
    rotate_left
    · skip
      refine gives_value (w := W) ⟨Below.refl _ _, hS⟩ ?_; go_simp; try with_reducible rfl
    simp only [List.setIfInBounds_toArray, List.set_cons_zero, List.set_cons_succ]
    refine extS_take (i := 5) (d := 12) (v := ?_) rfl rfl (by kernel_rfl) (by kernel_rfl) (by kernel_rfl) (fun _ _ _ h => h) (by rfl) (fun W hS => ?_) ?_
    rotate_left
    · skip
      refine gives_value (w := W) ⟨Below.refl _ _, hS⟩ ?_; go_simp; try with_reducible rfl
    simp only [List.setIfInBounds_toArray, List.set_cons_zero, List.set_cons_succ]
    refine extS_take (i := 6) (d := 13) (v := ?_) rfl rfl (by kernel_rfl) (by kernel_rfl) (by kernel_rfl) (fun _ _ _ h => h) (by rfl) (fun W hS => ?_) ?_
    rotate_left
    · skip
      refine gives_value (w := W) ⟨Below.refl _ _, hS⟩ ?_; go_simp; try with_reducible rfl
    simp only [List.setIfInBounds_toArray, List.set_cons_zero, List.set_cons_succ]
    refine extS_take (i := 7) (d := 14) (v := ?_) rfl rfl (by kernel_rfl) (by kernel_rfl) (by kernel_rfl) (fun _ _ _ h => h) (by rfl) (fun W hS => ?_) ?_
    rotate_left
    · skip
      (refine load_gives_at 34 (.tmp 13) ?_ (w.heap.size + 1) 4 ?_ (vals .u8 m.prev) _ (HPV.out W hS) Tryz.underlying34 rfl HDS.out ?_ <;> first | rfl | exact ⟨Below.refl _ _, hS⟩)
    simp only [List.setIfInBounds_toArray, List.set_cons_zero, List.set_cons_succ]
    refine extS_take (i := 8) (d := 15) (v := ?_) rfl rfl (by kernel_rfl) (by kernel_rfl) (by kernel_rfl) (fun _ _ _ h => h) (by rfl) (fun W hS => ?_) ?_
    rotate_left
    · skip
      (refine load_gives 34 (.tmp 4) ?_ w.heap.size ?_ _ D1 (0, 0) _ (HBX.out W hS) Tryz.underlying34 rfl HDH.out ?_ <;> first | rfl | exact ⟨Below.refl _ _, hS⟩)
    simp only [List.setIfInBounds_toArray, List.set_cons_zero, List.set_cons_succ]
    refine extS_take (i := 9) (d := 16) (v := ?_) rfl rfl (by kernel_rfl) (by kernel_rfl) (by kernel_rfl) (fun _ _ _ h => h) (by rfl) (fun W hS => ?_) ?_
    rotate_left
    · skip
      refine gives_value (w := W) ⟨Below.refl _ _, hS⟩ ?_; refine (exec_eqsM rfl ?_ ?_ (by kernel_rfl) (HNE.out W)).trans ?_ <;> rfl
    simp only [List.setIfInBounds_toArray, List.set_cons_zero, List.set_cons_succ]
    refine extS_take (i := 10) (d := 17) (v := ?_) rfl rfl (by kernel_rfl) (by kernel_rfl) (by kernel_rfl) (fun _ _ _ h => h) (by rfl) (fun W hS => ?_) ?_
    rotate_left
    · skip
      refine gives_value (w := W) ⟨Below.refl _ _, hS⟩ ?_; go_simp; try with_reducible rfl
    simp only [List.setIfInBounds_toArray, List.set_cons_zero, List.set_cons_succ]
    refine extS_take (i := 11) (d := 18) (v := ?_) rfl rfl (by kernel_rfl) (by kernel_rfl) (by kernel_rfl) (fun _ _ _ h => h) (by rfl) (fun W hS => ?_) ?_
    rotate_left
    · skip
      refine gives_value (w := W) ⟨Below.refl _ _, hS⟩ ?_; go_simp; try with_reducible rfl
    simp only [List.setIfInBounds_toArray, List.set_cons_zero, List.set_cons_succ]
    refine extS_skip (i := 12) (d := 19) rfl rfl (by kernel_rfl) (by kernel_rfl) (by kernel_rfl) (fun _ _ _ h => h) (by rfl) ?_
    simp only [List.setIfInBounds_toArray, List.set_cons_zero, List.set_cons_succ]
    refine extS_skip (i := 13) (d := 20) rfl rfl (by kernel_rfl) (by kernel_rfl) (by kernel_rfl) (fun _ _ _ h => h) (by rfl) ?_
    simp only [List.setIfInBounds_toArray, List.set_cons_zero, List.set_cons_succ]
    refine extS_skip (i := 14) (d := 21) rfl rfl (by kernel_rfl) (by kernel_rfl) (by kernel_rfl) (fun _ _ _ h => h) (by rfl) ?_
    simp only [List.setIfInBounds_toArray, List.set_cons_zero, List.set_cons_succ]
    refine extS_skip (i := 15) (d := 22) rfl rfl (by kernel_rfl) (by kernel_rfl) (by kernel_rfl) (fun _ _ _ h => h) (by rfl) ?_
    simp only [List.setIfInBounds_toArray, List.set_cons_zero, List.set_cons_succ]
    refine extS_skip (i := 16) (d := 23) rfl rfl (by kernel_rfl) (by kernel_rfl) (by kernel_rfl) (fun _ _ _ h => h) (by rfl) ?_
    simp only [List.setIfInBounds_toArray, List.set_cons_zero, List.set_cons_succ]
    refine extS_take (i := 17) (d := 24) (v := ?_) rfl rfl (by kernel_rfl) (by kernel_rfl) (by kernel_rfl) (fun _ _ _ h => h) (by rfl) (fun W hS => ?_) ?_
    rotate_left
    · skip
      refine gives_value (w := W) ⟨Below.refl _ _, hS⟩ ?_; go_simp; try with_reducible rfl
    simp only [List.setIfInBounds_toArray, List.set_cons_zero, List.set_cons_succ]
    refine extS_done (by kernel_rfl) (fun w11 _ hS11 => ?_) _
    have HS11 := Lib.hid hS11
    clear hS11
    go_wp2
    go_ret
    exact ⟨by rw [HE.out]; rfl, HB1.out.trans (HS11.out.mono HB1.out.size)⟩
  have HPR : Hid (m.prev = hd) := Lib.hid (by simpa using HPQ.out.symm)
  by_cases g3 : tr < mk
  · have HE : Hid (z = false) := Lib.hid (by
      rw [HZ.out]
      refine decide_eq_false fun h => ?_
      have := h.2.2.1
      omega)
    go_enter Tryz.func20, Tryz.ntmps20
    go_upto_region 1 with fail
    rw [← HW1.out]
    refine wp_region_extS (fun W => Below W1.heap.size W1 W) (Below.refl _ _).drew HMX.out ?_
    refine extS_take (i := 0) (d := 7) (v := ?_) rfl rfl (by kernel_rfl) (by kernel_rfl) (by kernel_rfl) (fun _ _ _ h => h) (by rfl) (fun W hS => ?_) ?_
    rotate_left
    · skip
      refine gives_value (w := W) ⟨Below.refl _ _, hS⟩ ?_; go_simp; try with_reducible rfl
    simp only [List.setIfInBounds_toArray, List.set_cons_zero, List.set_cons_succ]
    refine extS_take (i := 1) (d := 8) (v := ?_) rfl rfl (by kernel_rfl) (by kernel_rfl) (by kernel_rfl) (fun _ _ _ h => h) (by rfl) (fun W hS => ?_) ?_
    rotate_left
    · skip
      obtain ⟨z0, z1, z3⟩ := HX.out W hS
      refine gives_value (w := W) ⟨Below.refl _ _, hS⟩ ?_; go_simp; try with_reducible rfl
    simp only [List.setIfInBounds_toArray, List.set_cons_zero, List.set_cons_succ]
    refine extS_take (i := 2) (d := 9) (v := ?_) rfl rfl (by kernel_rfl) (by kernel_rfl) (by kernel_rfl) (fun _ _ _ h => h) (by rfl) (fun W hS => ?_) ?_
    rotate_left
    · skip
      refine gives_value (w := W) ⟨Below.refl _ _, hS⟩ ?_; go_simp; try with_reducible rfl
    simp only [List.setIfInBounds_toArray, List.set_cons_zero, List.set_cons_succ]
    refine extS_take (i := 3) (d := 10) (v := ?_) rfl rfl (by kernel_rfl) (by kernel_rfl) (by kernel_rfl) (fun _ _ _ h => h) (by rfl) (fun W hS => ?_) ?_
    rotate_left
    · skip
      refine gives_value (w := W) ⟨Below.refl _ _, hS⟩ ?_; go_simp; try with_reducible rfl
    simp only [List.setIfInBounds_toArray, List.set_cons_zero, List.set_cons_succ]
    refine extS_take (i := 4) (d := 11) (v := ?_) rfl rfl (by kernel_rfl) (by kernel_rfl) (by kernel_rfl) (fun _ _ _ h => h) (by rfl) (fun W hS => ?_) ?_
    rotate_left
    · skip
      refine gives_value (w := W) ⟨Below.refl _ _, hS⟩ ?_; go_simp; try with_reducible rfl
    simp only [List.setIfInBounds_toArray, List.set_cons_zero, List.set_cons_succ]
    refine extS_take (i := 5) (d := 12) (v := ?_) rfl rfl (by kernel_rfl) (by kernel_rfl) (by kernel_rfl) (fun _ _ _ h => h) (by rfl) (fun W hS => ?_) ?_
    rotate_left
    · skip
      refine gives_value (w := W) ⟨Below.refl _ _, hS⟩ ?_; go_simp; try with_reducible rfl
    simp only [List.setIfInBounds_toArray, List.set_cons_zero, List.set_cons_succ]
    refine extS_take (i := 6) (d := 13) (v := ?_) rfl rfl (by kernel_rfl) (by kernel_rfl) (by kernel_rfl) (fun _ _ _ h => h) (by rfl) (fun W hS => ?_) ?_
    rotate_left
    · skip
      refine gives_value (w := W) ⟨Below.refl _ _, hS⟩ ?_; go_simp; try with_reducible rfl
    simp only [List.setIfInBounds_toArray, List.set_cons_zero, List.set_cons_succ]
    refine extS_take (i := 7) (d := 14) (v := ?_) rfl rfl (by kernel_rfl) (by kernel_rfl) (by kernel_rfl) (fun _ _ _ h => h) (by rfl) (fun W hS => ?_) ?_
    rotate_left
    · skip
      (refine load_gives_at 34 (.tmp 13) ?_ (w.heap.size + 1) 4 ?_ (vals .u8 m.prev) _ (HPV.out W hS) Tryz.underlying34 rfl HDS.out ?_ <;> first | rfl | exact ⟨Below.refl _ _, hS⟩)
    simp only [List.setIfInBounds_toArray, List.set_cons_zero, List.set_cons_succ]
    refine extS_take (i := 8) (d := 15) (v := ?_) rfl rfl (by kernel_rfl) (by kernel_rfl) (by kernel_rfl) (fun _ _ _ h => h) (by rfl) (fun W hS => ?_) ?_
    rotate_left
    · skip
      (refine load_gives 34 (.tmp 4) ?_ w.heap.size ?_ _ D1 (0, 0) _ (HBX.out W hS) Tryz.underlying34 rfl HDH.out ?_ <;> first | rfl | exact ⟨Below.refl _ _, hS⟩)
    simp only [List.setIfInBounds_toArray, List.set_cons_zero, List.set_cons_succ]
    refine extS_take (i := 9) (d := 16) (v := ?_) rfl rfl (by kernel_rfl) (by kernel_rfl) (by kernel_rfl) (fun _ _ _ h => h) (by rfl) (fun W hS => ?_) ?_
    rotate_left
    · skip
      refine gives_value (w := W) ⟨Below.refl _ _, hS⟩ ?_; refine (exec_eqsM rfl ?_ ?_ (by kernel_rfl) (HNE.out W)).trans ?_ <;> rfl
    simp only [List.setIfInBounds_toArray, List.set_cons_zero, List.set_cons_succ]
    refine extS_take (i := 10) (d := 17) (v := ?_) rfl rfl (by kernel_rfl) (by kernel_rfl) (by kernel_rfl) (fun _ _ _ h => h) (by rfl) (fun W hS => ?_) ?_
    rotate_left
    · skip
      refine gives_value (w := W) ⟨Below.refl _ _, hS⟩ ?_; go_simp; try with_reducible rfl
    simp only [List.setIfInBounds_toArray, List.set_cons_zero, List.set_cons_succ]
    refine extS_take (i := 11) (d := 18) (v := ?_) rfl rfl (by kernel_rfl) (by kernel_rfl) (by kernel_rfl) (fun _ _ _ h => h) (by rfl) (fun W hS => ?_) ?_
    rotate_left
    · skip
      refine gives_value (w := W) ⟨Below.refl _ _, hS⟩ ?_; go_simp; try with_reducible rfl
    simp only [List.setIfInBounds_toArray, List.set_cons_zero, List.set_cons_succ]
    refine extS_take (i := 12) (d := 19) (v := ?_) rfl rfl (by kernel_rfl) (by kernel_rfl) (by kernel_rfl) (fun _ _ _ h => h) (by rfl) (fun W hS => ?_) ?_
    rotate_left
    · skip
      refine gives_value (w := W) ⟨Below.refl _ _, hS⟩ ?_; go_simp; try with_reducible rfl
    simp only [List.setIfInBounds_toArray, List.set_cons_zero, List.set_cons_succ]
    refine extS_take (i := 13) (d := 20) (v := ?_) rfl rfl (by kernel_rfl) (by kernel_rfl) (by kernel_rfl) (fun _ _ _ h => h) (by rfl) (fun W hS => ?_) ?_
    rotate_left
    · skip
      obtain ⟨z0, z1, z3⟩ := HX.out W hS
      refine gives_value (w := W) ⟨Below.refl _ _, hS⟩ ?_; go_simp; try with_reducible rfl
    simp only [List.setIfInBounds_toArray, List.set_cons_zero, List.set_cons_succ]
    refine extS_take (i := 14) (d := 21) (v := ?_) rfl rfl (by kernel_rfl) (by kernel_rfl) (by kernel_rfl) (fun _ _ _ h => h) (by rfl) (fun W hS => ?_) ?_
    rotate_left
    · skip
      refine gives_value (w := W) ⟨Below.refl _ _, hS⟩ ?_; go_simp; try with_reducible rfl
    simp only [List.setIfInBounds_toArray, List.set_cons_zero, List.set_cons_succ]
    refine extS_take (i := 15) (d := 22) (v := ?_) rfl rfl (by kernel_rfl) (by kernel_rfl) (by kernel_rfl) (fun _ _ _ h => h) (by rfl) (fun W hS => ?_) ?_
    rotate_left
    · skip
      go_simp; refine Gives.enter ((HMK.out W hS).mono ?_); rintro e wn ⟨rfl, hbn⟩; refine ⟨?_, hbn, Below.trans hS (hbn.mono hS.size)⟩; with_reducible rfl
    simp only [List.setIfInBounds_toArray, List.set_cons_zero, List.set_cons_succ]
    refine extS_take (i := 16) (d := 23) (v := ?_) rfl rfl (by kernel_rfl) (by kernel_rfl) (by kernel_rfl) (fun _ _ _ h => h) (by rfl) (fun W hS => ?_) ?_
    rotate_left
    · skip
      refine gives_value (w := W) ⟨Below.refl _ _, hS⟩ ?_; go_simp; try with_reducible rfl
    simp only [List.setIfInBounds_toArray, List.set_cons_zero, List.set_cons_succ]
    refine extS_take (i := 17) (d := 24) (v := ?_) rfl rfl (by kernel_rfl) (by kernel_rfl) (by kernel_rfl) (fun _ _ _ h => h) (by rfl) (fun W hS => ?_) ?_
    rotate_left
    · skip
      refine gives_value (w := W) ⟨Below.refl _ _, hS⟩ ?_; go_simp; try with_reducible rfl
    simp only [List.setIfInBounds_toArray, List.set_cons_zero, List.set_cons_succ]
    refine extS_done (by kernel_rfl) (fun w11 _ hS11 => ?_) _
    have HS11 := Lib.hid hS11
    clear hS11
    go_wp2
    go_ret
    exact ⟨by rw [HE.out]; rfl, HB1.out.trans (HS11.out.mono HB1.out.size)⟩
  have HT : Hid (mk ≤ tr) := Lib.hid (by omega)
  go_enter Tryz.func20, Tryz.ntmps20
  go_upto_region 1 with fail
  rw [← HW1.out]
  refine wp_region_extS (fun W => Below W1.heap.size W1 W) (Below.refl _ _).drew HMX.out ?_
  refine extS_take (i := 0) (d := 7) (v := ?_) rfl rfl (by kernel_rfl) (by kernel_rfl) (by kernel_rfl) (fun _ _ _ h => h) (by rfl) (fun W hS => ?_) ?_
  rotate_left
  · skip
    refine gives_value (w := W) ⟨Below.refl _ _, hS⟩ ?_; go_simp; try with_reducible rfl
  simp only [List.setIfInBounds_toArray, List.set_cons_zero, List.set_cons_succ]
  refine extS_take (i := 1) (d := 8) (v := ?_) rfl rfl (by kernel_rfl) (by kernel_rfl) (by kernel_rfl) (fun _ _ _ h => h) (by rfl) (fun W hS => ?_) ?_
  rotate_left
  · skip
    obtain ⟨z0, z1, z3⟩ := HX.out W hS
    refine gives_value (w := W) ⟨Below.refl _ _, hS⟩ ?_; go_simp; try with_reducible rfl
  simp only [List.setIfInBounds_toArray, List.set_cons_zero, List.set_cons_succ]
  refine extS_take (i := 2) (d := 9) (v := ?_) rfl rfl (by kernel_rfl) (by kernel_rfl) (by kernel_rfl) (fun _ _ _ h => h) (by rfl) (fun W hS => ?_) ?_
  rotate_left
  · skip
    refine gives_value (w := W) ⟨Below.refl _ _, hS⟩ ?_; go_simp; try with_reducible rfl
  simp only [List.setIfInBounds_toArray, List.set_cons_zero, List.set_cons_succ]
  refine extS_take (i := 3) (d := 10) (v := ?_) rfl rfl (by kernel_rfl) (by kernel_rfl) (by kernel_rfl) (fun _ _ _ h => h) (by rfl) (fun W hS => ?_) ?_
  rotate_left
  · skip
    refine gives_value (w := W) ⟨Below.refl _ _, hS⟩ ?_; go_simp; try with_reducible rfl
  simp only [List.setIfInBounds_toArray, List.set_cons_zero, List.set_cons_succ]
  refine extS_take (i := 4) (d := 11) (v := ?_) rfl rfl (by kernel_rfl) (by kernel_rfl) (by kernel_rfl) (fun _ _ _ h => h) (by rfl) (fun W hS => ?_) ?_
  rotate_left
  · skip
    refine gives_value (w := W) ⟨Below.refl _ _, hS⟩ ?_; go_simp; try with_reducible rfl
  simp only [List.setIfInBounds_toArray, List.set_cons_zero, List.set_cons_succ]
  refine extS_take (i := 5) (d := 12) (v := ?_) rfl rfl (by kernel_rfl) (by kernel_rfl) (by kernel_rfl) (fun _ _ _ h => h) (by rfl) (fun W hS => ?_) ?_
  rotate_left
  · skip
    refine gives_value (w := W) ⟨Below.refl _ _, hS⟩ ?_; go_simp; try with_reducible rfl
  simp only [List.setIfInBounds_toArray, List.set_cons_zero, List.set_cons_succ]
  refine extS_take (i := 6) (d := 13) (v := ?_) rfl rfl (by kernel_rfl) (by kernel_rfl) (by kernel_rfl) (fun _ _ _ h => h) (by rfl) (fun W hS => ?_) ?_
  rotate_left
  · skip
    refine gives_value (w := W) ⟨Below.refl _ _, hS⟩ ?_; go_simp; try with_reducible rfl
  simp only [List.setIfInBounds_toArray, List.set_cons_zero, List.set_cons_succ]
  refine extS_take (i := 7) (d := 14) (v := ?_) rfl rfl (by kernel_rfl) (by kernel_rfl) (by kernel_rfl) (fun _ _ _ h => h) (by rfl) (fun W hS => ?_) ?_
  rotate_left
  · skip
    (refine load_gives_at 34 (.tmp 13) ?_ (w.heap.size + 1) 4 ?_ (vals .u8 m.prev) _ (HPV.out W hS) Tryz.underlying34 rfl HDS.out ?_ <;> first | rfl | exact ⟨Below.refl _ _, hS⟩)
  simp only [List.setIfInBounds_toArray, List.set_cons_zero, List.set_cons_succ]
  refine extS_take (i := 8) (d := 15) (v := ?_) rfl rfl (by kernel_rfl) (by kernel_rfl) (by kernel_rfl) (fun _ _ _ h => h) (by rfl) (fun W hS => ?_) ?_
  rotate_left
  · skip
    (refine load_gives 34 (.tmp 4) ?_ w.heap.size ?_ _ D1 (0, 0) _ (HBX.out W hS) Tryz.underlying34 rfl HDH.out ?_ <;> first | rfl | exact ⟨Below.refl _ _, hS⟩)
  simp only [List.setIfInBounds_toArray, List.set_cons_zero, List.set_cons_succ]
  refine extS_take (i := 9) (d := 16) (v := ?_) rfl rfl (by kernel_rfl) (by kernel_rfl) (by kernel_rfl) (fun _ _ _ h => h) (by rfl) (fun W hS => ?_) ?_
  rotate_left
  · skip
    refine gives_value (w := W) ⟨Below.refl _ _, hS⟩ ?_; refine (exec_eqsM rfl ?_ ?_ (by kernel_rfl) (HNE.out W)).trans ?_ <;> rfl
  simp only [List.setIfInBounds_toArray, List.set_cons_zero, List.set_cons_succ]
  refine extS_take (i := 10) (d := 17) (v := ?_) rfl rfl (by kernel_rfl) (by kernel_rfl) (by kernel_rfl) (fun _ _ _ h => h) (by rfl) (fun W hS => ?_) ?_
  rotate_left
  · skip
    refine gives_value (w := W) ⟨Below.refl _ _, hS⟩ ?_; go_simp; try with_reducible rfl
  simp only [List.setIfInBounds_toArray, List.set_cons_zero, List.set_cons_succ]
  refine extS_take (i := 11) (d := 18) (v := ?_) rfl rfl (by kernel_rfl) (by kernel_rfl) (by kernel_rfl) (fun _ _ _ h => h) (by rfl) (fun W hS => ?_) ?_
  rotate_left
  · skip
    refine gives_value (w := W) ⟨Below.refl _ _, hS⟩ ?_; go_simp; try with_reducible rfl
  simp only [List.setIfInBounds_toArray, List.set_cons_zero, List.set_cons_succ]
  refine extS_take (i := 12) (d := 19) (v := ?_) rfl rfl (by kernel_rfl) (by kernel_rfl) (by kernel_rfl) (fun _ _ _ h => h) (by rfl) (fun W hS => ?_) ?_
  rotate_left
  · skip
    refine gives_value (w := W) ⟨Below.refl _ _, hS⟩ ?_; go_simp; try with_reducible rfl
  simp only [List.setIfInBounds_toArray, List.set_cons_zero, List.set_cons_succ]
  refine extS_take (i := 13) (d := 20) (v := ?_) rfl rfl (by kernel_rfl) (by kernel_rfl) (by kernel_rfl) (fun _ _ _ h => h) (by rfl) (fun W hS => ?_) ?_
  rotate_left
  · skip
    obtain ⟨z0, z1, z3⟩ := HX.out W hS
    refine gives_value (w := W) ⟨Below.refl _ _, hS⟩ ?_; go_simp; try with_reducible rfl
  simp only [List.setIfInBounds_toArray, List.set_cons_zero, List.set_cons_succ]
  refine extS_take (i := 14) (d := 21) (v := ?_) rfl rfl (by kernel_rfl) (by kernel_rfl) (by kernel_rfl) (fun _ _ _ h => h) (by rfl) (fun W hS => ?_) ?_
  rotate_left
  · skip
    refine gives_value (w := W) ⟨Below.refl _ _, hS⟩ ?_; go_simp; try with_reducible rfl
  simp only [List.setIfInBounds_toArray, List.set_cons_zero, List.set_cons_succ]
  refine extS_take (i := 15) (d := 22) (v := ?_) rfl rfl (by kernel_rfl) (by kernel_rfl) (by kernel_rfl) (fun _ _ _ h => h) (by rfl) (fun W hS => ?_) ?_
  rotate_left
  · skip
    go_simp; refine Gives.enter ((HMK.out W hS).mono ?_); rintro e wn ⟨rfl, hbn⟩; refine ⟨?_, hbn, Below.trans hS (hbn.mono hS.size)⟩; with_reducible rfl
  simp only [List.setIfInBounds_toArray, List.set_cons_zero, List.set_cons_succ]
  refine extS_take (i := 16) (d := 23) (v := ?_) rfl rfl (by kernel_rfl) (by kernel_rfl) (by kernel_rfl) (fun _ _ _ h => h) (by rfl) (fun W hS => ?_) ?_
  rotate_left
  · skip
    refine gives_value (w := W) ⟨Below.refl _ _, hS⟩ ?_; go_simp; try with_reducible rfl
  simp only [List.setIfInBounds_toArray, List.set_cons_zero, List.set_cons_succ]
  refine extS_take (i := 17) (d := 24) (v := ?_) rfl rfl (by kernel_rfl) (by kernel_rfl) (by kernel_rfl) (fun _ _ _ h => h) (by rfl) (fun W hS => ?_) ?_
  rotate_left
  · skip
    refine gives_value (w := W) ⟨Below.refl _ _, hS⟩ ?_; go_simp; try with_reducible rfl
  simp only [List.setIfInBounds_toArray, List.set_cons_zero, List.set_cons_succ]
  refine extS_done (by kernel_rfl) (fun w11 _ hS11 => ?_) _
  have HS11 := Lib.hid hS11
  clear hS11
  by_cases g4 : n = 0
  · have g4b : ((n : Int) == 0) = true := by simp [g4]
    have HE : Hid (z = true) := Lib.hid (by
      rw [HZ.out]
      exact decide_eq_true ⟨HG1.out, HPR.out, HT.out, .inl g4⟩)
    clear g4 g3
    go_upto_region 3 with fail
    refine wp_region_extS (fun W => Below w11.heap.size w11 W) (Below.refl _ _).drew HMX.out ?_
    refine extS_take (i := 0) (d := 25) (v := ?_) rfl rfl (by kernel_rfl) (by kernel_rfl) (by kernel_rfl) (fun _ _ _ h => h) (by rfl) (fun W hS => ?_) ?_
    rotate_left
    · skip
      refine gives_value (w := W) ⟨Below.refl _ _, hS⟩ ?_; go_simp; try with_reducible rfl
    simp only [List.setIfInBounds_toArray, List.set_cons_zero, List.set_cons_succ]
    refine extS_take (i := 1) (d := 26) (v := ?_) rfl rfl (by kernel_rfl) (by kernel_rfl) (by kernel_rfl) (fun _ _ _ h => h) (by rfl) (fun W hS => ?_) ?_
    rotate_left
    · skip
      refine gives_value (w := W) ⟨Below.refl _ _, hS⟩ ?_; go_simp; try with_reducible rfl
    simp only [List.setIfInBounds_toArray, List.set_cons_zero, List.set_cons_succ]
    refine extS_take (i := 2) (d := 27) (v := ?_) rfl rfl (by kernel_rfl) (by kernel_rfl) (by kernel_rfl) (fun _ _ _ h => h) (by rfl) (fun W hS => ?_) ?_
    rotate_left
    · skip
      refine gives_value (w := W) ⟨Below.refl _ _, hS⟩ ?_; go_simp; try with_reducible rfl
    simp only [List.setIfInBounds_toArray, List.set_cons_zero, List.set_cons_succ]
    refine extS_take (i := 3) (d := 28) (v := ?_) rfl rfl (by kernel_rfl) (by kernel_rfl) (by kernel_rfl) (fun _ _ _ h => h) (by rfl) (fun W hS => ?_) ?_
    rotate_left
    · skip
      refine gives_value (w := W) ⟨Below.refl _ _, hS⟩ ?_; go_simp; try with_reducible rfl
    simp only [List.setIfInBounds_toArray, List.set_cons_zero, List.set_cons_succ]
    refine extS_skip (i := 4) (d := 29) rfl rfl (by kernel_rfl) (by kernel_rfl) (by kernel_rfl) (fun _ _ _ h => h) (by rfl) ?_
    simp only [List.setIfInBounds_toArray, List.set_cons_zero, List.set_cons_succ]
    refine extS_skip (i := 5) (d := 30) rfl rfl (by kernel_rfl) (by kernel_rfl) (by kernel_rfl) (fun _ _ _ h => h) (by rfl) ?_
    simp only [List.setIfInBounds_toArray, List.set_cons_zero, List.set_cons_succ]
    refine extS_skip (i := 6) (d := 31) rfl rfl (by kernel_rfl) (by kernel_rfl) (by kernel_rfl) (fun _ _ _ h => h) (by rfl) ?_
    simp only [List.setIfInBounds_toArray, List.set_cons_zero, List.set_cons_succ]
    refine extS_skip (i := 7) (d := 32) rfl rfl (by kernel_rfl) (by kernel_rfl) (by kernel_rfl) (fun _ _ _ h => h) (by rfl) ?_
    simp only [List.setIfInBounds_toArray, List.set_cons_zero, List.set_cons_succ]
    refine extS_skip (i := 8) (d := 33) rfl rfl (by kernel_rfl) (by kernel_rfl) (by kernel_rfl) (fun _ _ _ h => h) (by rfl) ?_
    simp only [List.setIfInBounds_toArray, List.set_cons_zero, List.set_cons_succ]
    refine extS_take (i := 9) (d := 34) (v := ?_) rfl rfl (by kernel_rfl) (by kernel_rfl) (by kernel_rfl) (fun _ _ _ h => h) (by rfl) (fun W hS => ?_) ?_
    rotate_left
    · skip
      refine gives_value (w := W) ⟨Below.refl _ _, hS⟩ ?_; go_simp; try with_reducible rfl
    simp only [List.setIfInBounds_toArray, List.set_cons_zero, List.set_cons_succ]
    refine extS_take (i := 10) (d := 6) (v := ?_) rfl rfl (by kernel_rfl) (by kernel_rfl) (by kernel_rfl) (fun _ _ _ h => h) (by rfl) (fun W hS => ?_) ?_
    rotate_left
    · skip
      refine gives_value (w := W) ⟨Below.refl _ _, hS⟩ ?_; go_simp; try with_reducible rfl
    simp only [List.setIfInBounds_toArray, List.set_cons_zero, List.set_cons_succ]
    refine extS_done (by kernel_rfl) (fun w12 _ hS12 => ?_) _
    have HS12 := Lib.hid hS12
    clear hS12
    go_wp2
    go_ret
    exact ⟨by rw [HE.out]; rfl, HB1.out.trans ((HS11.out.trans (HS12.out.mono HS11.out.size)).mono HB1.out.size)⟩
  have g4b : ((n : Int) == 0) = false := by simp; omega
  by_cases g5 : fo = en
  · have g5b : (fo == en) = true := by simp [g5]
    have HE : Hid (z = true) := Lib.hid (by
      rw [HZ.out]
      exact decide_eq_true ⟨HG1.out, HPR.out, HT.out, .inr g5⟩)
    clear g5 g4 g3
    go_upto_region 3 with fail
    refine wp_region_extS (fun W => Below w11.heap.size w11 W) (Below.refl _ _).drew HMX.out ?_
    refine extS_take (i := 0) (d := 25) (v := ?_) rfl rfl (by kernel_rfl) (by kernel_rfl) (by kernel_rfl) (fun _ _ _ h => h) (by rfl) (fun W hS => ?_) ?_
    rotate_left
    · skip
      refine gives_value (w := W) ⟨Below.refl _ _, hS⟩ ?_; go_simp; try with_reducible rfl
    simp only [List.setIfInBounds_toArray, List.set_cons_zero, List.set_cons_succ]
    refine extS_take (i := 1) (d := 26) (v := ?_) rfl rfl (by kernel_rfl) (by kernel_rfl) (by kernel_rfl) (fun _ _ _ h => h) (by rfl) (fun W hS => ?_) ?_
    rotate_left
    · skip
      refine gives_value (w := W) ⟨Below.refl _ _, hS⟩ ?_; go_simp; try with_reducible rfl
    simp only [List.setIfInBounds_toArray, List.set_cons_zero, List.set_cons_succ]
    refine extS_take (i := 2) (d := 27) (v := ?_) rfl rfl (by kernel_rfl) (by kernel_rfl) (by kernel_rfl) (fun _ _ _ h => h) (by rfl) (fun W hS => ?_) ?_
    rotate_left
    · skip
      refine gives_value (w := W) ⟨Below.refl _ _, hS⟩ ?_; go_simp; try with_reducible rfl
    simp only [List.setIfInBounds_toArray, List.set_cons_zero, List.set_cons_succ]
    refine extS_take (i := 3) (d := 28) (v := ?_) rfl rfl (by kernel_rfl) (by kernel_rfl) (by kernel_rfl) (fun _ _ _ h => h) (by rfl) (fun W hS => ?_) ?_
    rotate_left
    · skip
      refine gives_value (w := W) ⟨Below.refl _ _, hS⟩ ?_; go_simp; try with_reducible rfl
    simp only [List.setIfInBounds_toArray, List.set_cons_zero, List.set_cons_succ]
    refine extS_take (i := 4) (d := 29) (v := ?_) rfl rfl (by kernel_rfl) (by kernel_rfl) (by kernel_rfl) (fun _ _ _ h => h) (by rfl) (fun W hS => ?_) ?_
    rotate_left
    · skip
      refine gives_value (w := W) ⟨Below.refl _ _, hS⟩ ?_; go_simp; try with_reducible rfl
    simp only [List.setIfInBounds_toArray, List.set_cons_zero, List.set_cons_succ]
    refine extS_take (i := 5) (d := 30) (v := ?_) rfl rfl (by kernel_rfl) (by kernel_rfl) (by kernel_rfl) (fun _ _ _ h => h) (by rfl) (fun W hS => ?_) ?_
    rotate_left
    · skip
      obtain ⟨z0, z1, z3⟩ := HX.out W (HS11.out.trans (Below.mono hS HS11.out.size))
      refine gives_value (w := W) ⟨Below.refl _ _, hS⟩ ?_; go_simp; try with_reducible rfl
    simp only [List.setIfInBounds_toArray, List.set_cons_zero, List.set_cons_succ]
    refine extS_take (i := 6) (d := 31) (v := ?_) rfl rfl (by kernel_rfl) (by kernel_rfl) (by kernel_rfl) (fun _ _ _ h => h) (by rfl) (fun W hS => ?_) ?_
    rotate_left
    · skip
      refine gives_value (w := W) ⟨Below.refl _ _, hS⟩ ?_; go_simp; try with_reducible rfl
    simp only [List.setIfInBounds_toArray, List.set_cons_zero, List.set_cons_succ]
    refine extS_take (i := 7) (d := 32) (v := ?_) rfl rfl (by kernel_rfl) (by kernel_rfl) (by kernel_rfl) (fun _ _ _ h => h) (by rfl) (fun W hS => ?_) ?_
    rotate_left
    · skip
      go_simp; refine Gives.enter ((HEN.out W (HS11.out.trans (Below.mono hS HS11.out.size))).mono ?_); rintro e wn ⟨rfl, hbn⟩; refine ⟨?_, hbn, Below.trans hS (hbn.mono hS.size)⟩; with_reducible rfl
    simp only [List.setIfInBounds_toArray, List.set_cons_zero, List.set_cons_succ]
    refine extS_take (i := 8) (d := 33) (v := ?_) rfl rfl (by kernel_rfl) (by kernel_rfl) (by kernel_rfl) (fun _ _ _ h => h) (by rfl) (fun W hS => ?_) ?_
    rotate_left
    · skip
      refine gives_value (w := W) ⟨Below.refl _ _, hS⟩ ?_; go_simp; try with_reducible rfl
    simp only [List.setIfInBounds_toArray, List.set_cons_zero, List.set_cons_succ]
    refine extS_take (i := 9) (d := 34) (v := ?_) rfl rfl (by kernel_rfl) (by kernel_rfl) (by kernel_rfl) (fun _ _ _ h => h) (by rfl) (fun W hS => ?_) ?_
    rotate_left
    · skip
      refine gives_value (w := W) ⟨Below.refl _ _, hS⟩ ?_; go_simp; try with_reducible rfl
    simp only [List.setIfInBounds_toArray, List.set_cons_zero, List.set_cons_succ]
    refine extS_take (i := 10) (d := 6) (v := ?_) rfl rfl (by kernel_rfl) (by kernel_rfl) (by kernel_rfl) (fun _ _ _ h => h) (by rfl) (fun W hS => ?_) ?_
    rotate_left
    · skip
      refine gives_value (w := W) ⟨Below.refl _ _, hS⟩ ?_; go_simp; try with_reducible rfl
    simp only [List.setIfInBounds_toArray, List.set_cons_zero, List.set_cons_succ]
    refine extS_done (by kernel_rfl) (fun w12 _ hS12 => ?_) _
    have HS12 := Lib.hid hS12
    clear hS12
    go_wp2
    go_ret
    exact ⟨by rw [HE.out]; rfl, HB1.out.trans ((HS11.out.trans (HS12.out.mono HS11.out.size)).mono HB1.out.size)⟩
  · have g5b : (fo == en) = false := by simp [g5]
    have HE : Hid (z = false) := Lib.hid (by
      rw [HZ.out]
      refine decide_eq_false fun h => ?_
      rcases h.2.2.2 with h | h
      · exact g4 h
      · exact g5 h)
    clear g5 g4 g3
    go_upto_region 3 with fail
    refine wp_region_extS (fun W => Below w11.heap.size w11 W) (Below.refl _ _).drew HMX.out ?_
    refine extS_take (i := 0) (d := 25) (v := ?_) rfl rfl (by kernel_rfl) (by kernel_rfl) (by kernel_rfl) (fun _ _ _ h => h) (by rfl) (fun W hS => ?_) ?_
    rotate_left
    · skip
      refine gives_value (w := W) ⟨Below.refl _ _, hS⟩ ?_; go_simp; try with_reducible rfl
    simp only [List.setIfInBounds_toArray, List.set_cons_zero, List.set_cons_succ]
    refine extS_take (i := 1) (d := 26) (v := ?_) rfl rfl (by kernel_rfl) (by kernel_rfl) (by kernel_rfl) (fun _ _ _ h => h) (by rfl) (fun W hS => ?_) ?_
    rotate_left
    · skip
      refine gives_value (w := W) ⟨Below.refl _ _, hS⟩ ?_; go_simp; try with_reducible rfl
    simp only [List.setIfInBounds_toArray, List.set_cons_zero, List.set_cons_succ]
    refine extS_take (i := 2) (d := 27) (v := ?_) rfl rfl (by kernel_rfl) (by kernel_rfl) (by kernel_rfl) (fun _ _ _ h => h) (by rfl) (fun W hS => ?_) ?_
    rotate_left
    · skip
      refine gives_value (w := W) ⟨Below.refl _ _, hS⟩ ?_; go_simp; try with_reducible rfl
    simp only [List.setIfInBounds_toArray, List.set_cons_zero, List.set_cons_succ]
    refine extS_take (i := 3) (d := 28) (v := ?_) rfl rfl (by kernel_rfl) (by kernel_rfl) (by kernel_rfl) (fun _ _ _ h => h) (by rfl) (fun W hS => ?_) ?_
    rotate_left
    · skip
      refine gives_value (w := W) ⟨Below.refl _ _, hS⟩ ?_; go_simp; try with_reducible rfl
    simp only [List.setIfInBounds_toArray, List.set_cons_zero, List.set_cons_succ]
    refine extS_take (i := 4) (d := 29) (v := ?_) rfl rfl (by kernel_rfl) (by kernel_rfl) (by kernel_rfl) (fun _ _ _ h => h) (by rfl) (fun W hS => ?_) ?_
    rotate_left
    · skip
      refine gives_value (w := W) ⟨Below.refl _ _, hS⟩ ?_; go_simp; try with_reducible rfl
    simp only [List.setIfInBounds_toArray, List.set_cons_zero, List.set_cons_succ]
    refine extS_take (i := 5) (d := 30) (v := ?_) rfl rfl (by kernel_rfl) (by kernel_rfl) (by kernel_rfl) (fun _ _ _ h => h) (by rfl) (fun W hS => ?_) ?_
    rotate_left
    · skip
      obtain ⟨z0, z1, z3⟩ := HX.out W (HS11.out.trans (Below.mono hS HS11.out.size))
      refine gives_value (w := W) ⟨Below.refl _ _, hS⟩ ?_; go_simp; try with_reducible rfl
    simp only [List.setIfInBounds_toArray, List.set_cons_zero, List.set_cons_succ]
    refine extS_take (i := 6) (d := 31) (v := ?_) rfl rfl (by kernel_rfl) (by kernel_rfl) (by kernel_rfl) (fun _ _ _ h => h) (by rfl) (fun W hS => ?_) ?_
    rotate_left
    · skip
      refine gives_value (w := W) ⟨Below.refl _ _, hS⟩ ?_; go_simp; try with_reducible rfl
    simp only [List.setIfInBounds_toArray, List.set_cons_zero, List.set_cons_succ]
    refine extS_take (i := 7) (d := 32) (v := ?_) rfl rfl (by kernel_rfl) (by kernel_rfl) (by kernel_rfl) (fun _ _ _ h => h) (by rfl) (fun W hS => ?_) ?_
    rotate_left
    · skip
      go_simp; refine Gives.enter ((HEN.out W (HS11.out.trans (Below.mono hS HS11.out.size))).mono ?_); rintro e wn ⟨rfl, hbn⟩; refine ⟨?_, hbn, Below.trans hS (hbn.mono hS.size)⟩; with_reducible rfl
    simp only [List.setIfInBounds_toArray, List.set_cons_zero, List.set_cons_succ]
    refine extS_take (i := 8) (d := 33) (v := ?_) rfl rfl (by kernel_rfl) (by kernel_rfl) (by kernel_rfl) (fun _ _ _ h => h) (by rfl) (fun W hS => ?_) ?_
    rotate_left
    · skip
      refine gives_value (w := W) ⟨Below.refl _ _, hS⟩ ?_; go_simp; try with_reducible rfl
    simp only [List.setIfInBounds_toArray, List.set_cons_zero, List.set_cons_succ]
    refine extS_take (i := 9) (d := 34) (v := ?_) rfl rfl (by kernel_rfl) (by kernel_rfl) (by kernel_rfl) (fun _ _ _ h => h) (by rfl) (fun W hS => ?_) ?_
    rotate_left
    · skip
      refine gives_value (w := W) ⟨Below.refl _ _, hS⟩ ?_; go_simp; try with_reducible rfl
    simp only [List.setIfInBounds_toArray, List.set_cons_zero, List.set_cons_succ]
    refine extS_take (i := 10) (d := 6) (v := ?_) rfl rfl (by kernel_rfl) (by kernel_rfl) (by kernel_rfl) (fun _ _ _ h => h) (by rfl) (fun W hS => ?_) ?_
    rotate_left
    · skip
      refine gives_value (w := W) ⟨Below.refl _ _, hS⟩ ?_; go_simp; try with_reducible rfl
    simp only [List.setIfInBounds_toArray, List.set_cons_zero, List.set_cons_succ]
    refine extS_done (by kernel_rfl) (fun w12 _ hS12 => ?_) _
    have HS12 := Lib.hid hS12
    clear hS12
    go_wp2
    go_ret
    exact ⟨by rw [HE.out]; rfl, HB1.out.trans ((HS11.out.trans (HS12.out.mono HS11.out.size)).mono HB1.out.size)⟩

end Go.Proofs.YtgnalcobcdgnkaaGreatDoor

namespace Go.Proofs.YtgnalcobcdgnkaaGreatDoor
open Go.RowKit

/-- What Check answers. -/
def CChkPost (l : List MF) (w : World) (e : Ending) (w' : World) : Prop := ∃ n c : Nat, CChk l n c ∧ e = .returned (.tuple #[.int .i64 (n : Int), errV c]) ∧ Below w.heap.size w w'
theorem headM_take_succ {l : List MF} {k : Nat} (h : k < l.length) : headM (l.take (k + 1)) = mdig (mfd l k) := by
  unfold headM
  rw [if_neg (by rw [List.length_take]; omega), lastM_take (by omega) (by omega)]
  rfl
set_option maxRecDepth 100000 in
theorem slice_headM (w : World) (a : Option Addr) (n c m : Nat) (h : m ≤ c) : (Instr.slice 22 (.slice a n c) none (some (.int .i64 (m : Int))) none).run Tryz.prog w = .ok (.slice a m c) w := by
  rw [run_slice_h w 22 a n c (by kernel_rfl) .i64 (m : Int) (by omega) (by omega)]
  have hs : (sizeOf (Tryz.prog.elem 22)).run Tryz.prog w = .ok 37 w := by kernel_rfl
  rw [hs]
  simp only [Result.andThen, sliced]
  congr 1
  have : (a.map fun x => x.add (0 * 37)) = a := by cases a <;> simp [Addr.add]
  rw [this]
  simp

set_option maxHeartbeats 8000000 in
set_option maxRecDepth 100000 in
theorem ccheck_any (v : Value) (rs : List MV) (w : World) (B : Nat → Prop) (h : MsAt w B v rs) (hld : Laid w) :
    Calls Tryz.prog 7 #[v] w (CChkPost (msOf rs) w) := by
  obtain ⟨ao, cap, rfl, l1, m1, _⟩ := h.val
  obtain ⟨W1, hW1⟩ : ∃ W1, W1 = w.alloc (.cells (vals .u8 zero32).toArray 34) := ⟨_, rfl⟩
  have hb1 : Below w.heap.size w W1 := by rw [hW1]; exact (Below.refl _ _).alloc (Nat.le_refl _) _
  have hz1 : W1.heap[w.heap.size]? = some (.cells (vals .u8 zero32).toArray 34 (0, 0)) := by rw [hW1]; exact heap_alloc_new _ _
  obtain ⟨l, hl⟩ : ∃ l, l = msOf rs := ⟨_, rfl⟩
  have hll : l.length = rs.length := by rw [hl, msOf_length]
  obtain ⟨n, hn⟩ : ∃ n, n = rs.length := ⟨_, rfl⟩
  rw [← hl]
  rw [← hn] at h hll l1 ⊢
  have HR := Lib.hid h
  have HLD := Lib.hid hld
  have HLL := Lib.hid hll
  have HL := Lib.hid hl
  have HN := Lib.hid hn
  have HB1 := Lib.hid hb1
  have HZ1 := Lib.hid hz1
  have HNC : Hid (n ≤ cap) := Lib.hid l1
  have HMX : Hid (Tryz.prog.follows .mixedOrders = true) := Lib.hid (by kernel_rfl)
  have hnm : (n : Int) ≤ 9223372036854775807 := by unfold maxLen at m1; omega
  rw [rsha_zero] at hW1
  have HW1 := Lib.hid hW1
  have HDZ : ∀ D : List Nat, D.length = 32 → Hid ((Tryz.prog.info? 34).map (·.size) = some (vals .u8 D).toArray.size) := fun D hD => Lib.hid (by rw [List.size_toArray, vals_length, hD]; exact Tryz.sizeDG)
  clear hb1 hz1 hW1 hld hl hll hn m1 l1 h
  go_enter Tryz.func7, Tryz.ntmps7
  go_wp2
  rw [← HW1.out]
  go_loopw [5, 6, 7, 8, 11] (fun _ _ _ _ iv wr => ∃ k : Nat, k ≤ n ∧ iv = .int .i64 (k : Int) ∧ (∀ j, j < k → cerr l j = 0) ∧ wr.heap[w.heap.size]? = some (.cells (vals .u8 (headM (l.take k))).toArray 34 (0, 0)) ∧ Below w.heap.size w wr)
    (fun _ _ _ _ iv _ => n - (intOf iv).toNat)
  case atStart => exact ⟨0, Nat.zero_le _, rfl, fun j hj => absurd hj (Nat.not_lt_zero j), HZ1.out, HB1.out⟩
  case round =>
    obtain ⟨k, hk, rfl, hno, hhd, hb⟩ := hrel
    have HB := Lib.hid hb
    have HNO := Lib.hid hno
    have HHD := Lib.hid hhd
    have HSW : Hid (w.heap.size < wr.heap.size) := Lib.hid (Array.getElem?_eq_some_iff.1 hhd).1
    by_cases hlt : k < n
    rotate_left
    · obtain rfl : k = n := by omega
      have HFIN : Hid (CChk l k 0) := Lib.hid ⟨HNO.out, .inl ⟨HLL.out.symm, rfl⟩⟩
      clear hb hno hhd
      go_wp2
      go_ret2
      exact ⟨k, 0, HFIN.out, rfl, HB.out⟩
    have hltr : k < rs.length := by rw [← HN.out]; exact hlt
    have hrr := HR.out.old hb
    obtain ⟨b, off, rfl, _, _, hcell⟩ := hrr.at hltr
    have HCELL := Lib.hid hcell
    have hdg : Dg (mvd rs k).1.prev := hrr.dg k
    have hone : (mvRow (mvd rs k)).toArray.all (·.oneCell') = true := hrr.one k
    have hmd : mfd l k = (mvd rs k).1 := by rw [HL.out]; exact mvd_fst rs k
    have HMD := Lib.hid hmd
    have HDC : Hid (∀ W, Below wr.heap.size wr W → Calls Tryz.prog 19 #[.agg (mvRow (mvd rs k)).toArray] W (MDigPost (mvd rs k).1 W)) := Lib.hid fun W hb2 => mdigest_any _ _ W B ((hrr.old hb2).ps k) hdg ((HLD.out.next hb).next hb2)
    have HMS : Hid ((Tryz.prog.info? 43).map (·.size) = some (mvRow (mvd rs k)).toArray.size) := Lib.hid (by rw [mvRow_size hdg]; exact Tryz.sizeMF)
    have HML : Hid ((Tryz.prog.info? 43).map (·.size) = some (mvRow (mvd rs k)).length) := Lib.hid (by rw [mvRow_len hdg]; exact Tryz.sizeMF)
    have HSS : Hid ((mvRow (mvd rs k)).toArray.size = 37) := Lib.hid (mvRow_size hdg)
    have HON := Lib.hid hone
    obtain ⟨H, hH⟩ : ∃ H, H = headM (l.take k) := ⟨_, rfl⟩
    have hHd : Dg H := by rw [hH]; exact headM_dg _
    rw [← hH] at HHD
    have HHE := Lib.hid hH
    have HHS := HDZ H hHd.1
    have HFO0 : Hid (∀ W, Below wr.heap.size wr W → Calls Tryz.prog 20 #[.slice (some ⟨b, off, none⟩) k cap, .agg (vals .u8 H).toArray, .agg (mvRow (mvd rs k)).toArray] W fun e w' => e = .returned (.bool (folB (l.take k) H (mfd l k))) ∧ Below W.heap.size W w') := Lib.hid fun W hb2 => by
      have := cfollows_any _ (rs.take k) H (mvd rs k).1 (mvd rs k).2 W B ((hrr.old hb2).head (by omega)) hHd hdg
      rw [msOf_take, ← HL.out, ← hmd] at this
      rw [show mvRow (mvd rs k) = mfRow (mvd rs k).1 (mvd rs k).2 from rfl, ← hmd]
      exact this
    obtain ⟨A, hA⟩ : ∃ A, A = (mvRow (mvd rs k)).toArray := ⟨_, rfl⟩
    obtain ⟨R, hR⟩ : ∃ R, R = mvRow (mvd rs k) := ⟨_, rfl⟩
    have hRA : R.toArray = A := by rw [hA, hR]
    rw [← hA] at HDC HMS HSS HON HFO0
    rw [← hR] at HCELL HML
    have HRA := Lib.hid hRA
    have hlti : (k : Int) < (n : Int) := by omega
    have HKL : Hid (k + 1 ≤ n) := Lib.hid hlt
    have HKC : Hid (k ≤ cap) := Lib.hid (by have := HNC.out; omega)
    have HLK : Hid (k < l.length) := Lib.hid (by rw [HLL.out]; exact hlt)
    clear hb hno hhd hltr hrr hcell hdg hone hmd hH hHd hA hR hRA
    go_wp2_with (first
      | ((with_reducible show wpList _ _ _ (Oper.mk (some 15) _ _ _ _ _ :: _) _ _); go_must (refine wpList_load_at rfl 43 (.tmp 14) rfl b (off + k * 37) rfl R _ HCELL.out Tryz.underlying43 rfl HML.out ?_))
      | ((with_reducible show wpList _ _ _ (Oper.mk none _ _ _ _ _ :: _) _ _); rw [HRA.out]; go_must (refine wpList_store_new rfl 43 (.tmp 6) (.tmp 15) rfl wr _ A rfl rfl _ HMS.out (by rw [HSS.out]; rfl) HON.out ?_)))
    intro W2 hq2 hb2 hs2
    have HQ2 := Lib.hid hq2
    have HB2 := Lib.hid hb2
    have HD2 := Lib.hid (HDC.out W2 hb2)
    have HS2 : Hid (W2.heap.size = wr.heap.size + 1) := Lib.hid hs2
    clear hq2 hb2 hs2
    go_wp2_with ((with_reducible show wpList _ _ _ (Oper.mk (some 17) _ _ _ _ _ :: _) _ _); go_must (refine wpList_load_row rfl 43 (.tmp 6) rfl wr.heap.size rfl _ A _ _ HQ2.out Tryz.underlying43 rfl HMS.out ?_))
    refine HD2.out.mono ?_
    rintro e w4 ⟨hb4, h4⟩
    have HB4 := Lib.hid (HB2.out.trans (hb4.mono (by have := HS2.out; omega)))
    have HQ4 := Lib.hid ((hb4.block _ (by have := HS2.out; omega)).trans HQ2.out)
    have HS4 : Hid (wr.heap.size < w4.heap.size) := Lib.hid (by have := HS2.out; have := hb4.size; omega)
    clear hb4
    rcases h4 with ⟨hz, rfl⟩ | ⟨hz, rfl⟩
    rotate_left
    · have HFIN : Hid (CChk l k (mchk (mvd rs k).1)) := Lib.hid ⟨HNO.out, .inr ⟨HLK.out, by rw [cerr_bad (by rw [HMD.out]; exact hz), HMD.out], hz⟩⟩
      have HDS := HDZ zero32 (by simp [zero32])
      obtain ⟨z, hzz⟩ : ∃ z, z = mchk (mvd rs k).1 := ⟨_, rfl⟩
      rw [← hzz] at HFIN hz ⊢
      have HZ := Lib.hid hz
      rw [errV_pos hz]
      clear hz hzz
      go_wp2_with ((with_reducible show wpList _ _ _ (Oper.mk none _ _ _ _ _ :: _) _ _); go_must (refine wpList_store_new rfl 34 (.tmp 7) (.tmp 19) rfl w4 _ (vals .u8 zero32).toArray rfl rfl _ HDS.out rfl (all_one (ptRow_valsQ zero32)) ?_))
      intro W5 _ hb5 _
      have HB5 := Lib.hid (HB4.out.trans (hb5.mono HB4.out.size))
      clear hb5
      go_wp2
      go_ret2
      exact ⟨k, z, HFIN.out, by rw [errV_pos HZ.out]; rfl, HB.out.trans (HB5.out.mono HB.out.size)⟩
    have HZ : Hid (mchk (mfd l k) = 0) := Lib.hid (by rw [HMD.out]; exact hz)
    obtain ⟨D, hD⟩ : ∃ D, D = shaOf shaK shaH (fr (mtext (mvd rs k).1)) := ⟨_, rfl⟩
    have HDE : Hid (D = headM (l.take (k + 1))) := Lib.hid (by rw [headM_take_succ HLK.out, HMD.out]; exact hD)
    have hd32 : D.length = 32 := by rw [hD, sha_len]
    have HDS := HDZ D hd32
    have HD0 : Hid ((vals .u8 D).toArray.size = 32) := Lib.hid (by rw [List.size_toArray, vals_length, hd32])
    have HHD0 : Hid ((vals .u8 H).toArray.size = (vals .u8 D).toArray.size) := Lib.hid (by
      have h1 := HHS.out
      have h2 := HDS.out
      rw [h1] at h2
      exact Option.some.inj h2)
    rw [← hD]
    clear hz hD hd32
    go_wp2_with ((with_reducible show wpList _ _ _ (Oper.mk none _ _ _ _ _ :: _) _ _); go_must (refine wpList_store_new rfl 34 (.tmp 7) (.tmp 19) rfl w4 _ (vals .u8 D).toArray rfl rfl _ HDS.out (by rw [HD0.out]; rfl) (all_one (ptRow_valsQ D)) ?_))
    intro W6 hq6 hb6 hs6
    have HB6 := Lib.hid (HB4.out.trans (hb6.mono (Nat.le_of_lt HS4.out)))
    have HM6 : Hid (∀ W, Below W6.heap.size W6 W → W.heap[wr.heap.size]? = some (.cells A 43 (0, 0))) := Lib.hid fun W hb => (hb.block _ (by have := HS4.out; omega)).trans ((hb6.block _ HS4.out).trans HQ4.out)
    have HH6 : Hid (∀ W, Below W6.heap.size W6 W → W.heap[w.heap.size]? = some (.cells (vals .u8 H).toArray 34 (0, 0))) := Lib.hid fun W hb => (hb.block _ (by have := HS4.out; have := HSW.out; omega)).trans ((HB6.out.block _ HSW.out).trans HHD.out)
    have HD6 : Hid (∀ W, Below W6.heap.size W6 W → W.heap[w4.heap.size]? = some (.cells (vals .u8 D).toArray 34 (0, 0))) := Lib.hid fun W hb => (hb.block _ (by omega)).trans hq6
    have HS6 : Hid (w4.heap.size < W6.heap.size) := Lib.hid (by omega)
    have HFO : Hid (∀ W, Below W6.heap.size W6 W → Calls Tryz.prog 20 #[.slice (some ⟨b, off, none⟩) k cap, .agg (vals .u8 H).toArray, .agg A] W fun e w' => e = .returned (.bool (folB (l.take k) H (mfd l k))) ∧ Below W.heap.size W w') := Lib.hid fun W hb => HFO0.out W (HB6.out.trans (hb.mono HB6.out.size))
    obtain ⟨fb, hfb⟩ : ∃ x, x = folB (l.take k) H (mfd l k) := ⟨_, rfl⟩
    rw [← hfb] at HFO
    have HFB : Hid (fb = decide (folP (l.take k) (mfd l k))) := Lib.hid (by rw [hfb, HHE.out, folB_head])
    have hsl := fun W => slice_headM W (some ⟨b, off, none⟩) n cap k HKC.out
    clear hq6 hb6 hs6 hfb
    cases fb
    · have HFIN : Hid (CChk l k 12) := Lib.hid ⟨HNO.out, .inr ⟨HLK.out, (cerr_off HZ.out (of_decide_eq_false HFB.out.symm)).symm, by decide⟩⟩
      go_upto_region 8 with fail
      refine wp_region_extS (fun W => Below W6.heap.size W6 W) (Below.refl _ _).drew HMX.out ?_
      refine extS_take (i := 0) (d := 25) (v := ?_) rfl rfl (by kernel_rfl) (by kernel_rfl) (by kernel_rfl) (fun _ _ _ h => h) (by rfl) (fun W hS => ?_) ?_
      rotate_left
      · skip
        refine gives_value (w := W) ⟨Below.refl _ _, hS⟩ ?_; go_simp; try with_reducible rfl
      simp only [List.setIfInBounds_toArray, List.set_cons_zero, List.set_cons_succ]
      refine extS_take (i := 1) (d := 26) (v := ?_) rfl rfl (by kernel_rfl) (by kernel_rfl) (by kernel_rfl) (fun _ _ _ h => h) (by rfl) (fun W hS => ?_) ?_
      rotate_left
      · skip
        refine gives_value (w := W) ⟨Below.refl _ _, hS⟩ ?_; go_simp; try with_reducible rfl
      simp only [List.setIfInBounds_toArray, List.set_cons_zero, List.set_cons_succ]
      refine extS_take (i := 2) (d := 27) (v := ?_) rfl rfl (by kernel_rfl) (by kernel_rfl) (by kernel_rfl) (fun _ _ _ h => h) (by rfl) (fun W hS => ?_) ?_
      rotate_left
      · skip
        refine gives_value (w := W) ⟨Below.refl _ _, hS⟩ ?_; go_simp; try with_reducible rfl
      simp only [List.setIfInBounds_toArray, List.set_cons_zero, List.set_cons_succ]
      refine extS_take (i := 3) (d := 28) (v := ?_) rfl rfl (by kernel_rfl) (by kernel_rfl) (by kernel_rfl) (fun _ _ _ h => h) (by rfl) (fun W hS => ?_) ?_
      rotate_left
      · skip
        (refine load_gives 34 (.tmp 4) ?_ w.heap.size ?_ _ (vals .u8 H).toArray (0, 0) _ (HH6.out W hS) Tryz.underlying34 rfl HHS.out ?_ <;> first | rfl | exact ⟨Below.refl _ _, hS⟩)
      simp only [List.setIfInBounds_toArray, List.set_cons_zero, List.set_cons_succ]
      refine extS_take (i := 4) (d := 29) (v := ?_) rfl rfl (by kernel_rfl) (by kernel_rfl) (by kernel_rfl) (fun _ _ _ h => h) (by rfl) (fun W hS => ?_) ?_
      rotate_left
      · skip
        (refine load_gives 43 (.tmp 6) ?_ wr.heap.size ?_ _ A (0, 0) _ (HM6.out W hS) Tryz.underlying43 rfl HMS.out ?_ <;> first | rfl | exact ⟨Below.refl _ _, hS⟩)
      simp only [List.setIfInBounds_toArray, List.set_cons_zero, List.set_cons_succ]
      refine extS_take (i := 5) (d := 30) (v := ?_) rfl rfl (by kernel_rfl) (by kernel_rfl) (by kernel_rfl) (fun _ _ _ h => h) (by rfl) (fun W hS => ?_) ?_
      rotate_left
      · skip
        go_simp; refine Gives.enter ((HFO.out W hS).mono ?_); rintro e wn ⟨rfl, hbn⟩; refine ⟨?_, hbn, Below.trans hS (hbn.mono hS.size)⟩; with_reducible rfl
      simp only [List.setIfInBounds_toArray, List.set_cons_zero, List.set_cons_succ]
      refine extS_take (i := 6) (d := 31) (v := ?_) rfl rfl (by kernel_rfl) (by kernel_rfl) (by kernel_rfl) (fun _ _ _ h => h) (by rfl) (fun W hS => ?_) ?_
      rotate_left
      · skip
        refine gives_value (w := W) ⟨Below.refl _ _, hS⟩ ?_; go_simp; try with_reducible rfl
      simp only [List.setIfInBounds_toArray, List.set_cons_zero, List.set_cons_succ]
      refine extS_done (by kernel_rfl) (fun w8 _ hS8 => ?_) _
      have HS8 := Lib.hid hS8
      clear hS8
      go_wp2
      go_ret2
      exact ⟨k, 12, HFIN.out, rfl, HB.out.trans ((HB6.out.trans (HS8.out.mono HB6.out.size)).mono HB.out.size)⟩
    · have HNX : Hid (∀ j, j < k + 1 → cerr l j = 0) := Lib.hid fun j hj => by
        by_cases hjk : j < k
        · exact HNO.out j hjk
        · obtain rfl : j = k := by omega
          exact cerr_good HZ.out (of_decide_eq_true HFB.out.symm)
      go_upto_region 8 with fail
      refine wp_region_extS (fun W => Below W6.heap.size W6 W) (Below.refl _ _).drew HMX.out ?_
      refine extS_take (i := 0) (d := 25) (v := ?_) rfl rfl (by kernel_rfl) (by kernel_rfl) (by kernel_rfl) (fun _ _ _ h => h) (by rfl) (fun W hS => ?_) ?_
      rotate_left
      · skip
        refine gives_value (w := W) ⟨Below.refl _ _, hS⟩ ?_; go_simp; try with_reducible rfl
      simp only [List.setIfInBounds_toArray, List.set_cons_zero, List.set_cons_succ]
      refine extS_take (i := 1) (d := 26) (v := ?_) rfl rfl (by kernel_rfl) (by kernel_rfl) (by kernel_rfl) (fun _ _ _ h => h) (by rfl) (fun W hS => ?_) ?_
      rotate_left
      · skip
        refine gives_value (w := W) ⟨Below.refl _ _, hS⟩ ?_; go_simp; try with_reducible rfl
      simp only [List.setIfInBounds_toArray, List.set_cons_zero, List.set_cons_succ]
      refine extS_take (i := 2) (d := 27) (v := ?_) rfl rfl (by kernel_rfl) (by kernel_rfl) (by kernel_rfl) (fun _ _ _ h => h) (by rfl) (fun W hS => ?_) ?_
      rotate_left
      · skip
        refine gives_value (w := W) ⟨Below.refl _ _, hS⟩ ?_; go_simp; try with_reducible rfl
      simp only [List.setIfInBounds_toArray, List.set_cons_zero, List.set_cons_succ]
      refine extS_take (i := 3) (d := 28) (v := ?_) rfl rfl (by kernel_rfl) (by kernel_rfl) (by kernel_rfl) (fun _ _ _ h => h) (by rfl) (fun W hS => ?_) ?_
      rotate_left
      · skip
        (refine load_gives 34 (.tmp 4) ?_ w.heap.size ?_ _ (vals .u8 H).toArray (0, 0) _ (HH6.out W hS) Tryz.underlying34 rfl HHS.out ?_ <;> first | rfl | exact ⟨Below.refl _ _, hS⟩)
      simp only [List.setIfInBounds_toArray, List.set_cons_zero, List.set_cons_succ]
      refine extS_take (i := 4) (d := 29) (v := ?_) rfl rfl (by kernel_rfl) (by kernel_rfl) (by kernel_rfl) (fun _ _ _ h => h) (by rfl) (fun W hS => ?_) ?_
      rotate_left
      · skip
        (refine load_gives 43 (.tmp 6) ?_ wr.heap.size ?_ _ A (0, 0) _ (HM6.out W hS) Tryz.underlying43 rfl HMS.out ?_ <;> first | rfl | exact ⟨Below.refl _ _, hS⟩)
      simp only [List.setIfInBounds_toArray, List.set_cons_zero, List.set_cons_succ]
      refine extS_take (i := 5) (d := 30) (v := ?_) rfl rfl (by kernel_rfl) (by kernel_rfl) (by kernel_rfl) (fun _ _ _ h => h) (by rfl) (fun W hS => ?_) ?_
      rotate_left
      · skip
        go_simp; refine Gives.enter ((HFO.out W hS).mono ?_); rintro e wn ⟨rfl, hbn⟩; refine ⟨?_, hbn, Below.trans hS (hbn.mono hS.size)⟩; with_reducible rfl
      simp only [List.setIfInBounds_toArray, List.set_cons_zero, List.set_cons_succ]
      refine extS_take (i := 6) (d := 31) (v := ?_) rfl rfl (by kernel_rfl) (by kernel_rfl) (by kernel_rfl) (fun _ _ _ h => h) (by rfl) (fun W hS => ?_) ?_
      rotate_left
      · skip
        refine gives_value (w := W) ⟨Below.refl _ _, hS⟩ ?_; go_simp; try with_reducible rfl
      simp only [List.setIfInBounds_toArray, List.set_cons_zero, List.set_cons_succ]
      refine extS_done (by kernel_rfl) (fun w8 _ hS8 => ?_) _
      have HS8 := Lib.hid hS8
      have HD8 := Lib.hid (HD6.out w8 hS8)
      have HH8 := Lib.hid (HH6.out w8 hS8)
      clear hS8
      go_wp2_with (first
        | ((with_reducible show wpList _ _ _ (Oper.mk (some 34) _ _ _ _ _ :: _) _ _); go_must (refine wpList_load_row rfl 34 (.tmp 7) rfl w4.heap.size rfl _ (vals .u8 D).toArray _ _ HD8.out Tryz.underlying34 rfl HDS.out ?_))
        | ((with_reducible show wpList _ _ _ (Oper.mk none _ _ _ _ _ :: _) _ _); go_must (refine wpList_store_box rfl 34 (.tmp 4) (.tmp 34) rfl w.heap.size (vals .u8 D).toArray rfl rfl _ _ HH8.out HDS.out HHD0.out (all_one (ptRow_valsQ D)) ?_)))
      intro W9 hq9 hb9 _
      rw [HDE.out] at hq9
      have HQ9 := Lib.hid hq9
      have HB9 : Hid (Below w.heap.size w W9) := Lib.hid ((HB.out.trans ((HB6.out.trans (HS8.out.mono HB6.out.size)).mono HB.out.size)).trans hb9)
      clear hq9 hb9
      go_wp2
      go_roundw
      case rel => exact ⟨k + 1, HKL.out, by go_num, HNX.out, HQ9.out, HB9.out⟩
      case measure => have := HKL.out; simp [intOf]; omega

end Go.Proofs.YtgnalcobcdgnkaaGreatDoor

namespace Go.Proofs.YtgnalcobcdgnkaaGreatDoor
open Go.RowKit

/-- How many manifests two lists have in common. -/
def Comm (a b : List MF) (k : Nat) : Prop := k ≤ a.length ∧ k ≤ b.length ∧ (∀ j, j < k → mfd a j = mfd b j) ∧ ((k = a.length ∨ k = b.length) ∨ mfd a k ≠ mfd b k)
theorem Comm.all {a b : List MF} {k : Nat} (h : Comm a b k) (hl : a.length = b.length) : k = a.length ↔ a = b := by
  obtain ⟨h1, h2, h3, h4⟩ := h
  constructor
  · rintro rfl
    exact mfd_ext hl h3
  · rintro rfl
    rcases h4 with (h | h) | h
    · exact h
    · exact h
    · exact absurd rfl h

end Go.Proofs.YtgnalcobcdgnkaaGreatDoor
