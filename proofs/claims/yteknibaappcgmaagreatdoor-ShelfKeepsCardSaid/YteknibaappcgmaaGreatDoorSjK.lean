/- ShelfKeeps, walked. -/
import Derived.Test.YteknibaappcgmaaGreatDoorSjI
import Derived.Test.YteknibaappcgmaaGreatDoorDdP
import Derived.Test.YteknibaappcgmaaGreatDoorPjA
import Derived.Deep.RegionHeld3
import Derived.Deep.CutBlock
import Derived.Deep.Cut
namespace Go.Proofs.YteknibaappcgmaaGreatDoor
open Go.RowKit
set_option maxHeartbeats 400000 in
set_option maxRecDepth 100000 in
/-- Is, of whatever number. -/
theorem isN_any (c k : Nat) (b : Bool) (hb : ((c : Int) == (k : Int)) = b) (w : World) : Calls Tryz.prog 20 #[errV c, .int .i64 (k : Int)] w fun e w' => e = .returned (.bool b) ∧ w = w' := by
  go_enter Tryz.func20, Tryz.ntmps20
  go_wp2_with fail
  refine (num_any c w).mono ?_
  rintro e w' ⟨rfl, rfl⟩
  go_wp2
  go_ret
  exact ⟨rfl, rfl⟩
theorem fuse_bd (x : Int) : 0 ≤ wrap64 ((IntKind.u64.wrap (wrap64 x)).tmod 9) ∧ wrap64 ((IntKind.u64.wrap (wrap64 x)).tmod 9) ≤ 8 := by
  have h1 : 0 ≤ IntKind.u64.wrap (wrap64 x) := by rw [IntKind.wrap_u64]; omega
  obtain ⟨y, hy⟩ : ∃ y, y = (IntKind.u64.wrap (wrap64 x)).tmod 9 := ⟨_, rfl⟩
  have h2 : y = IntKind.u64.wrap (wrap64 x) % 9 := by rw [hy, Int.tmod_eq_emod_of_nonneg h1]
  rw [← hy]
  simp only [wrap64]
  omega
theorem rem_nat (k n : Nat) : ((k : Int).tmod (n : Int)) = ((k % n : Nat) : Int) := by rw [Int.ofNat_tmod]
set_option maxHeartbeats 16000000 in
set_option maxRecDepth 100000 in
theorem shelfKeeps_walk (v1 v2 v3 : Value) (acts : List UA) (bs : List Int) (ks : List Bool) (w : World) (hr1 : UAsAt w (fun j => j < w.heap.size) v1 acts) (hr2 : IRow w (fun j => j < w.heap.size) v2 bs) (hy2 : ∀ n ∈ bs, Int64 n) (hr3 : RowV w (fun j => j < w.heap.size) v3 (ks.map Value.bool)) (ht : Tens w) :
    Calls Tryz.prog 4 #[v1, v2, v3] w fun e w' => e = .returned (.bool true) ∧ Below w.heap.size w w' := by
  obtain ⟨ao1, cap1, rfl, _, _, _⟩ := hr1.val
  obtain ⟨ao2, cap2, rfl, _, _, _⟩ := hr2.val
  have HR1 := Lib.hid hr1
  have HR2 := Lib.hid hr2
  have HR3 := Lib.hid hr3
  have HY2 := Lib.hid hy2
  have HT := Lib.hid ht
  obtain ⟨ao3, cap3, rfl, _, _, _⟩ := hr3
  obtain ⟨n1, hn1⟩ : ∃ n, n = acts.length := ⟨_, rfl⟩
  obtain ⟨n2, hn2⟩ : ∃ n, n = bs.length := ⟨_, rfl⟩
  obtain ⟨n3, hn3⟩ : ∃ n, n = (ks.map Value.bool).length := ⟨_, rfl⟩
  rw [← hn1, ← hn2, ← hn3]
  rw [← hn1] at HR1
  rw [← hn2] at HR2
  rw [← hn3] at HR3
  have HN1 := Lib.hid hn1
  have HN2 := Lib.hid hn2
  clear hr1 hr2 hy2 ht hn1 hn2 hn3
  go_enter Tryz.func4, Tryz.ntmps4
  go_wp2_with fail
  refine (alive10_any w HT.out).mono ?_
  rintro r w1 ⟨rfl, hb1⟩
  have HB1 := Lib.hid hb1
  clear hb1
  by_cases h30 : (30 : Int) < (n1 : Int)
  · go_wp2
    go_ret
    exact ⟨rfl, HB1.out⟩
  by_cases h31 : (30 : Int) < (n2 : Int)
  · go_wp2
    go_ret
    exact ⟨rfl, HB1.out⟩
  by_cases h32 : (60 : Int) < (n3 : Int)
  · go_wp2
    go_ret
    exact ⟨rfl, HB1.out⟩
  have HL1 : Hid (n1 ≤ 30) := Lib.hid (by omega)
  have HL2 : Hid (n2 ≤ 30) := Lib.hid (by omega)
  go_wp2_with fail
  refine (newD_any 16777216 w1).mono ?_
  rintro r w2 (⟨_, _, rfl, hd2, hb2, _⟩ | ⟨hn, _⟩)
  rotate_left
  · exact absurd ⟨by decide, by decide⟩ hn
  have HOP := Lib.hid ((cst_new HB1.out hd2 hb2).open (R' := fun _ => False) (by omega) HT.out)
  obtain ⟨p, hp⟩ : ∃ p, p = w1.heap.size := ⟨_, rfl⟩
  rw [← hp] at HOP ⊢
  clear hd2 hb2 hp h30 h31 h32
  go_wp2_with fail
  refine HOP.out.mono ?_
  rintro r w3 ⟨h, rfl, C3, R3, D3, hb3, _⟩
  have HB3 := Lib.hid hb3
  clear hb3
  go_wp2_with fail
  refine (new_unit w3).mono ?_
  rintro r w4 ⟨rfl, hu4, hb4⟩
  obtain ⟨mu, hmu⟩ : ∃ m, m = w3.heap.size := ⟨_, rfl⟩
  obtain ⟨uu, huu⟩ : ∃ u, u = w3.heap.size + 1 := ⟨_, rfl⟩
  have HK4 : Hid (Kst w w4 C3 R3 p h D3 unew 0 0 ∧ Lun w4 C3 R3 uu mu unew ∧ w.heap.size ≤ uu ∧ w.heap.size ≤ mu) := Lib.hid (by
    have hlt := HB3.out.drs.lt
    have hsz := HB3.out.drs.size
    refine ⟨(Kst.old ⟨HB3.out.drs, HB3.out.says, HB3.out.room, HB3.out.le⟩ hb4), ⟨fun _ => False, by rw [hmu, huu]; exact hu4, ?_, fun j hj => hj.elim⟩, by omega, by omega⟩
    rintro j (rfl | rfl)
    · exact ⟨fun hc => by have := hlt _ (.inl hc); omega, fun hc => by have := hlt _ (.inr hc); omega⟩
    · exact ⟨fun hc => by have := hlt _ (.inl hc); omega, fun hc => by have := hlt _ (.inr hc); omega⟩)
  rw [← huu]
  clear hu4 hb4 hmu huu
  go_wp2
  go_loopw [9, 11, 57] (fun sv uv i wr => ∃ (k : Nat) (C R : Nat → Prop) (h : Nat) (D : DS) (U : US) (n u m : Nat), k ≤ n1 ∧ i = .int .i64 (k : Int) ∧ sv = .pointer (some ⟨h, 0, none⟩) ∧ uv = .pointer (some ⟨u, 0, none⟩) ∧ Kst w wr C R p h D U n (2 * k) ∧ Lun wr C R u m U ∧ w.heap.size ≤ u ∧ w.heap.size ≤ m)
    (fun _ _ i _ => n1 - (intOf i).toNat)
  case atStart => exact ⟨0, _, _, _, _, _, _, _, _, Nat.zero_le _, rfl, rfl, rfl, HK4.out.1, HK4.out.2.1, HK4.out.2.2⟩
  case round =>
    obtain ⟨k, C, R, h, D, U, n, u, m, hk, rfl, rfl, rfl, hst, hlu, hwu, hwm⟩ := hrel
    have HST := Lib.hid hst
    have HLU := Lib.hid hlu
    have HKL : Hid (k ≤ n1) := Lib.hid hk
    have HWU : Hid (w.heap.size ≤ u ∧ w.heap.size ≤ m) := Lib.hid ⟨hwu, hwm⟩
    clear hst hk hlu hwu hwm
    by_cases hlt : k < n1
    rotate_left
    · obtain rfl : k = n1 := by have := HKL.out; omega
      clear hlt
      go_wp2_with fail
      refine HST.out.drs.unit.mono ?_
      rintro r w5 ⟨u5, m5, rfl, hl5, _, _, hb5⟩
      have HSM := Lib.hid (hl5.same (HLU.out.old hb5))
      rw [sameUS_self] at HSM
      have HB5 := Lib.hid (HST.out.old hb5)
      clear hl5 hb5
      go_wp2_with fail
      refine HSM.out.mono ?_
      rintro r w6 ⟨rfl, hb6⟩
      have HB6 := Lib.hid (HB5.out.old hb6)
      clear hb6
      go_wp2
      go_ret
      exact ⟨rfl, HB6.out.drs.below⟩
    obtain ⟨a, ha⟩ : ∃ a, acts[k]? = some a := ⟨_, List.getElem?_eq_getElem (by rw [← HN1.out]; exact hlt)⟩
    obtain ⟨b', off, bv, rfl, hbl, _, e0, e1, e2, e3, haa⟩ := HR1.out.at ha
    have hbw := HST.out.drs.below
    have e0 := (hbw.cell (p := ⟨b', off + k * 4, none⟩) hbl).trans e0
    have e1 := (hbw.cell (p := ⟨b', off + k * 4 + 1, none⟩) hbl).trans e1
    have e2 := (hbw.cell (p := ⟨b', off + k * 4 + 2, none⟩) hbl).trans e2
    have e3 := (hbw.cell (p := ⟨b', off + k * 4 + 3, none⟩) hbl).trans e3
    obtain ⟨aob, capb, hbv, _, _, _⟩ := haa.data.reads.val
    subst hbv
    have hlti : (k : Int) < (n1 : Int) := by omega
    have HK := Lib.hid hlt
    have HDAT := Lib.hid haa.data
    have H8 := Lib.hid haa.byte
    have HADDR := Lib.hid haa.addr
    obtain ⟨kind, ep, addr, data⟩ := a
    simp only at e0 e1 e2 e3 HDAT H8 HADDR
    obtain ⟨nd, hnd⟩ : ∃ n, n = data.length := ⟨_, rfl⟩
    rw [← hnd] at e3 HDAT
    obtain ⟨W5, hW5⟩ : ∃ W, W = wr.alloc (.cells #[.int .i64 kind, .int .i64 ep, .int .i64 addr, .slice aob nd capb] 48) := ⟨_, rfl⟩
    have hb5 : Below wr.heap.size wr W5 := by rw [hW5]; exact (Below.refl _ _).alloc (Nat.le_refl _) _
    have hx5 : W5.heap[wr.heap.size]? = some (.cells #[.int .i64 kind, .int .i64 ep, .int .i64 addr, .slice aob nd capb] 48 (0, 0)) := by rw [hW5]; exact heap_alloc_new _ _
    have HK5 := Lib.hid (HST.out.old hb5)
    have HL5 := Lib.hid (HLU.out.old hb5)
    obtain ⟨y, hy⟩ : ∃ y, y = wr.heap.size := ⟨_, rfl⟩
    have HY : Hid (¬ C y ∧ y < W5.heap.size) := Lib.hid ⟨fun hc => by have := HST.out.drs.lt y (.inl hc); omega, by rw [hy]; exact (Array.getElem?_eq_some_iff.1 hx5).1⟩
    rw [← hy] at hx5
    have HX5 := Lib.hid hx5
    have HW5 := Lib.hid hW5
    have HYE := Lib.hid hy
    have HWK : Hid (wrap64 ((k : Int) + 1) = ((k + 1 : Nat) : Int)) := Lib.hid (wrap_succM k (by have := HKL.out; have := HL1.out; omega))
    obtain ⟨z, hz⟩ : ∃ z, z = bs.getD (k % n2) 0 := ⟨_, rfl⟩
    have HZ : Hid (-9223372036854775808 ≤ z ∧ z ≤ 9223372036854775807) := Lib.hid (by
      by_cases hltb : k % n2 < bs.length
      · exact HY2.out z (by rw [hz, List.getD_eq_getElem?_getD, List.getElem?_eq_getElem hltb]; exact List.getElem_mem _)
      · rw [hz, List.getD_eq_getElem?_getD, List.getElem?_eq_none (by omega)]; decide)
    have HBC : Hid (n2 = 0 ∨ (n2 ≠ 0 ∧ ∃ b2 off2, ao2 = some ⟨b2, off2, none⟩ ∧ k % n2 < n2 ∧ (k : Int).tmod (n2 : Int) = ((k % n2 : Nat) : Int) ∧ ∀ W, Below w.heap.size w W → W.cell? ⟨b2, off2 + k % n2, none⟩ = some (.int .i64 z))) := Lib.hid (by
      by_cases h0 : n2 = 0
      · exact .inl h0
      · right
        have hlt2 : k % n2 < n2 := Nat.mod_lt _ (by omega)
        have hltb : k % n2 < bs.length := by rw [← HN2.out]; exact hlt2
        obtain ⟨b2, off2, hao, hb2, _, hc2⟩ := HR2.out.at hltb
        exact ⟨h0, b2, off2, hao, hlt2, rem_nat k n2, fun W hW => by rw [hz]; exact (hW.cell (p := ⟨b2, off2 + k % n2, none⟩) hb2).trans (hc2 _ hltb)⟩)
    clear hz
    obtain ⟨x0, x1, x2, x3, _⟩ := four_cells9 hx5
    rw [hW5, hy] at x0 x1 x2 x3
    obtain ⟨X, hX⟩ : ∃ X, X = rapply U kind ep addr data := ⟨_, rfl⟩
    have HXE := Lib.hid hX
    obtain ⟨xn, V, xc⟩ := X
    clear ha hbl hbw haa hlt hb5 hx5 hW5 hnd hX hy
    by_cases h100 : (100 : Int) < (nd : Int)
    · go_wp2
      go_ret
      exact ⟨rfl, by rw [← HW5.out]; exact HK5.out.drs.below⟩
    have H100 := Lib.hid h100
    go_upto_region 15 with fail
    rw [← HW5.out, ← HYE.out]
    obtain ⟨t1, ht1⟩ : ∃ t, t = (decide (n2 ≠ 0) && (z.tmod 3 == 0)) := ⟨_, rfl⟩
    have HT1 := Lib.hid ht1
    clear ht1 x0 x1 x2 x3 e0 e1 e2 e3
    go_cut [57, 79] from 57 to 177 (fun iv bv wx => iv = .int .i64 (k : Int) ∧ bv = .bool t1 ∧ wx = W5)
    case first =>
      rcases HBC.out with h0 | ⟨h0, b2, off2, rfl, hlt2, hrem, hc⟩
      · have HTF : Hid (t1 = false) := Lib.hid (by rw [HT1.out, h0]; rfl)
        have hc0 : ¬ (0 : Int) < (n2 : Int) := by omega
        clear h0
        go_wp2
        go_meet
        case rel => exact ⟨rfl, by rw [HTF.out], rfl⟩
      · have HTF : Hid (t1 = (z.tmod 3 == 0)) := Lib.hid (by rw [HT1.out, decide_eq_true h0]; rfl)
        have hc0 : (0 : Int) < (n2 : Int) := by omega
        have hcn : ¬ (n2 : Int) = 0 := by omega
        have ec := hc W5 HK5.out.drs.below
        obtain ⟨q, hq⟩ : ∃ q, q = k % n2 := ⟨_, rfl⟩
        rw [← hq] at ec hrem hlt2
        have hqi : (q : Int) < (n2 : Int) := by omega
        clear h0 hq hc hlt2
        go_wp2
        go_meet
        case rel => exact ⟨rfl, by rw [HTF.out], rfl⟩
    case rest =>
    obtain ⟨rfl, rfl, hwc⟩ := hcut
    have hwc := hwc.symm
    subst hwc
    go_upto_if 79 with fail
    go_cut [57] from 57 to 177 (fun iv wx => iv = .int .i64 (k : Int) ∧ (∃ D6, Kst w wx C R p h D6 U n (2 * k)) ∧ Lun wx C R u m U ∧ wx.heap[y]? = some (.cells #[.int .i64 kind, .int .i64 ep, .int .i64 addr, .slice aob nd capb] 48 (0, 0)) ∧ y < wx.heap.size)
    case first =>
      cases t1
      · go_wp2
        go_meet
        case rel => exact ⟨rfl, ⟨_, HK5.out⟩, HL5.out, HX5.out, HY.out.2⟩
      · rcases HBC.out with h0 | ⟨h0, b2, off2, hao, hlt2, hrem, hc⟩
        · exact absurd HT1.out (by rw [h0]; simp)
        subst hao
        have hcn : ¬ (n2 : Int) = 0 := by omega
        have ec := hc W5 HK5.out.drs.below
        obtain ⟨q, hq⟩ : ∃ q, q = k % n2 := ⟨_, rfl⟩
        rw [← hq] at ec hrem hlt2
        have hqi : (q : Int) < (n2 : Int) := by omega
        clear h0 hq hc hlt2
        go_wp2_with fail
        refine (HK5.out.fuse _ ?f0 ?f1).mono ?_
        case f0 => exact (fuse_bd _).1
        case f1 => exact Int.le_trans (fuse_bd _).2 (by decide)
        rintro r w6 ⟨rfl, hk6, hc6⟩
        have HK6 := Lib.hid hk6
        have HC6 := Lib.hid hc6
        clear hk6 hc6 ec hrem
        go_wp2
        go_meet
        case rel => exact ⟨rfl, ⟨_, HK6.out⟩, HL5.out.chg HC6.out, (HC6.out.fr.block y HY.out.2 HY.out.1).trans HX5.out, Nat.lt_of_lt_of_le HY.out.2 HC6.out.fr.size⟩
    case rest =>
    obtain ⟨rfl, ⟨D6, hk6⟩, hl6, hx6, hyl⟩ := hcut
    obtain ⟨w6, h6⟩ : ∃ x, x = wc := ⟨_, rfl⟩
    subst h6
    have HK6 := Lib.hid hk6
    have HL6 := Lib.hid hl6
    have HX6 := Lib.hid hx6
    have HYL := Lib.hid hyl
    clear hk6 hl6 hx6 hyl
    go_wp2_with fail
    refine (HL6.out.copy HK6.out.drs.lt).mono ?_
    rintro r w7 ⟨ul, ml, rfl, hl7, hul7, hml7, hb7⟩
    have HB7 := Lib.hid hb7
    have HUL : Hid (w6.heap.size ≤ ul ∧ w6.heap.size ≤ ml ∧ w.heap.size ≤ ul ∧ w.heap.size ≤ ml) := Lib.hid (by have := HK6.out.drs.size; omega)
    have hx7 := (hb7.block y HYL.out).trans HX6.out
    obtain ⟨x0, x1, x2, x3, _⟩ := four_cells9 hx7
    have hap := hl7.apply kind ep HADDR.out (HDAT.out.keep (kept_below (HK6.out.old hb7).drs.below)).reads H8.out
    rw [← HXE.out] at hap
    have HAP := Lib.hid hap
    clear hl7 hul7 hml7 hb7 hx7 hap
    go_wp2_with fail
    refine HAP.out.mono ?_
    rintro r w8 ⟨rfl, hl8, hf8⟩
    have hb68 : Below w6.heap.size w6 w8 := HB7.out.trans (hf8.below HB7.out.size fun j hj => by rintro (rfl | rfl) <;> (have := HUL.out; omega))
    have HK8 := Lib.hid (HK6.out.old hb68)
    have HL8 := Lib.hid (HL6.out.old hb68)
    have HLL8 : Hid (Lun w8 C R ul ml V) := Lib.hid (hl8.sub (fun j hj => ⟨hj, Nat.lt_of_lt_of_le (HK6.out.drs.lt j (.inl hj)) HB7.out.size⟩) fun _ h => h)
    have hx8 := (hb68.block y HYL.out).trans HX6.out
    clear x0 x1 x2 x3
    obtain ⟨x0, x1, x2, x3, _⟩ := four_cells9 hx8
    have hact := HK8.out.act (by have := HKL.out; have := HL1.out; omega) HT.out kind ep HADDR.out (HDAT.out.keep (kept_below HK8.out.drs.below)).reads H8.out
    rw [← HXE.out] at hact
    have HACT := Lib.hid hact
    clear hl8 hf8 hb68 hx8 hact
    simp only
    obtain ⟨er, her⟩ : ∃ x, x = errV xc := ⟨_, rfl⟩
    rw [← her]
    have HER := Lib.hid her
    clear her
    go_wp2_with fail
    refine HACT.out.mono ?_
    rintro r w9 ⟨x9, c9, rfl, hp9⟩
    have HP9 := Lib.hid hp9
    obtain ⟨er9, her9⟩ : ∃ x, x = errV c9 := ⟨_, rfl⟩
    rw [← her9]
    have HER9 := Lib.hid her9
    clear hp9 her9 x0 x1 x2 x3
    go_upto_block 2 with fail
    go_cut [11, 14, 57] from 57 to 177 (fun uv lv iv wx => iv = .int .i64 (k : Int) ∧ ∃ (C9 R9 : Nat → Prop) (pu mu : Nat) (Uu : US) (pl ml2 : Nat) (Ul : US), uv = .pointer (some ⟨pu, 0, none⟩) ∧ lv = .pointer (some ⟨pl, 0, none⟩) ∧ Kend w wx C9 R9 p h pu mu Uu pl ml2 Ul (2 * k + 1))
    case first =>
      rcases HP9.out with ⟨hne, hx, hcx, C9, R9, D9, n9, hk9, hc9⟩ | ⟨hc14, hx, hz, C9, R9, D9, hk9, hc9⟩
      · simp only at hx hcx hk9
        subst hx hcx
        by_cases hz : c9 = 0
        · have HE9 : Hid (Kend w w9 C9 R9 p h ul ml V ul ml V (2 * k + 1)) := Lib.hid ⟨.inl ⟨rfl, D9, n9, hk9⟩, HLL8.out.chg hc9, HLL8.out.chg hc9, HUL.out.2.2⟩
          have here : er = .nilIface := by rw [HER.out, hz]; rfl
          have here9 : er9 = .nilIface := by rw [HER9.out, hz]; rfl
          subst here here9
          clear hne hk9 hc9 hz
          go_wp2
          go_meet
          case rel => exact ⟨rfl, C9, R9, _, _, _, _, _, _, rfl, rfl, HE9.out⟩
        · have hbad := rapply_bad (U := U) (k := kind) (e := ep) (a := addr) (d := data) (by rw [← HXE.out]; exact hz)
          rw [← HXE.out] at hbad
          obtain ⟨hxn, hvu⟩ : x9 = 0 ∧ V = U := hbad
          have HE9 : Hid (Kend w w9 C9 R9 p h u m U u m U (2 * k + 1)) := Lib.hid ⟨.inl ⟨rfl, D9, n9, by rw [← hvu]; exact hk9⟩, HL8.out.chg hc9, HL8.out.chg hc9, HWU.out⟩
          have HIS : Hid (∀ W, Calls Tryz.prog 20 #[.iface 68 (.int .i64 (c9 : Int)), .int .i64 14] W fun e w' => e = .returned (.bool false) ∧ W = w') := Lib.hid fun W => by
            have k1 := isN_any c9 14 false (by rw [beq_eq_false_iff_ne]; omega) W
            rw [errV_pos hz] at k1
            exact k1
          have HNUM : Hid (∀ W, Calls Tryz.prog 10 #[.iface 68 (.int .i64 (c9 : Int))] W fun e w' => e = .returned (.int .i64 (c9 : Int)) ∧ W = w') := Lib.hid fun W => by
            have k1 := num_any c9 W
            rw [errV_pos hz] at k1
            exact k1
          have here : er = .iface 68 (.int .i64 (c9 : Int)) := by rw [HER.out, errV_pos hz]
          have here9 : er9 = .iface 68 (.int .i64 (c9 : Int)) := by rw [HER9.out, errV_pos hz]
          subst here here9
          clear hne hk9 hc9 hz hxn hvu
          go_wp2_with fail
          refine (HIS.out _).mono ?_
          rintro r w9' ⟨rfl, h9⟩
          subst h9
          go_wp2_with fail
          refine (HNUM.out _).mono ?_
          rintro r w9' ⟨rfl, h9⟩
          subst h9
          go_wp2_with fail
          refine (HNUM.out _).mono ?_
          rintro r w9' ⟨rfl, h9⟩
          subst h9
          go_wp2
          go_meet
          case rel => exact ⟨rfl, C9, R9, _, _, _, _, _, _, rfl, rfl, HE9.out⟩
      · simp only at hz hk9
        have HE9 : Hid (Kend w w9 C9 R9 p h u m U ul ml V (2 * k + 1)) := Lib.hid ⟨.inr ⟨D9, hk9⟩, HL8.out.chg hc9, HLL8.out.chg hc9, HWU.out⟩
        have here : er = .nilIface := by rw [HER.out, hz]; rfl
        have here9 : er9 = .iface 68 (.int .i64 14) := by rw [HER9.out, hc14]; exact errV_pos (by decide)
        have HIS : Hid (∀ W, Calls Tryz.prog 20 #[.iface 68 (.int .i64 14), .int .i64 14] W fun e w' => e = .returned (.bool true) ∧ W = w') := Lib.hid fun W => by
          have k1 := isN_any 14 14 true (by decide) W
          rw [errV_pos (by decide)] at k1
          exact k1
        subst here here9
        clear hz hk9 hc9 hc14 hx
        go_wp2_with fail
        refine (HIS.out _).mono ?_
        rintro r w9' ⟨rfl, h9⟩
        subst h9
        go_wp2
        go_meet
        case rel => exact ⟨rfl, C9, R9, _, _, _, _, _, _, rfl, rfl, HE9.out⟩
    case rest =>
    obtain ⟨rfl, C9, R9, pu, mu, Uu, pl, ml2, Ul, rfl, rfl, hE9⟩ := hcut
    obtain ⟨w10, h10⟩ : ∃ x, x = wc := ⟨_, rfl⟩
    subst h10
    have HE9 := Lib.hid hE9
    clear hE9
    obtain ⟨t2, ht2⟩ : ∃ t, t = (decide (n2 ≠ 0) && (z.tmod 2 == 0)) := ⟨_, rfl⟩
    have HT2 := Lib.hid ht2
    have HN2K : Hid (2 * k + 2 ≤ 150) := Lib.hid (by have := HKL.out; have := HL1.out; omega)
    clear ht2
    go_upto_region 29 with fail
    go_cut [57, 142] from 57 to 177 (fun iv bv wx => iv = .int .i64 (k : Int) ∧ bv = .bool t2 ∧ wx = w10)
    case first =>
      rcases HBC.out with h0 | ⟨h0, b2, off2, hao, hlt2, hrem, hc⟩
      · have HTF : Hid (t2 = false) := Lib.hid (by rw [HT2.out, h0]; rfl)
        have hc0 : ¬ (0 : Int) < (n2 : Int) := by omega
        clear h0
        go_wp2
        go_meet
        case rel => exact ⟨rfl, by rw [HTF.out], rfl⟩
      · have HTF : Hid (t2 = (z.tmod 2 == 0)) := Lib.hid (by rw [HT2.out, decide_eq_true h0]; rfl)
        subst hao
        have hc0 : (0 : Int) < (n2 : Int) := by omega
        have hcn : ¬ (n2 : Int) = 0 := by omega
        have ec := hc w10 HE9.out.1.below
        obtain ⟨q, hq⟩ : ∃ q, q = k % n2 := ⟨_, rfl⟩
        rw [← hq] at ec hrem hlt2
        have hqi : (q : Int) < (n2 : Int) := by omega
        clear h0 hq hc hlt2
        go_wp2
        go_meet
        case rel => exact ⟨rfl, by rw [HTF.out], rfl⟩
    case rest =>
    obtain ⟨rfl, rfl, hwc⟩ := hcut
    have hwc := hwc.symm
    subst hwc
    go_upto_if 142 with fail
    go_cut [57] from 57 to 177 (fun iv wx => iv = .int .i64 (k : Int) ∧ ∃ C10 R10 : Nat → Prop, Kend w wx C10 R10 p h pu mu Uu pl ml2 Ul (2 * k + 2))
    case first =>
      cases t2
      · go_wp2
        go_meet
        case rel => exact ⟨rfl, HE9.out.more⟩
      · go_wp2_with fail
        refine (HE9.out.compact (by have := HN2K.out; omega) HT.out).mono ?_
        rintro r w11 ⟨⟨cc, rfl⟩, hE11⟩
        have HE11 := Lib.hid hE11
        clear hE11
        go_wp2
        go_meet
        case rel => exact ⟨rfl, HE11.out⟩
    case rest =>
    obtain ⟨rfl, C10, R10, hE10⟩ := hcut
    obtain ⟨w11, h11⟩ : ∃ x, x = wc := ⟨_, rfl⟩
    subst h11
    rcases hE10.cases with ⟨D10, n10, hk10, hu10, hp1, hp2⟩ | ⟨D10, hb10, hu10, hv10⟩
    · have HK10 := Lib.hid hk10
      have HU10 := Lib.hid hu10
      have HP10 := Lib.hid (And.intro hp1 hp2)
      clear hE10 hk10 hu10 hp1 hp2
      go_wp2_with fail
      refine HK10.out.downD.mono ?_
      rintro r w12 ⟨rfl, h12⟩
      subst h12
      go_wp2
      go_roundw
      case rel => exact ⟨k + 1, C10, R10, h, D10, _, n10, _, _, HK.out, by first | rfl | rw [← HWK.out], rfl, rfl, HK10.out, HU10.out, HP10.out⟩
      case measure => have := HK.out; simp [intOf]; omega
    · have HK10 := Lib.hid hb10
      have HU10 := Lib.hid hu10
      have HV10 := Lib.hid hv10
      clear hE10 hb10 hu10 hv10
      go_wp2_with fail
      refine HK10.out.downD.mono ?_
      rintro r w12 ⟨rfl, h12⟩
      subst h12
      go_wp2_with fail
      refine (HK10.out.cut HR3.out).mono ?_
      rintro r w12 ⟨rfl, C12, hd12, hc12⟩
      have HD12 := Lib.hid hd12
      have HC12 := Lib.hid hc12
      clear hd12 hc12
      go_wp2_with fail
      refine (Kbr.start HD12.out).mono ?_
      rintro r w13 ⟨rfl, C13, hd13, hc13⟩
      have HD13 := Lib.hid hd13
      have HC13 := Lib.hid (HC12.out.trans hc13)
      clear hd13 hc13
      go_wp2_with fail
      refine (HK10.out.opens (by have := HN2K.out; omega) HT.out HD13.out).mono ?_
      rintro r w14 ⟨h14, rfl, C14, R14, D14, V14, n14, hk14, hv14, hc14⟩
      have HK14 := Lib.hid hk14
      have HV14 := Lib.hid hv14
      have HUU := Lib.hid (HU10.out.chg (HC13.out.trans hc14))
      have HVV := Lib.hid (HV10.out.chg (HC13.out.trans hc14))
      clear hk14 hv14 hc14
      go_wp2_with fail
      refine HK14.out.drs.unit.mono ?_
      rintro r w15 ⟨u15, m15, rfl, hl15, hu15, hm15, hb15⟩
      have HL15 := Lib.hid hl15
      have HP15 : Hid (w.heap.size ≤ u15 ∧ w.heap.size ≤ m15) := Lib.hid (by have := HK14.out.drs.size; omega)
      have HK15 := Lib.hid (HK14.out.old hb15)
      have HS1 := Lib.hid (hl15.same (HUU.out.old hb15))
      have HS2 : Hid (∀ W, Below w15.heap.size w15 W → Calls Tryz.prog 26 #[.pointer (some ⟨u15, 0, none⟩), .pointer (some ⟨pl, 0, none⟩)] W fun r w' => r = .returned (.bool (sameUS V14 Ul)) ∧ Below W.heap.size W w') := Lib.hid fun W hW => (hl15.old hW).same ((HVV.out.old hb15).old hW)
      clear hl15 hu15 hm15 hb15
      obtain ⟨s1, hs1⟩ : ∃ s, s = sameUS V14 Uu := ⟨_, rfl⟩
      obtain ⟨s2, hs2⟩ : ∃ s, s = sameUS V14 Ul := ⟨_, rfl⟩
      have HSS : Hid (s1 = true ∨ s2 = true) := Lib.hid (by
        rcases HV14.out with e | e
        · left; rw [hs1, e]; exact sameUS_self _
        · right; rw [hs2, e]; exact sameUS_self _)
      rw [← hs1] at HS1
      rw [← hs2] at HS2
      clear hs1 hs2
      go_wp2_with fail
      refine HS1.out.mono ?_
      rintro r w16 ⟨rfl, hb16⟩
      have HB16 := Lib.hid hb16
      have HK16 := Lib.hid (HK15.out.old hb16)
      have HL16 := Lib.hid (HL15.out.old hb16)
      clear hb16
      cases s1
      · have hs2t : s2 = true := HSS.out.resolve_left (by decide)
        subst hs2t
        go_wp2_with fail
        refine (HS2.out _ HB16.out).mono ?_
        rintro r w17 ⟨rfl, hb17⟩
        have HK17 := Lib.hid (HK16.out.old hb17)
        have HL17 := Lib.hid (HL16.out.old hb17)
        clear hb17
        go_wp2
        go_roundw
        case rel => exact ⟨k + 1, C14, R14, h14, D14, V14, n14, u15, m15, HK.out, by first | rfl | rw [← HWK.out], rfl, rfl, HK17.out, HL17.out, HP15.out⟩
        case measure => have := HK.out; simp [intOf]; omega
      · go_wp2
        go_roundw
        case rel => exact ⟨k + 1, C14, R14, h14, D14, V14, n14, u15, m15, HK.out, by first | rfl | rw [← HWK.out], rfl, rfl, HK16.out, HL16.out, HP15.out⟩
        case measure => have := HK.out; simp [intOf]; omega
end Go.Proofs.YteknibaappcgmaaGreatDoor
