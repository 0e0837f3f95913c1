/- ShelfBases, walked. -/
import Derived.Test.YteknibaappcgmaaGreatDoorSjG
import Derived.Test.YteknibaappcgmaaGreatDoorDbP
import Derived.Test.YteknibaappcgmaaGreatDoorDaP
import Derived.Deep.RegionHeld3
import Derived.Deep.CutBlock
namespace Go.Proofs.YteknibaappcgmaaGreatDoor
open Go.RowKit
set_option maxHeartbeats 16000000 in
set_option maxRecDepth 100000 in
theorem shelfBases_walk (v1 v2 : Value) (acts more : List UA) (w : World) (hr1 : UAsAt w (fun j => j < w.heap.size) v1 acts) (hr2 : UAsAt w (fun j => j < w.heap.size) v2 more) (ht : Tens w) :
    Calls Tryz.prog 5 #[v1, v2] w fun e w' => e = .returned (.bool true) ∧ Below w.heap.size w w' := by
  obtain ⟨ao1, cap1, rfl, hlc1, hcap1, _⟩ := hr1.val
  obtain ⟨ao2, cap2, rfl, hlc2, hcap2, _⟩ := hr2.val
  have HR1 := Lib.hid hr1
  have HR2 := Lib.hid hr2
  have HT := Lib.hid ht
  obtain ⟨n1, hn1⟩ : ∃ n, n = acts.length := ⟨_, rfl⟩
  obtain ⟨n2, hn2⟩ : ∃ n, n = more.length := ⟨_, rfl⟩
  rw [← hn1, ← hn2]
  rw [← hn1] at HR1
  rw [← hn2] at HR2
  have HN1 := Lib.hid hn1
  have HN2 := Lib.hid hn2
  clear hr1 hr2 hlc1 hcap1 hlc2 hcap2 ht hn1 hn2
  go_enter Tryz.func5, Tryz.ntmps5
  go_wp2_with fail
  refine (alive10_any w HT.out).mono ?_
  rintro r w1 ⟨rfl, hb1⟩
  have HB1 := Lib.hid hb1
  clear hb1
  by_cases h30 : (30 : Int) < (n1 : Int)
  · go_wp2
    go_ret
    exact ⟨rfl, HB1.out⟩
  by_cases h31 : (30 : Int) < (n2 : Int)
  · go_wp2
    go_ret
    exact ⟨rfl, HB1.out⟩
  have HL1 : Hid (n1 ≤ 30) := Lib.hid (by omega)
  have HL2 : Hid (n2 ≤ 30) := Lib.hid (by omega)
  go_wp2_with fail
  refine (newD_any 16777216 w1).mono ?_
  rintro r w2 (⟨_, _, rfl, hd2, hb2, _⟩ | ⟨hn, _⟩)
  rotate_left
  · exact absurd ⟨by decide, by decide⟩ hn
  have HOP := Lib.hid ((cst_new HB1.out hd2 hb2).open (R' := fun _ => False) (by omega) HT.out)
  obtain ⟨p, hp⟩ : ∃ p, p = w1.heap.size := ⟨_, rfl⟩
  rw [← hp] at HOP ⊢
  clear hd2 hb2 hp h30 h31
  go_wp2_with fail
  refine HOP.out.mono ?_
  rintro r w3 ⟨h, rfl, C3, R3, D3, hb3, _⟩
  have HB3 := Lib.hid hb3
  clear hb3
  go_wp2
  go_loopw [48] (fun i wr => ∃ (k : Nat) (C R : Nat → Prop) (D : DS) (U : US) (n : Nat), k ≤ n1 ∧ i = .int .i64 (k : Int) ∧ Bst w wr C R p h D U n k)
    (fun i _ => n1 - (intOf i).toNat)
  case atStart => exact ⟨0, _, _, _, _, _, Nat.zero_le _, rfl, HB3.out⟩
  case round =>
    obtain ⟨k, C, R, D, U, n, hk, rfl, hst⟩ := hrel
    have HST := Lib.hid hst
    have HKL : Hid (k ≤ n1) := Lib.hid hk
    clear hst hk
    by_cases hlt : k < n1
    · obtain ⟨a, ha⟩ : ∃ a, acts[k]? = some a := ⟨_, List.getElem?_eq_getElem (by rw [← HN1.out]; exact hlt)⟩
      obtain ⟨b', off, bv, rfl, hbl, _, e0, e1, e2, e3, haa⟩ := HR1.out.at ha
      have hbw := HST.out.drs.below
      have e0 := (hbw.cell (p := ⟨b', off + k * 4, none⟩) hbl).trans e0
      have e1 := (hbw.cell (p := ⟨b', off + k * 4 + 1, none⟩) hbl).trans e1
      have e2 := (hbw.cell (p := ⟨b', off + k * 4 + 2, none⟩) hbl).trans e2
      have e3 := (hbw.cell (p := ⟨b', off + k * 4 + 3, none⟩) hbl).trans e3
      obtain ⟨aob, capb, hbv, _, _, _⟩ := haa.data.reads.val
      subst hbv
      have hlti : (k : Int) < (n1 : Int) := by omega
      have HK := Lib.hid hlt
      have HDAT := Lib.hid haa.data
      have H8 := Lib.hid haa.byte
      have HADDR := Lib.hid haa.addr
      obtain ⟨kind, ep, addr, data⟩ := a
      simp only at e0 e1 e2 e3 HDAT H8 HADDR
      obtain ⟨nd, hnd⟩ : ∃ n, n = data.length := ⟨_, rfl⟩
      rw [← hnd] at e3 HDAT
      obtain ⟨W5, hW5⟩ : ∃ W, W = wr.alloc (.cells #[.int .i64 kind, .int .i64 ep, .int .i64 addr, .slice aob nd capb] 48) := ⟨_, rfl⟩
      have hb5 : Below wr.heap.size wr W5 := by rw [hW5]; exact (Below.refl _ _).alloc (Nat.le_refl _) _
      have hx5 : W5.heap[wr.heap.size]? = some (.cells #[.int .i64 kind, .int .i64 ep, .int .i64 addr, .slice aob nd capb] 48 (0, 0)) := by rw [hW5]; exact heap_alloc_new _ _
      have HD5 := Lib.hid (HST.out.old hb5)
      have HRD5 : Hid (Reads W5 .u8 (.slice aob nd capb) data) := Lib.hid (HDAT.out.keep (kept_below HD5.out.drs.below)).reads
      have HACT := Lib.hid (HD5.out.act (by have := HKL.out; have := HL1.out; omega) HT.out kind ep HADDR.out HRD5.out H8.out)
      obtain ⟨y, hy⟩ : ∃ y, y = wr.heap.size := ⟨_, rfl⟩
      rw [← hy] at hx5
      obtain ⟨x0, x1, x2, x3, _⟩ := four_cells9 hx5
      rw [hW5, hy] at x0 x1 x2 x3
      have HW5 := Lib.hid hW5
      have HWK : Hid (wrap64 ((k : Int) + 1) = ((k + 1 : Nat) : Int)) := Lib.hid (wrap_succM k (by have := HKL.out; have := HL1.out; omega))
      obtain ⟨X, hX⟩ : ∃ X, X = rapply U kind ep addr data := ⟨_, rfl⟩
      rw [← hX] at HACT
      obtain ⟨xn, U', xc⟩ := X
      clear ha hbl hbw haa hlt hb5 hx5 hW5 hnd hX
      by_cases h100 : (100 : Int) < (nd : Int)
      · go_wp2
        go_ret
        exact ⟨rfl, by rw [← HW5.out]; exact HD5.out.drs.below⟩
      go_wp2_with fail
      rw [← HW5.out]
      refine HACT.out.mono ?_
      rintro r w6 ⟨rfl, C6, R6, D6, n6, hb6, hc6⟩
      have HB6 := Lib.hid hb6
      clear hb6 hc6 h100 x0 x1 x2 x3 e0 e1 e2 e3 hy
      simp only
      obtain ⟨er, her⟩ : ∃ x, x = errV xc := ⟨_, rfl⟩
      rw [← her]
      clear her
      go_wp2
      go_roundw
      case rel => exact ⟨k + 1, C6, R6, D6, U', n6, HK.out, by first | rfl | rw [← HWK.out], HB6.out⟩
      case measure => have := HK.out; simp [intOf]; omega
    obtain rfl : k = n1 := by have := HKL.out; omega
    have HUN := Lib.hid HST.out.drs.unit
    clear hlt
    go_wp2_with fail
    refine HUN.out.mono ?_
    rintro r w4 ⟨u, m, rfl, hl4, hu4, hm4, hb4⟩
    have HL4 := Lib.hid hl4
    have HST4 := Lib.hid (HST.out.old hb4)
    have HUM : Hid (wr.heap.size ≤ u ∧ wr.heap.size ≤ m) := Lib.hid ⟨hu4, hm4⟩
    have HNX := Lib.hid (shnext_any HST4.out.drs)
    have HBA := Lib.hid (HST4.out.base (by have := HL1.out; omega) HT.out)
    clear hl4 hu4 hm4 hb4
    go_wp2_with fail
    refine HNX.out.mono ?_
    rintro r w4' ⟨rfl, rfl⟩
    go_wp2_with fail
    refine HBA.out.mono ?_
    rintro r w5 ⟨rfl, C5, R5, D5, hb5, hdl, hc5⟩
    have HB5 := Lib.hid hb5
    have HL5 := Lib.hid (HL4.out.chg hc5)
    have HLI := Lib.hid (hb5.drs.disk.list (by have := hb5.says.sz; have := HL1.out; omega))
    rw [hdl] at HLI
    clear hb5 hdl hc5
    go_wp2_with fail
    refine HLI.out.mono ?_
    rintro r w6 ⟨lv, rfl, ho6, hb6⟩
    simp only at ho6
    obtain ⟨aol, capl, rfl⟩ := ho6.val
    obtain ⟨g, rfl, hg1, hgl, e0⟩ := ho6.at (i := 0) rfl
    obtain ⟨sn, hsn⟩ : ∃ s, nmV (sname 98 n) = .string s := ⟨_, rfl⟩
    have hix : ∀ W, (Instr.index 9 (.string sn) (.int .i64 0)).run Tryz.prog W = .ok (.int .u8 98) W := fun W => by
      have h1 := run_chN (sname 98 n) 0 (by rw [sname_len]; decide) W
      rw [show Value.string ⟨(sname 98 n).toArray⟩ = nmV (sname 98 n) from rfl, hsn] at h1
      exact h1
    rw [hsn] at e0
    have HB6 := Lib.hid (HB5.out.old hb6)
    have HL6 := Lib.hid (HL5.out.old hb6)
    have HCU := Lib.hid (HB6.out.cutC (by have := HL1.out; omega))
    have HG : Hid (w5.heap.size ≤ g ∧ g < w6.heap.size) := Lib.hid ⟨hg1, hgl⟩
    have HE0 := Lib.hid e0
    have HIX := Lib.hid hix
    simp only [errV_zero]
    clear ho6 hb6 hg1 hgl hsn e0 hix
    go_wp2_with fail
    refine HCU.out.mono ?_
    rintro r w7 ⟨rfl, C7, hd7, hc7⟩
    have HST7 := Lib.hid (HB6.out.startC (by have := HL1.out; omega) hd7)
    have HC7 := Lib.hid hc7
    clear hd7 hc7
    go_wp2_with fail
    refine HST7.out.mono ?_
    rintro r w8 ⟨rfl, C8, hd8, hc8⟩
    have HOP8 := Lib.hid (hd8.open (R' := fun _ => False) (by have := HL1.out; omega) HT.out)
    have HC8 := Lib.hid (HC7.out.trans hc8)
    clear hd8 hc8
    go_wp2_with fail
    refine HOP8.out.mono ?_
    rintro r w9 ⟨h9, rfl, C9, R9, D9, hb9, hc9⟩
    have HC9 := Lib.hid (HC8.out.trans hc9)
    have HB9 := Lib.hid hb9
    have HL9 := Lib.hid (HL6.out.chg HC9.out)
    have HE9 : Hid (∀ W, Below w9.heap.size w9 W → W.cell? ⟨g, 0, none⟩ = some (.string sn)) := Lib.hid fun W hW => by
      have hgC : ¬ C5 g := fun hc => by have := HB5.out.drs.lt g (.inl hc); have := HG.out; omega
      have hgl9 : g < w9.heap.size := Nat.lt_of_lt_of_le HG.out.2 HC9.out.fr.size
      exact (hW.cell (p := ⟨g, 0, none⟩) hgl9).trans ((World.cell?_of_block (a := ⟨g, 0, none⟩) (HC9.out.fr.block g HG.out.2 hgC)).trans HE0.out)
    have HU9 : Hid (∀ W, Below w9.heap.size w9 W → Calls Tryz.prog 25 #[.pointer (some ⟨h9, 0, none⟩)] W fun r w' => ∃ u2 m2, r = .returned (.pointer (some ⟨u2, 0, none⟩)) ∧ Lun w' C9 R9 u2 m2 U ∧ Below w9.heap.size w9 w') := Lib.hid fun W hW => (HB9.out.old hW).drs.unit.mono fun r w' ⟨u2, m2, k1, k2, _, _, k5⟩ => ⟨u2, m2, k1, k2, hW.trans (k5.mono hW.size)⟩
    have HSA9 : Hid (∀ W u2 m2, Below w9.heap.size w9 W → Lun W C9 R9 u2 m2 U → Calls Tryz.prog 26 #[.pointer (some ⟨u2, 0, none⟩), .pointer (some ⟨u, 0, none⟩)] W fun r w' => r = .returned (.bool true) ∧ Below w9.heap.size w9 w') := Lib.hid fun W u2 m2 hW hl => by
      have k := hl.same (HL9.out.old hW)
      rw [sameUS_self] at k
      exact k.mono fun r w' hp => ⟨hp.1, hW.trans (hp.2.mono hW.size)⟩
    have HNX9 : Hid (∀ W, Below w9.heap.size w9 W → Calls Tryz.prog 27 #[.pointer (some ⟨h9, 0, none⟩)] W fun r w' => r = .returned (.int .i64 (n : Int)) ∧ w' = W) := Lib.hid fun W hW => shnext_any (HB9.out.old hW).drs
    have HSELF : Hid (Below w9.heap.size w9 w9) := Lib.hid (Below.refl _ _)
    have e0 := HE9.out w9 (Below.refl _ _)
    have hix := HIX.out
    clear hb9 hc9
    go_upto_region 23 with fail
    go_wp2_with fail
    refine (HU9.out _ HSELF.out).mono ?_
    rintro r w11 ⟨u2, m2, rfl, hl11, hb11⟩
    have HL11 := Lib.hid hl11
    have HB11 := Lib.hid hb11
    clear hl11 hb11 e0 hix
    go_wp2_with fail
    refine (HSA9.out _ _ _ HB11.out HL11.out).mono ?_
    rintro r w12 ⟨rfl, hb12⟩
    have HB12 := Lib.hid hb12
    clear hb12
    go_wp2_with fail
    refine (HNX9.out _ HB12.out).mono ?_
    rintro r w13 ⟨rfl, h13⟩
    subst h13
    have HBS := Lib.hid (HB9.out.old HB12.out)
    have HLU := Lib.hid (HL9.out.old HB12.out)
    have HCP := Lib.hid (HLU.out.copy HBS.out.drs.lt)
    go_wp2_with fail
    refine HCP.out.mono ?_
    rintro r w14 ⟨uu, mm, rfl, hl14, hu14, hm14, hb14⟩
    have HL14 := Lib.hid hl14
    have HB14 := Lib.hid (HBS.out.old hb14)
    have HUU : Hid (w.heap.size ≤ uu ∧ w.heap.size ≤ mm) := Lib.hid (by have := HBS.out.drs.size; omega)
    clear hl14 hu14 hm14 hb14
    obtain ⟨wo, hwo⟩ : ∃ x, x = wr := ⟨_, rfl⟩
    subst hwo
    go_wp2
    go_loopw [119] (fun i wz => ∃ (k : Nat) (C R : Nat → Prop) (D : DS) (U : US) (n' : Nat), k ≤ n2 ∧ i = .int .i64 (k : Int) ∧ Bst w wz C R p h9 D U n' (31 + k) ∧ Lun wz C R uu mm U)
      (fun i _ => n2 - (intOf i).toNat)
    case atStart => exact ⟨0, _, _, _, _, _, Nat.zero_le _, rfl, HB14.out.upto (by have := HL1.out; omega), HL14.out⟩
    case round =>
      obtain ⟨k, C, R, D, U2, n', hk, rfl, hst, hlu⟩ := hrel
      have HST2 := Lib.hid hst
      have HLU2 := Lib.hid hlu
      have HKL2 : Hid (k ≤ n2) := Lib.hid hk
      clear hst hk hlu
      by_cases hlt : k < n2
      · obtain ⟨a, ha⟩ : ∃ a, more[k]? = some a := ⟨_, List.getElem?_eq_getElem (by rw [← HN2.out]; exact hlt)⟩
        obtain ⟨b', off, bv, rfl, hbl, _, e0, e1, e2, e3, haa⟩ := HR2.out.at ha
        have hbw := HST2.out.drs.below
        have e0 := (hbw.cell (p := ⟨b', off + k * 4, none⟩) hbl).trans e0
        have e1 := (hbw.cell (p := ⟨b', off + k * 4 + 1, none⟩) hbl).trans e1
        have e2 := (hbw.cell (p := ⟨b', off + k * 4 + 2, none⟩) hbl).trans e2
        have e3 := (hbw.cell (p := ⟨b', off + k * 4 + 3, none⟩) hbl).trans e3
        obtain ⟨aob, capb, hbv, _, _, _⟩ := haa.data.reads.val
        subst hbv
        have hlti : (k : Int) < (n2 : Int) := by omega
        have HK := Lib.hid hlt
        have HDAT := Lib.hid haa.data
        have H8 := Lib.hid haa.byte
        have HADDR := Lib.hid haa.addr
        obtain ⟨kind, ep, addr, data⟩ := a
        simp only at e0 e1 e2 e3 HDAT H8 HADDR
        obtain ⟨nd, hnd⟩ : ∃ n, n = data.length := ⟨_, rfl⟩
        rw [← hnd] at e3 HDAT
        obtain ⟨W5, hW5⟩ : ∃ W, W = wr.alloc (.cells #[.int .i64 kind, .int .i64 ep, .int .i64 addr, .slice aob nd capb] 48) := ⟨_, rfl⟩
        have hb5 : Below wr.heap.size wr W5 := by rw [hW5]; exact (Below.refl _ _).alloc (Nat.le_refl _) _
        have hx5 : W5.heap[wr.heap.size]? = some (.cells #[.int .i64 kind, .int .i64 ep, .int .i64 addr, .slice aob nd capb] 48 (0, 0)) := by rw [hW5]; exact heap_alloc_new _ _
        have HD5 := Lib.hid (HST2.out.old hb5)
        have HL5 := Lib.hid (HLU2.out.old hb5)
        have HRD5 : Hid (Reads W5 .u8 (.slice aob nd capb) data) := Lib.hid (HDAT.out.keep (kept_below HD5.out.drs.below)).reads
        have HACT := Lib.hid (HD5.out.act (by have := HKL2.out; have := HL2.out; omega) HT.out kind ep HADDR.out HRD5.out H8.out)
        obtain ⟨y, hy⟩ : ∃ y, y = wr.heap.size := ⟨_, rfl⟩
        have HY : Hid (¬ C y ∧ y < W5.heap.size) := Lib.hid ⟨fun hc => by have := HST2.out.drs.lt y (.inl hc); omega, by rw [hy]; exact (Array.getElem?_eq_some_iff.1 hx5).1⟩
        rw [← hy] at hx5
        have HX5 := Lib.hid hx5
        obtain ⟨x0, x1, x2, x3, _⟩ := four_cells9 hx5
        rw [hW5, hy] at x0 x1 x2 x3
        have HW5 := Lib.hid hW5
        have HYE := Lib.hid hy
        have HWK : Hid (wrap64 ((k : Int) + 1) = ((k + 1 : Nat) : Int)) := Lib.hid (wrap_succM k (by have := HKL2.out; have := HL2.out; omega))
        obtain ⟨X, hX⟩ : ∃ X, X = rapply U2 kind ep addr data := ⟨_, rfl⟩
        rw [← hX] at HACT
        have HXE := Lib.hid hX
        obtain ⟨xn, U', xc⟩ := X
        clear ha hbl hbw haa hlt hb5 hx5 hW5 hnd hX hy
        by_cases h100 : (100 : Int) < (nd : Int)
        · go_wp2
          go_ret
          exact ⟨rfl, by rw [← HW5.out]; exact HD5.out.drs.below⟩
        go_wp2_with fail
        rw [← HW5.out, ← HYE.out]
        refine HACT.out.mono ?_
        rintro r w6 ⟨rfl, C6, R6, D6, n6, hb6, hc6⟩
        have HB6 := Lib.hid hb6
        have HL6 := Lib.hid (HL5.out.chg hc6)
        have hx6 : w6.heap[y]? = some (.cells #[.int .i64 kind, .int .i64 ep, .int .i64 addr, .slice aob nd capb] 48 (0, 0)) := (hc6.fr.block y HY.out.2 HY.out.1).trans HX5.out
        clear hb6 hc6 h100 x0 x1 x2 x3 e0 e1 e2 e3
        obtain ⟨x0, x1, x2, x3, _⟩ := four_cells9 hx6
        have hap := HL6.out.apply kind ep HADDR.out (HDAT.out.keep (kept_below HB6.out.drs.below)).reads H8.out
        rw [← HXE.out] at hap
        have HAP := Lib.hid hap
        clear hap hx6
        simp only
        obtain ⟨er, her⟩ : ∃ x, x = errV xc := ⟨_, rfl⟩
        have HNUM : Hid (∀ W, Calls Tryz.prog 10 #[er] W fun e w' => e = .returned (.int .i64 (xc : Int)) ∧ W = w') := Lib.hid fun W => by rw [her]; exact num_any xc W
        simp only [← her] at HAP ⊢
        clear her
        go_wp2_with fail
        refine HAP.out.mono ?_
        rintro r w7 ⟨rfl, hl7, hf7⟩
        have HBL : Hid (Bst w w7 C6 R6 p h9 D6 U' n6 (31 + k + 1) ∧ Lun w7 C6 R6 uu mm U') := Lib.hid ⟨HB6.out.fr hf7 (by
          rintro j (rfl | rfl)
          · exact ⟨(HL6.out.out).1, (HL6.out.out).2.1, HUU.out.1⟩
          · exact ⟨(HL6.out.out).2.2.1, (HL6.out.out).2.2.2, HUU.out.2⟩), hl7.sub (fun j hj => ⟨hj, HB6.out.drs.lt j (.inl hj)⟩) fun _ h => h⟩
        clear hl7 hf7 x0 x1 x2 x3
        go_wp2_with fail
        refine (HNUM.out _).mono ?_
        rintro r w8 ⟨rfl, h8⟩
        subst h8
        go_wp2_with fail
        refine (HNUM.out _).mono ?_
        rintro r w9 ⟨rfl, h8⟩
        subst h8
        go_wp2
        go_roundw
        case rel => exact ⟨k + 1, C6, R6, D6, U', n6, HK.out, by first | rfl | rw [← HWK.out], HBL.out.1, HBL.out.2⟩
        case measure => have := HK.out; simp [intOf]; omega
      obtain rfl : k = n2 := by have := HKL2.out; omega
      clear hlt
      have HCU2 := Lib.hid (HST2.out.cutC (by have := HL2.out; omega))
      go_wp2_with fail
      refine HCU2.out.mono ?_
      rintro r w15 ⟨rfl, C15, hd15, hc15⟩
      have HSTA := Lib.hid (HST2.out.startC (by have := HL2.out; omega) hd15)
      have HC15 := Lib.hid hc15
      clear hd15 hc15
      go_wp2_with fail
      refine HSTA.out.mono ?_
      rintro r w16 ⟨rfl, C16, hd16, hc16⟩
      have HOP16 := Lib.hid (hd16.open (R' := fun _ => False) (by have := HL2.out; omega) HT.out)
      have HC16 := Lib.hid (HC15.out.trans hc16)
      clear hd16 hc16
      go_wp2_with fail
      refine HOP16.out.mono ?_
      rintro r w17 ⟨h17, rfl, C17, R17, D17, hb17, hc17⟩
      have HB17 := Lib.hid hb17
      have HL17 := Lib.hid (HLU2.out.chg (HC16.out.trans hc17))
      clear hb17 hc17
      go_upto_region 39 with fail
      go_wp2_with fail
      refine HB17.out.drs.unit.mono ?_
      rintro r w18 ⟨u3, m3, rfl, hl18, _, _, hb18⟩
      have HSM := Lib.hid (hl18.same (HL17.out.old hb18))
      rw [sameUS_self] at HSM
      have HB18 := Lib.hid (HB17.out.old hb18)
      clear hl18 hb18
      go_wp2_with fail
      refine HSM.out.mono ?_
      rintro r w19 ⟨rfl, hb19⟩
      have HB19 := Lib.hid (HB18.out.old hb19)
      clear hb19
      go_wp2
      go_ret
      exact ⟨rfl, HB19.out.drs.below⟩
end Go.Proofs.YteknibaappcgmaaGreatDoor
