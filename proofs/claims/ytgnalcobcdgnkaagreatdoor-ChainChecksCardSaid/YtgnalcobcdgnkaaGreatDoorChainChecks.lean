/- ChainChecks' walk. -/
import Derived.Test.YtgnalcobcdgnkaaGreatDoorQzb
import Derived.BigQuiet
namespace Go.Proofs.YtgnalcobcdgnkaaGreatDoor
open Go.RowKit

/-- What one manifest says decides what many say. -/
theorem CFind.hit {rs : List MV} {x i k : Int} {b : Bool} (h : CFind rs x i k b) {j : Nat} {y : Int} (hj : j < rs.length) (hf : FindPost (mvd rs j).1.ps x y true) (hno : ∀ q, q < j → ∃ z, FindPost (mvd rs q).1.ps x z false) : i = (j : Int) ∧ k = y ∧ b = true := by
  rcases h with ⟨j0, h1, rfl, rfl, h2, h3⟩ | ⟨_, _, _, h3⟩
  · rcases Nat.lt_trichotomy j0 j with h | h | h
    · obtain ⟨z, hz⟩ := hno j0 h
      exact absurd (h2.unique hz).2 (by decide)
    · subst h
      exact ⟨rfl, (h2.unique hf).1, rfl⟩
    · obtain ⟨z, hz⟩ := h3 j h
      exact absurd (hf.unique hz).2 (by decide)
  · obtain ⟨z, hz⟩ := h3 j hj
    exact absurd (hf.unique hz).2 (by decide)
theorem CFind.miss {rs : List MV} {x i k : Int} {b : Bool} (h : CFind rs x i k b) (hno : ∀ q, q < rs.length → ∃ z, FindPost (mvd rs q).1.ps x z false) : i = 0 ∧ k = 0 ∧ b = false := by
  rcases h with ⟨j0, h1, rfl, rfl, h2, h3⟩ | ⟨h1, h2, h3, _⟩
  · obtain ⟨z, hz⟩ := hno j0 h1
    exact absurd (h2.unique hz).2 (by decide)
  · exact ⟨h1, h2, h3⟩

set_option maxHeartbeats 16000000 in
set_option maxRecDepth 100000 in
theorem chainChecks_walk (v : Value) (rs : List MV) (x : Int) (w : World) (B : Nat → Prop) (h : MsAt w B v rs) (hld : Laid w) :
    Calls Tryz.prog 3 #[v, .int .i64 x] w fun e w' => e = .returned (.bool true) ∧ Below w.heap.size w w' := by
  obtain ⟨ao, cap, rfl, l1, m1, _⟩ := h.val
  obtain ⟨n, hn⟩ : ∃ n, n = rs.length := ⟨_, rfl⟩
  rw [← hn] at h l1 ⊢
  have HR : Hid (∀ W, Below w.heap.size w W → MsAt W B (.slice ao n cap) rs) := Lib.hid fun W hb => h.old hb
  have HLD : Hid (∀ W, Below w.heap.size w W → Laid W) := Lib.hid fun W hb => hld.next hb
  have HN := Lib.hid hn
  have HAL := Lib.hid (alive16_any w hld)
  clear h hld hn l1 m1
  go_enter Tryz.func3, Tryz.ntmps3
  go_wp2_with fail
  refine HAL.out.mono ?_
  rintro e w2 ⟨rfl, hb2⟩
  have HB2 := Lib.hid hb2
  have HLG := Lib.hid (long16_any _ rs w2 B (HR.out w2 hb2))
  clear hb2
  go_wp2_with fail
  refine HLG.out.mono ?_
  rintro e w3 ⟨z, hz, rfl, hb3⟩
  have HB3 := Lib.hid (HB2.out.trans (hb3.mono HB2.out.size))
  have HZ := Lib.hid hz
  clear hz hb3
  cases z
  rotate_left
  · go_wp2
    go_ret
    exact ⟨rfl, HB3.out⟩
  have HLEN := Lib.hid (HZ.out rfl)
  have HN12 : Hid (rs.length ≤ 12) := Lib.hid (by have := HLEN.out.1; rwa [msOf_length] at this)
  have HDO := Lib.hid (documents16_any _ rs w3 B (HR.out w3 HB3.out) HN12.out HLEN.out.2)
  go_wp2_with fail
  refine HDO.out.mono ?_
  rintro e w4 ⟨dv, rd, rfl, hrd, hdm, hb4⟩
  have HB4 := Lib.hid (HB3.out.trans (hb4.mono HB3.out.size))
  have HRD := Lib.hid hrd
  have HDM : Hid (∀ W, Below w4.heap.size w4 W → MsAt W (fun _ => True) dv rd) := Lib.hid fun W hb => hdm.old hb
  have HDL : Hid (rd.length ≤ 12) := Lib.hid (by rw [← msOf_length rd, hrd, msOf_length]; exact HN12.out)
  have HCK := Lib.hid (ccheck_any _ rs w4 B (HR.out w4 HB4.out) (HLD.out w4 HB4.out))
  clear hrd hdm hb4
  go_wp2_with fail
  refine HCK.out.mono ?_
  rintro e w5 ⟨n1, c1, hc1, rfl, hb5⟩
  have HC1 := Lib.hid hc1
  have HB45 := Lib.hid hb5
  have HB5 := Lib.hid (HB4.out.trans (hb5.mono HB4.out.size))
  have HCR := Lib.hid (rccheck_any dv rd w5 _ (HDM.out w5 hb5) HDL.out)
  clear hc1 hb5
  go_wp2_with fail
  refine HCR.out.mono ?_
  rintro e w6 ⟨n2, c2, hc2, rfl, hb6⟩
  rw [HRD.out] at hc2
  obtain ⟨e1, e2⟩ := HC1.out.unique hc2
  subst e1
  subst e2
  have HB46 := Lib.hid (HB45.out.trans (hb6.mono HB45.out.size))
  have HB6 := Lib.hid (HB5.out.trans (hb6.mono HB5.out.size))
  have HHE := Lib.hid (chead_any _ rs w6 B (HR.out w6 HB6.out) (HLD.out w6 HB6.out))
  clear hc2 hb6
  go_wp2_with fail
  refine HHE.out.mono ?_
  rintro e w7 ⟨rfl, hb7⟩
  have HB47 := Lib.hid (HB46.out.trans (hb7.mono HB46.out.size))
  have HB7 := Lib.hid (HB6.out.trans (hb7.mono HB6.out.size))
  obtain ⟨D, hD⟩ : ∃ D, D = headR (msOf rs) := ⟨_, rfl⟩
  obtain ⟨hc, hhc⟩ : ∃ c, c = headC (msOf rs) := ⟨_, rfl⟩
  have hd32 : D.length = 32 := by rw [hD]; exact (headR_dg _).1
  have HS1 : Hid ((Tryz.prog.info? 34).map (·.size) = some (vals .u8 D).toArray.size) := Lib.hid (by rw [List.size_toArray, vals_length, hd32]; exact Tryz.sizeDG)
  have HS2 : Hid ((Tryz.prog.info? 37).map (·.size) = some (vals .u8 D).toArray.size) := Lib.hid (by rw [List.size_toArray, vals_length, hd32]; exact Tryz.sizeDGD)
  have HZ1 : Hid ((vals .u8 D).toArray.size = 32) := Lib.hid (by rw [List.size_toArray, vals_length, hd32])
  have HEQ := Lib.hid fun w => eq_digestsD D D hd32 hd32 w
  have HDE := Lib.hid (And.intro hD hhc)
  rw [← hD, ← hhc]
  clear hb7 hD hhc hd32
  go_wp2_with ((with_reducible show wpList _ _ _ (Oper.mk none _ _ _ _ _ :: _) _ _); go_must (refine wpList_store_new rfl 34 (.tmp 10) (.tmp 43) rfl w7 _ (vals .u8 D).toArray rfl rfl _ HS1.out (by rw [HZ1.out]; rfl) (all_one (ptRow_valsQ D)) ?_))
  intro w8 hq8 hb8 hs8
  have HQ8 := Lib.hid hq8
  have HB48 := Lib.hid (HB47.out.trans (hb8.mono HB47.out.size))
  have HB8 := Lib.hid (HB7.out.trans (hb8.mono HB7.out.size))
  have HS8 : Hid (w7.heap.size < w8.heap.size) := Lib.hid (by omega)
  have HHR := Lib.hid (rchead_any dv rd w8 _ (HDM.out w8 HB48.out) HDL.out)
  clear hq8 hb8 hs8
  go_wp2_with fail
  refine HHR.out.mono ?_
  rintro e w9 ⟨rfl, hb9⟩
  have HB9 := Lib.hid (HB8.out.trans (hb9.mono HB8.out.size))
  have HQ9 := Lib.hid ((hb9.block _ HS8.out).trans HQ8.out)
  have HS9 : Hid (w7.heap.size < w9.heap.size) := Lib.hid (Nat.lt_of_lt_of_le HS8.out hb9.size)
  rw [HRD.out, ← HDE.out.1, ← HDE.out.2]
  clear hb9
  go_wp2_with ((with_reducible show wpList _ _ _ (Oper.mk none _ _ _ _ _ :: _) _ _); go_must (refine wpList_store_new rfl 37 (.tmp 12) (.tmp 48) rfl w9 _ (vals .u8 D).toArray rfl rfl _ HS2.out (by rw [HZ1.out]; rfl) (all_one (ptRow_valsQ D)) ?_))
  intro wa hqa hba hsa
  have HQA := Lib.hid hqa
  have HQB := Lib.hid ((hba.block _ HS9.out).trans HQ9.out)
  have HBA := Lib.hid (HB9.out.trans (hba.mono HB9.out.size))
  have HNU1 := Lib.hid (num_any c1 wa)
  have HNU2 := Lib.hid (num_any hc wa)
  have k1 : ((n1 : Int) != (n1 : Int)) = false := by simp
  have k2 : ((c1 : Int) != (c1 : Int)) = false := by simp
  have k3 : ((hc : Int) != (hc : Int)) = false := by simp
  have heq := HEQ.out
  have hdd : (D == D) = true := by simp
  rw [hdd] at heq
  clear hqa hba hsa hdd
  go_wp2_with fail
  refine HNU1.out.mono ?_
  rintro e wb ⟨rfl, hwb⟩
  subst hwb
  go_wp2_with (first
    | ((with_reducible show wpList _ _ _ (Oper.mk (some 60) _ _ _ _ _ :: _) _ _); go_must (refine wpList_load_rowH (by first | rfl | simp [Region.wanted, yielded, Act.put]) 34 (.tmp 10) rfl w7.heap.size rfl _ (vals .u8 D).toArray _ _ HQB.out Tryz.underlying34 rfl HS1.out ?_))
    | ((with_reducible show wpList _ _ _ (Oper.mk (some 61) _ _ _ _ _ :: _) _ _); go_must (refine wpList_load_rowH (by first | rfl | simp [Region.wanted, yielded, Act.put]) 37 (.tmp 12) rfl w9.heap.size rfl _ (vals .u8 D).toArray _ _ HQA.out Tryz.underlying37 rfl HS2.out ?_)))
  refine HNU2.out.mono ?_
  rintro e wb ⟨rfl, hwb⟩
  subst hwb
  have HBG := Lib.hid (cbegin_any _ rs wa B (HR.out wa HBA.out))
  have HCE : Hid (∀ i j u, i < rs.length → (mvRow (mvd rs i))[j]? = some u → ∃ b off, ao = some ⟨b, off, none⟩ ∧ wa.cell? ⟨b, off + i * 37 + j, none⟩ = some u) := Lib.hid fun i j u hi hu => by
    obtain ⟨b, off, h1, _, _, h2⟩ := (HR.out wa HBA.out).at hi
    exact ⟨b, off, h1, h2 j u hu⟩
  clear k1 k2 k3 heq
  go_upto_if 72 with fail
  go_cut [14, 15, 16] from 17 (fun av bv cv wx => av = .int .i64 (mfd (msOf rs) 0).fro ∧ bv = .int .i64 (lastM (msOf rs)).upto ∧ cv = .int .i64 (lastM (msOf rs)).trim ∧ Below wa.heap.size wa wx)
  case first =>
    by_cases h0 : n = 0
    · have hr0 : rs = [] := List.length_eq_zero_iff.1 (by rw [← HN.out]; exact h0)
      have HF : Hid ((mfd (msOf rs) 0).fro = 0 ∧ (lastM (msOf rs)).upto = 0 ∧ (lastM (msOf rs)).trim = 0) := Lib.hid (by rw [hr0]; exact ⟨rfl, rfl, rfl⟩)
      have hng : ¬ (0 : Int) < (n : Int) := by omega
      clear hr0 h0
      go_wp2
      go_meet
      case rel => exact ⟨by rw [HF.out.1], by rw [HF.out.2.1], by rw [HF.out.2.2], Below.refl _ _⟩
    · have hpos : (0 : Int) < (n : Int) := by omega
      have hi0 : 0 < rs.length := by rw [← HN.out]; omega
      have hi1 : n - 1 < rs.length := by rw [← HN.out]; omega
      obtain ⟨b, off, hao, c0⟩ := HCE.out 0 1 (.int .i64 (mvd rs 0).1.fro) hi0 rfl
      subst hao
      obtain ⟨b2, off2, hao2, c1⟩ := HCE.out (n - 1) 2 (.int .i64 (mvd rs (n - 1)).1.upto) hi1 rfl
      cases hao2
      obtain ⟨b3, off3, hao3, c2⟩ := HCE.out (n - 1) 3 (.int .i64 (mvd rs (n - 1)).1.trim) hi1 rfl
      cases hao3
      have HF : Hid ((mfd (msOf rs) 0) = (mvd rs 0).1 ∧ lastM (msOf rs) = (mvd rs (n - 1)).1) := Lib.hid ⟨by unfold mfd; exact mvd_fst rs 0, by rw [← lastV_fst]; unfold lastV; rw [HN.out]⟩
      have hn12 : (n : Int) ≤ 12 := by have := HN12.out; rw [← HN.out] at this; omega
      have hwn : wrap64 ((n : Int) - 1) = (n : Int) - 1 := IntWalk.wrap64_in _ (by omega)
      have hn1 : (n : Int) - 1 < (n : Int) := by omega
      have hn2 : (0 : Int) ≤ (n : Int) - 1 := by omega
      clear hi0 hi1
      rw [Nat.zero_mul, Nat.add_zero] at c0
      go_wp2_with fail
      go_quiet (fail)
      go_wp2
      go_meet
      case rel => exact ⟨by rw [HF.out.1], by rw [HF.out.2], by rw [HF.out.2], by first | exact Below.refl _ _ | exact ⟨rfl, rfl, rfl, Nat.le_refl _, fun _ _ => rfl⟩⟩
  case rest =>
  obtain ⟨rfl, rfl, rfl, hbc⟩ := hcut
  have HBC := Lib.hid (HBA.out.trans (hbc.mono HBA.out.size))
  clear hbc HBG
  obtain ⟨f0, hf0⟩ : ∃ f, f = (mfd (msOf rs) 0).fro := ⟨_, rfl⟩
  obtain ⟨u0, hu0⟩ : ∃ f, f = (lastM (msOf rs)).upto := ⟨_, rfl⟩
  obtain ⟨t0, ht0⟩ : ∃ f, f = (lastM (msOf rs)).trim := ⟨_, rfl⟩
  have hbg := cbegin_any _ rs wc B (HR.out wc HBC.out)
  have hen := fun W hb => cend_any _ rs W B (HR.out W hb)
  have hmk := fun W hb => cmark_any _ rs W B (HR.out W hb)
  rw [← hf0] at hbg ⊢
  rw [← hu0] at hen ⊢
  rw [← ht0] at hmk ⊢
  have HBG := Lib.hid hbg
  have HEN := Lib.hid hen
  have HMK := Lib.hid hmk
  have k1 : (f0 != f0) = false := by simp
  have k2 : (u0 != u0) = false := by simp
  have k3 : (t0 != t0) = false := by simp
  clear hbg hen hmk hf0 hu0 ht0
  go_wp2_with fail
  refine HBG.out.mono ?_
  rintro e wd ⟨rfl, hbd⟩
  have HBD := Lib.hid (HBC.out.trans (hbd.mono HBC.out.size))
  have HEN' := Lib.hid (HEN.out wd HBD.out)
  clear hbd
  go_wp2_with fail
  refine HEN'.out.mono ?_
  rintro e we ⟨rfl, hbe⟩
  have HBE := Lib.hid (HBD.out.trans (hbe.mono HBD.out.size))
  have HMK' := Lib.hid (HMK.out we HBE.out)
  clear hbe
  go_wp2_with fail
  refine HMK'.out.mono ?_
  rintro e wf ⟨rfl, hbf⟩
  have HBF := Lib.hid (HBE.out.trans (hbf.mono HBE.out.size))
  have HFI := Lib.hid (cfind_any _ rs x wf B (HR.out wf HBF.out))
  clear hbf
  go_wp2_with fail
  refine HFI.out.mono ?_
  rintro e wg ⟨fi, fk, fb, hf, rfl, hbg⟩
  have HF := Lib.hid hf
  have HBG2 := Lib.hid (HBF.out.trans (hbg.mono HBF.out.size))
  have hn12 : (n : Int) ≤ 12 := by have := HN12.out; rw [← HN.out] at this; omega
  clear hf hbg k1 k2 k3
  go_wp2
  go_loopw [20, 21, 22, 23, 116] (fun _ _ _ _ iv wr => ∃ k : Nat, k ≤ n ∧ iv = .int .i64 (k : Int) ∧ (∀ q, q < k → ∃ z, FindPost (mvd rs q).1.ps x z false) ∧ Below w.heap.size w wr)
    (fun _ _ _ _ iv _ => n - (intOf iv).toNat)
  case atStart => exact ⟨0, Nat.zero_le _, rfl, fun j hj => absurd hj (Nat.not_lt_zero j), HBG2.out⟩
  case round =>
    obtain ⟨k, hk, rfl, hno, hb⟩ := hrel
    have HB := Lib.hid hb
    have HNO := Lib.hid hno
    by_cases hlt : k < n
    rotate_left
    · obtain rfl : k = n := by omega
      obtain ⟨e1, e2, e3⟩ := HF.out.miss fun q hq => HNO.out q (by rw [HN.out]; exact hq)
      subst e1
      subst e2
      subst e3
      clear hb hno
      go_wp2
      go_ret
      exact ⟨rfl, HB.out⟩
    have hltr : k < rs.length := by rw [← HN.out]; exact hlt
    have hrr := HR.out wr hb
    obtain ⟨b, off, hao, _, _, hcell⟩ := hrr.at hltr
    subst hao
    have HCELL := Lib.hid hcell
    have hdg : Dg (mvd rs k).1.prev := hrr.dg k
    have HON := Lib.hid (hrr.one k)
    have HMS : Hid ((Tryz.prog.info? 43).map (·.size) = some (mvRow (mvd rs k)).toArray.size) := Lib.hid (by rw [mvRow_size hdg]; exact Tryz.sizeMF)
    have HML : Hid ((Tryz.prog.info? 43).map (·.size) = some (mvRow (mvd rs k)).length) := Lib.hid (by rw [mvRow_len hdg]; exact Tryz.sizeMF)
    have HSS : Hid ((mvRow (mvd rs k)).toArray.size = 37) := Lib.hid (mvRow_size hdg)
    have HFI : Hid (∀ W, Below wr.heap.size wr W → Calls Tryz.prog 16 #[.agg (mvRow (mvd rs k)).toArray, .int .i64 x] W fun e w' => ∃ i b, FindPost (mvd rs k).1.ps x i b ∧ e = .returned (.tuple #[.int .i64 i, .bool b]) ∧ Below W.heap.size W w') := Lib.hid fun W hb2 => mfind_any _ _ x W B ((hrr.old hb2).ps k) hdg
    obtain ⟨R, hR⟩ : ∃ R, R = mvRow (mvd rs k) := ⟨_, rfl⟩
    rw [← hR] at HCELL HON HMS HML HSS HFI
    have hlti : (k : Int) < (n : Int) := by omega
    have HKL : Hid (k + 1 ≤ n) := Lib.hid hlt
    have HLT : Hid (k < rs.length) := Lib.hid hltr
    clear hb hno hltr hrr hcell hdg hR
    go_wp2_with (first
      | ((with_reducible show wpList _ _ _ (Oper.mk (some 120) _ _ _ _ _ :: _) _ _); go_must (refine wpList_load_at rfl 43 (.tmp 119) rfl b (off + k * 37) rfl R _ HCELL.out Tryz.underlying43 rfl HML.out ?_))
      | ((with_reducible show wpList _ _ _ (Oper.mk none _ _ _ _ _ :: _) _ _); go_must (refine wpList_store_new rfl 43 (.tmp 21) (.tmp 120) rfl wr _ R.toArray rfl rfl _ HMS.out (by rw [HSS.out]; rfl) HON.out ?_)))
    intro W2 hq2 hb2 hs2
    have HQ2 := Lib.hid hq2
    have HB2 := Lib.hid (HB.out.trans (hb2.mono HB.out.size))
    have HF2 := Lib.hid (HFI.out W2 hb2)
    clear hq2 hb2 hs2
    go_wp2_with ((with_reducible show wpList _ _ _ (Oper.mk (some 122) _ _ _ _ _ :: _) _ _); go_must (refine wpList_load_row rfl 43 (.tmp 21) rfl wr.heap.size rfl _ R.toArray _ _ HQ2.out Tryz.underlying43 rfl HMS.out ?_))
    refine HF2.out.mono ?_
    rintro e wh ⟨i, z, hfp, rfl, hb3⟩
    have HFP := Lib.hid hfp
    have HB3' := Lib.hid (HB2.out.trans (hb3.mono HB2.out.size))
    clear hb3 hfp
    cases z
    · have HNX : Hid (∀ q, q < k + 1 → ∃ z, FindPost (mvd rs q).1.ps x z false) := Lib.hid fun q hq => by
        by_cases hqk : q < k
        · exact HNO.out q hqk
        · obtain rfl : q = k := by omega
          exact ⟨_, HFP.out⟩
      go_wp2
      go_roundw
      case rel => exact ⟨k + 1, HKL.out, by go_num, HNX.out, HB3'.out⟩
      case measure => have := HKL.out; simp [intOf]; omega
    · obtain ⟨e1, e2, e3⟩ := HF.out.hit HLT.out HFP.out HNO.out
      subst e1
      subst e2
      subst e3
      have k1 : ((k : Int) == (k : Int)) = true := by simp
      have k2 : (fk == fk) = true := by simp
      go_wp2
      go_ret
      exact ⟨rfl, HB3'.out⟩

end Go.Proofs.YtgnalcobcdgnkaaGreatDoor
