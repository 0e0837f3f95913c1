/- The document's own unit: Check of any unit. -/
import Derived.Test.YtiaijpknnomlnaaGreatUvP
namespace Go.Proofs.YtiaijpknnomlnaaGreat
open Go.RowKit

section
variable {w : World} {B : Nat → Prop} {U : US} {lv : Value}
set_option maxHeartbeats 4000000 in
set_option maxRecDepth 100000 in
theorem rcheckG_any (h : DocU w B lv U) (hlen : U.cells.length ≤ 1048576) : Calls Tryz.prog 19 #[docU U lv] w fun r w' => r = .returned (.int .i64 (ofC U.epoch U.low U.cells : Nat)) ∧ Below w.heap.size w w' := by
  obtain ⟨ao, cap, rfl⟩ := h.val
  have H := Lib.hid h
  have HL := Lib.hid hlen
  obtain ⟨cs, hcs⟩ : ∃ c, c = U.cells := ⟨_, rfl⟩
  obtain ⟨lw, hlw⟩ : ∃ l, l = U.low := ⟨_, rfl⟩
  obtain ⟨ep, hep⟩ : ∃ l, l = U.epoch := ⟨_, rfl⟩
  have HC := Lib.hid hcs
  have HLW := Lib.hid hlw.symm
  obtain ⟨oc, hoc⟩ : ∃ o, o = ofC U.epoch U.low U.cells := ⟨_, rfl⟩
  have HOC : Hid (oc = if ep < 0 ∨ 1099511627776 < ep ∨ lw < 0 ∨ 1048576 < lw then 1 else entC lw cs) := Lib.hid (by rw [hoc, hcs, hlw, hep]; rfl)
  rw [← hoc]
  unfold docU
  rw [← hcs] at HL ⊢
  rw [← hlw]
  rw [← hep]
  have hbx : Below w.heap.size w (w.alloc (.cells #[.int .i64 ep, .int .i64 lw, .slice ao cs.length cap] 41)) := (Below.refl _ _).alloc (Nat.le_refl _) _
  have HBX := Lib.hid hbx
  clear h hcs hlw hep hoc hbx hlen
  by_cases c1 : ep < 0
  · obtain rfl : oc = 1 := by rw [HOC.out, if_pos (.inl c1)]
    go_enter Tryz.func19, Tryz.ntmps19
    go_wp2
    go_ret
    exact ⟨rfl, HBX.out⟩
  by_cases c2 : 1099511627776 < ep
  · obtain rfl : oc = 1 := by rw [HOC.out, if_pos (.inr (.inl c2))]
    go_enter Tryz.func19, Tryz.ntmps19
    go_wp2
    go_ret
    exact ⟨rfl, HBX.out⟩
  by_cases c3 : lw < 0
  · obtain rfl : oc = 1 := by rw [HOC.out, if_pos (.inr (.inr (.inl c3)))]
    go_enter Tryz.func19, Tryz.ntmps19
    go_wp2
    go_ret
    exact ⟨rfl, HBX.out⟩
  by_cases c4 : 1048576 < lw
  · obtain rfl : oc = 1 := by rw [HOC.out, if_pos (.inr (.inr (.inr c4)))]
    go_enter Tryz.func19, Tryz.ntmps19
    go_wp2
    go_ret
    exact ⟨rfl, HBX.out⟩
  have HOE : Hid (oc = entC lw cs) := Lib.hid (by rw [HOC.out, if_neg (by omega)])
  clear HOC HBX
  go_enter Tryz.func19, Tryz.ntmps19
  go_wp2
  obtain ⟨W0, hW0⟩ : ∃ W, W = w.alloc (.cells #[.int .i64 ep, .int .i64 lw, .slice ao cs.length cap] 41) := ⟨_, rfl⟩
  rw [← hW0]
  have HS0 : Hid (w.heap.size < W0.heap.size) := Lib.hid (by rw [hW0]; simp)
  have HB0 : Hid (Below w.heap.size w W0) := Lib.hid (by rw [hW0]; exact (Below.refl _ _).alloc (Nat.le_refl _) _)
  have HQ0 : Hid (W0.heap[w.heap.size]? = some (.cells #[.int .i64 ep, .int .i64 lw, .slice ao cs.length cap] 41 (0, 0))) := Lib.hid (by rw [hW0]; exact heap_alloc_new _ _)
  clear hW0 c1 c2 c3 c4
  go_loopw [3] (fun i wr => ∃ k : Nat, k ≤ cs.length ∧ i = .int .i64 (k : Int) ∧ Below W0.heap.size W0 wr ∧ ∀ x ∈ cs.take k, badA lw x = false)
    (fun i _ => cs.length - (intOf i).toNat)
  case atStart => exact ⟨0, Nat.zero_le _, rfl, Below.refl _ _, fun x hx => by simp at hx⟩
  case round =>
    obtain ⟨k, hk, rfl, hbr, hall⟩ := hrel
    have HALL := Lib.hid hall
    clear hall
    have g0 := (hbr.block _ HS0.out).trans HQ0.out
    have z0 : wr.cell? ⟨w.heap.size, 0, none⟩ = some (.int .i64 ep) := by rw [cell_of_row _ _ 0 _ _ _ g0]; rfl
    have z1 : wr.cell? ⟨w.heap.size, 1, none⟩ = some (.int .i64 lw) := by rw [cell_of_row _ _ 1 _ _ _ g0]; rfl
    have z2 : wr.cell? ⟨w.heap.size, 2, none⟩ = some (.slice ao cs.length cap) := by rw [cell_of_row _ _ 2 _ _ _ g0]; rfl
    have hww : Below w.heap.size w wr := HB0.out.trans (hbr.mono (by have := HS0.out; omega))
    have HBR := Lib.hid hbr
    have HBD : Hid (∀ n, Below W0.heap.size W0 (wr.drewN n)) := Lib.hid fun n => ⟨hbr.os, hbr.tape, hbr.output, hbr.size, hbr.block⟩
    have HL1 : cs.length ≤ 1048576 := HL.out
    clear g0 hbr
    by_cases hlt : k < cs.length
    · obtain ⟨f, hf⟩ : ∃ f, cs[k]? = some f := ⟨_, List.getElem?_eq_getElem hlt⟩
      have HF := Lib.hid hf
      obtain ⟨b, off, hao, hb, _, d0, d1, d2⟩ := H.out.at' (by rw [← HC.out]; exact hf)
      replace d0 := (hww.cell (p := ⟨b, off + k * 3, none⟩) hb).trans d0
      replace d1 := (hww.cell (p := ⟨b, off + k * 3 + 1, none⟩) hb).trans d1
      replace d2 := (hww.cell (p := ⟨b, off + k * 3 + 2, none⟩) hb).trans d2
      subst hao
      have hlti : (k : Int) < cs.length := by omega
      have HKK := Lib.hid hlt
      by_cases e1 : f.1 < lw
      · obtain rfl : oc = 1 := by rw [HOE.out]; exact entC_a (List.mem_of_getElem? HF.out) (by unfold badA; rw [decide_eq_true e1]; rfl)
        have e1' : decide (f.1 < lw) = true := decide_eq_true e1
        have HWW := Lib.hid hww
        have HWE : Hid (∀ n, Below w.heap.size w (wr.drewN n)) := Lib.hid fun n => ⟨hww.os, hww.tape, hww.output, hww.size, hww.block⟩
        clear hf hww d1 d2 e1
        generalize f.1 = f1 at *
        go_wp2_with fail
        go_quiet (fail)
        go_wp2
        go_ret
        exact ⟨rfl, HWE.out _⟩
      by_cases e2 : 1048575 < f.1
      · obtain rfl : oc = 1 := by rw [HOE.out]; exact entC_a (List.mem_of_getElem? HF.out) (by unfold badA; rw [decide_eq_true e2, Bool.or_true])
        have e1' : decide (f.1 < lw) = false := decide_eq_false e1
        have e2' : decide (1048575 < f.1) = true := decide_eq_true e2
        have HWE : Hid (∀ n, Below w.heap.size w (wr.drewN n)) := Lib.hid fun n => ⟨hww.os, hww.tape, hww.output, hww.size, hww.block⟩
        clear hf hww d1 d2 e1 e2
        generalize f.1 = f1 at *
        go_wp2_with fail
        go_quiet (fail)
        go_wp2
        go_ret
        exact ⟨rfl, HWE.out _⟩
      have HA2 := Lib.hid (take_all (P := fun x => badA lw x = false) HALL.out HF.out (by unfold badA; rw [decide_eq_false e1, decide_eq_false e2]; rfl))
      have e1' : decide (f.1 < lw) = false := decide_eq_false e1
      have e2' : decide (1048575 < f.1) = false := decide_eq_false e2
      clear hf hww d1 d2 e1 e2
      generalize f.1 = f1 at *
      go_wp2_with fail
      go_quiet (fail)
      go_wp2
      go_roundw
      case rel => exact ⟨k + 1, HKK.out, rfl, HBD.out _, HA2.out⟩
      case measure => have := HKK.out; simp [intOf]; omega
    · have HA : Hid (∀ x ∈ cs, badA lw x = false) := Lib.hid (by
        have h1 := HALL.out
        rwa [List.take_of_length_le (by omega)] at h1)
      clear HALL
      go_wp2
      have hbr := HBR.out
      clear z0 z1 z2 hww HBD
      go_loopw [4] (fun i wr => ∃ k : Nat, k ≤ cs.length ∧ i = .int .i64 (k : Int) ∧ Below W0.heap.size W0 wr ∧ ∀ x ∈ cs.take k, badC x = 0)
        (fun i _ => cs.length - (intOf i).toNat)
      case atStart => exact ⟨0, Nat.zero_le _, rfl, (by first | exact HBR.out | exact hbr), fun x hx => by simp at hx⟩
      case round =>
        clear hlt hk HBR hbr
        obtain ⟨k, hk, rfl, hbr, hall⟩ := hrel
        have HALL := Lib.hid hall
        clear hall
        have g0 := (hbr.block _ HS0.out).trans HQ0.out
        have z0 : wr.cell? ⟨w.heap.size, 0, none⟩ = some (.int .i64 ep) := by rw [cell_of_row _ _ 0 _ _ _ g0]; rfl
        have z1 : wr.cell? ⟨w.heap.size, 1, none⟩ = some (.int .i64 lw) := by rw [cell_of_row _ _ 1 _ _ _ g0]; rfl
        have z2 : wr.cell? ⟨w.heap.size, 2, none⟩ = some (.slice ao cs.length cap) := by rw [cell_of_row _ _ 2 _ _ _ g0]; rfl
        have hww : Below w.heap.size w wr := HB0.out.trans (hbr.mono (by have := HS0.out; omega))
        have HBR := Lib.hid hbr
        have HWW := Lib.hid hww
        have HBD : Hid (∀ n, Below W0.heap.size W0 (wr.drewN n)) := Lib.hid fun n => ⟨hbr.os, hbr.tape, hbr.output, hbr.size, hbr.block⟩
        have HL1 : cs.length ≤ 1048576 := HL.out
        clear g0 hbr
        by_cases hlt : k < cs.length
        · obtain ⟨f, hf⟩ : ∃ f, cs[k]? = some f := ⟨_, List.getElem?_eq_getElem hlt⟩
          have HF := Lib.hid hf
          obtain ⟨b, off, hao, hb, _, d0, d1, d2⟩ := H.out.at' (by rw [← HC.out]; exact hf)
          replace d0 := (hww.cell (p := ⟨b, off + k * 3, none⟩) hb).trans d0
          replace d1 := (hww.cell (p := ⟨b, off + k * 3 + 1, none⟩) hb).trans d1
          replace d2 := (hww.cell (p := ⟨b, off + k * 3 + 2, none⟩) hb).trans d2
          subst hao
          have hlti : (k : Int) < cs.length := by omega
          have HKK := Lib.hid hlt
          have hck := refCheck_any f.2.1 (S8 f.2.2)
          rw [S8_size] at hck
          obtain ⟨c, hc⟩ : ∃ c, c = badC f := ⟨_, rfl⟩
          have hc2 : chk f.2.1 f.2.2.length = c := hc.symm
          rw [hc2] at hck
          have HCK := Lib.hid hck
          have HBC := Lib.hid hc
          generalize f.2.1 = fk at *
          generalize S8 f.2.2 = fs at *
          clear hf hww d0 hc hc2 hck
          go_wp2_with fail
          refine (HCK.out _).mono ?_
          rintro r w9 ⟨rfl, hb9⟩
          have HB9 : Hid (Below W0.heap.size W0 w9) := Lib.hid (HBR.out.trans (hb9.mono HBR.out.size))
          have HW9 : Hid (Below w.heap.size w w9) := Lib.hid (HWW.out.trans (hb9.mono HWW.out.size))
          clear hb9
          by_cases hz : c = 0
          · have HA2 := Lib.hid (take_all (P := fun x => badC x = 0) HALL.out HF.out (by rw [← HBC.out]; exact hz))
            subst hz
            go_wp2
            go_roundw
            case rel => exact ⟨k + 1, HKK.out, rfl, HB9.out, HA2.out⟩
            case measure => have := HKK.out; simp [intOf]; omega
          · have HE : Hid (oc = c) := Lib.hid (by rw [HOE.out, entC_c HA.out HALL.out HF.out (by rw [← HBC.out]; exact hz), HBC.out])
            have hzi : ¬ (c : Int) = 0 := by omega
            clear hz
            go_wp2
            go_ret
            exact ⟨by rw [HE.out]; rfl, HW9.out⟩
        · have HCC : Hid (∀ x ∈ cs, badC x = 0) := Lib.hid (by
            have h1 := HALL.out
            rwa [List.take_of_length_le (by omega)] at h1)
          clear HALL
          go_wp2
          have hbr := HBR.out
          clear z0 z1 z2 hww HBD
          go_loopw [6] (fun i wr => ∃ k : Nat, k ≤ cs.length ∧ i = .int .i64 (k : Int) ∧ Below W0.heap.size W0 wr ∧ ∀ x ∈ cs.take k, badK x = false)
            (fun i _ => cs.length - (intOf i).toNat)
          case atStart => exact ⟨0, Nat.zero_le _, rfl, (by first | exact HBR.out | exact hbr), fun x hx => by simp at hx⟩
          case round =>
            clear hlt hk HBR hbr
            obtain ⟨k, hk, rfl, hbr, hall⟩ := hrel
            have HALL := Lib.hid hall
            clear hall
            have g0 := (hbr.block _ HS0.out).trans HQ0.out
            have z0 : wr.cell? ⟨w.heap.size, 0, none⟩ = some (.int .i64 ep) := by rw [cell_of_row _ _ 0 _ _ _ g0]; rfl
            have z1 : wr.cell? ⟨w.heap.size, 1, none⟩ = some (.int .i64 lw) := by rw [cell_of_row _ _ 1 _ _ _ g0]; rfl
            have z2 : wr.cell? ⟨w.heap.size, 2, none⟩ = some (.slice ao cs.length cap) := by rw [cell_of_row _ _ 2 _ _ _ g0]; rfl
            have hww : Below w.heap.size w wr := HB0.out.trans (hbr.mono (by have := HS0.out; omega))
            have HBR := Lib.hid hbr
            have HWW := Lib.hid hww
            have HBD : Hid (∀ n, Below W0.heap.size W0 (wr.drewN n)) := Lib.hid fun n => ⟨hbr.os, hbr.tape, hbr.output, hbr.size, hbr.block⟩
            have HL1 : cs.length ≤ 1048576 := HL.out
            clear g0 hbr
            by_cases hlt : k < cs.length
            · obtain ⟨f, hf⟩ : ∃ f, cs[k]? = some f := ⟨_, List.getElem?_eq_getElem hlt⟩
              have HF := Lib.hid hf
              obtain ⟨b, off, hao, hb, _, d0, d1, d2⟩ := H.out.at' (by rw [← HC.out]; exact hf)
              replace d0 := (hww.cell (p := ⟨b, off + k * 3, none⟩) hb).trans d0
              replace d1 := (hww.cell (p := ⟨b, off + k * 3 + 1, none⟩) hb).trans d1
              replace d2 := (hww.cell (p := ⟨b, off + k * 3 + 2, none⟩) hb).trans d2
              subst hao
              have hlti : (k : Int) < cs.length := by omega
              have HKK := Lib.hid hlt
              have HBK : Hid (badK f = (f.2.1 == 0 || f.2.1 == 3)) := Lib.hid rfl
              generalize f.2.1 = fk at *
              clear hf hww d0 d2
              cases p0 : (fk == 0)
              · cases p3 : (fk == 3)
                · have HA2 := Lib.hid (take_all (P := fun x => badK x = false) HALL.out HF.out (by rw [HBK.out, p0, p3]; rfl))
                  go_wp2
                  go_roundw
                  case rel => exact ⟨k + 1, HKK.out, rfl, HBR.out, HA2.out⟩
                  case measure => have := HKK.out; simp [intOf]; omega
                · obtain rfl : oc = 2 := by rw [HOE.out]; exact entC_k HA.out HCC.out (List.mem_of_getElem? HF.out) (by rw [HBK.out, p3, Bool.or_true])
                  go_wp2
                  go_ret
                  exact ⟨rfl, HWW.out⟩
              · obtain rfl : oc = 2 := by rw [HOE.out]; exact entC_k HA.out HCC.out (List.mem_of_getElem? HF.out) (by rw [HBK.out, p0]; rfl)
                go_wp2
                go_ret
                exact ⟨rfl, HWW.out⟩
            · have HKK3 : Hid (∀ x ∈ cs, badK x = false) := Lib.hid (by
                have h1 := HALL.out
                rwa [List.take_of_length_le (by omega)] at h1)
              clear HALL
              go_wp2
              have hbr := HBR.out
              clear z0 z1 z2 hww HBD
              go_loopw [8] (fun i wr => ∃ k : Nat, i = .int .i64 ((k : Int) + 1) ∧ Below W0.heap.size W0 wr ∧ ∀ i, i < k → upAt cs i)
                (fun i _ => cs.length - (intOf i).toNat)
              case atStart => exact ⟨0, rfl, (by first | exact HBR.out | exact hbr), fun i hi => absurd hi (Nat.not_lt_zero _)⟩
              case round =>
                clear hlt hk HBR hbr
                obtain ⟨k, rfl, hbr, hall⟩ := hrel
                have HALL := Lib.hid hall
                clear hall
                have g0 := (hbr.block _ HS0.out).trans HQ0.out
                have z0 : wr.cell? ⟨w.heap.size, 0, none⟩ = some (.int .i64 ep) := by rw [cell_of_row _ _ 0 _ _ _ g0]; rfl
                have z1 : wr.cell? ⟨w.heap.size, 1, none⟩ = some (.int .i64 lw) := by rw [cell_of_row _ _ 1 _ _ _ g0]; rfl
                have z2 : wr.cell? ⟨w.heap.size, 2, none⟩ = some (.slice ao cs.length cap) := by rw [cell_of_row _ _ 2 _ _ _ g0]; rfl
                have hww : Below w.heap.size w wr := HB0.out.trans (hbr.mono (by have := HS0.out; omega))
                have HBR := Lib.hid hbr
                have HWW := Lib.hid hww
                have HBD : Hid (∀ n, Below W0.heap.size W0 (wr.drewN n)) := Lib.hid fun n => ⟨hbr.os, hbr.tape, hbr.output, hbr.size, hbr.block⟩
                have HL1 : cs.length ≤ 1048576 := HL.out
                clear g0 hbr
                by_cases hlt2 : k + 1 < cs.length
                · have hlt : k < cs.length := by omega
                  obtain ⟨f, hf⟩ : ∃ f, cs[k]? = some f := ⟨_, List.getElem?_eq_getElem hlt⟩
                  have HF := Lib.hid hf
                  obtain ⟨b, off, hao, hb, _, d0, d1, d2⟩ := H.out.at' (by rw [← HC.out]; exact hf)
                  replace d0 := (hww.cell (p := ⟨b, off + k * 3, none⟩) hb).trans d0
                  replace d1 := (hww.cell (p := ⟨b, off + k * 3 + 1, none⟩) hb).trans d1
                  replace d2 := (hww.cell (p := ⟨b, off + k * 3 + 2, none⟩) hb).trans d2
                  subst hao
                  have hlti : (k : Int) < cs.length := by omega
                  have HKK := Lib.hid hlt
                  obtain ⟨f', hf'⟩ : ∃ f', cs[k + 1]? = some f' := ⟨_, List.getElem?_eq_getElem hlt2⟩
                  obtain ⟨b', off', hao', hb', _, d0', _, _⟩ := H.out.at' (by rw [← HC.out]; exact hf')
                  cases hao'
                  replace d0' := (hww.cell (p := ⟨b, off + (k + 1) * 3, none⟩) hb).trans d0'
                  have HG := Lib.hid hf'
                  have hlti2 : (k : Int) + 1 < cs.length := by omega
                  have HK2 := Lib.hid hlt2
                  by_cases hle : f'.1 ≤ f.1
                  · obtain rfl : oc = 13 := by rw [HOE.out]; exact entC_u HA.out HCC.out HKK3.out hf hf' hle
                    have e9 : decide (f'.1 ≤ f.1) = true := decide_eq_true hle
                    have HWE : Hid (∀ n, Below w.heap.size w (wr.drewN n)) := Lib.hid fun n => ⟨hww.os, hww.tape, hww.output, hww.size, hww.block⟩
                    generalize f.1 = f1 at *
                    generalize f'.1 = f2 at *
                    clear hf hf' hww d1 d2 hb'
                    go_wp2_with fail
                    go_quiet (fail)
                    go_wp2
                    go_ret
                    exact ⟨rfl, HWE.out _⟩
                  have HA2 : Hid (∀ i, i < k + 1 → upAt cs i) := Lib.hid fun i hi => by
                    by_cases h1 : i < k
                    · exact HALL.out i h1
                    · obtain rfl : i = k := by omega
                      intro a c ha hc
                      rw [HF.out] at ha
                      rw [HG.out] at hc
                      cases ha
                      cases hc
                      omega
                  have e9 : decide (f'.1 ≤ f.1) = false := decide_eq_false hle
                  generalize f.1 = f1 at *
                  generalize f'.1 = f2 at *
                  clear hf hf' hww d1 d2 hb'
                  go_wp2_with fail
                  go_quiet (fail)
                  go_wp2
                  go_roundw
                  case rel => exact ⟨k + 1, rfl, HBD.out _, HA2.out⟩
                  case measure => have := HK2.out; simp [intOf]; omega
                · obtain rfl : oc = 0 := by
                    rw [HOE.out]
                    exact entC_zero HA.out HCC.out HKK3.out fun i => by
                      by_cases h1 : i < k
                      · exact HALL.out i h1
                      · intro a c ha hc
                        have := (List.getElem?_eq_some_iff.1 hc).1
                        omega
                  have hlt3 : ¬ (k : Int) + 1 < cs.length := by omega
                  go_wp2
                  go_ret
                  exact ⟨rfl, HWW.out⟩
end
end Go.Proofs.YtiaijpknnomlnaaGreat
