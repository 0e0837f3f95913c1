/- Which rows of entries are a unit's: the mathematics; the program's checkEntries. · Law 08's Long; a unit of entries. -/
import Derived.Test.YtiaijpknnomlnaaGreatUrP
import Derived.Deep.RegionHeld3
namespace Go.Proofs.YtiaijpknnomlnaaGreat
open Go.RowKit

def badA (low : Int) (f : Int × IC) : Bool := decide (f.1 < low) || decide (1048575 < f.1)
def badC (f : Int × IC) : Nat := chk f.2.1 f.2.2.length
def badK (f : Int × IC) : Bool := f.2.1 == 0 || f.2.1 == 3
def firstC : Im IC → Nat
  | [] => 0
  | f :: r => if badC f ≠ 0 then badC f else firstC r
/-- Neighbours rise. -/
def upAt (l : Im IC) (i : Nat) : Prop := ∀ a b, l[i]? = some a → l[i + 1]? = some b → a.1 < b.1
open Classical in
/-- An error's number of a row of entries. -/
noncomputable def entC (low : Int) (l : Im IC) : Nat := if l.any (badA low) = true then 1 else if firstC l ≠ 0 then firstC l else if l.any badK = true then 2 else if IRise l then 0 else 13
theorem firstC_at : ∀ {l : Im IC} {k : Nat} {f : Int × IC}, (∀ x ∈ l.take k, badC x = 0) → l[k]? = some f → badC f ≠ 0 → firstC l = badC f
  | [], _, _, _, h, _ => by cases h
  | x :: r, 0, f, _, h, hb => by
    obtain rfl : x = f := by simpa using h
    unfold firstC
    rw [if_pos hb]
  | x :: r, k + 1, f, hg, h, hb => by
    have hx := hg x (by simp)
    unfold firstC
    rw [if_neg (by rw [hx]; decide)]
    exact firstC_at (k := k) (fun y hy => hg y (by simp [hy])) (by simpa using h) hb
theorem firstC_none : ∀ {l : Im IC}, (∀ x ∈ l, badC x = 0) → firstC l = 0
  | [], _ => rfl
  | x :: r, h => by
    unfold firstC
    rw [if_neg (by rw [h x (by simp)]; decide)]
    exact firstC_none fun y hy => h y (by simp [hy])
theorem firstC_all : ∀ {l : Im IC}, firstC l = 0 → ∀ x ∈ l, badC x = 0
  | [], _, x, hx => by cases hx
  | y :: r, h, x, hx => by
    unfold firstC at h
    by_cases hb : badC y ≠ 0
    · rw [if_pos hb] at h; exact absurd h hb
    · rw [if_neg hb] at h
      rcases List.mem_cons.1 hx with rfl | hx
      · exact Classical.not_not.1 hb
      · exact firstC_all h x hx
theorem rise_up : ∀ {l : Im IC}, (∀ i, upAt l i) → IRise l
  | [], _ => List.Pairwise.nil
  | x :: r, h => by
    have hr : IRise r := rise_up fun i a b ha hb => h (i + 1) a b (by simpa using ha) (by simpa using hb)
    refine List.pairwise_cons.2 ⟨fun y hy => ?_, hr⟩
    cases r with
    | nil => cases hy
    | cons z s =>
      have h0 := h 0 x z rfl rfl
      rcases List.mem_cons.1 hy with rfl | hy
      · exact h0
      · have := (List.pairwise_cons.1 hr).1 y hy
        omega
theorem up_rise {l : Im IC} (h : IRise l) (i : Nat) : upAt l i := fun a b ha hb => by
  unfold IRise at h
  rw [List.pairwise_iff_getElem] at h
  obtain ⟨h7, e7⟩ := List.getElem?_eq_some_iff.1 ha
  obtain ⟨h8, e8⟩ := List.getElem?_eq_some_iff.1 hb
  have := h i (i + 1) h7 h8 (by omega)
  rwa [e7, e8] at this
theorem entC_a {low : Int} {l : Im IC} {f : Int × IC} (hf : f ∈ l) (h : badA low f = true) : entC low l = 1 := by
  unfold entC
  rw [if_pos (List.any_eq_true.2 ⟨f, hf, h⟩)]
theorem noA {low : Int} {l : Im IC} (h : ∀ f ∈ l, badA low f = false) : ¬ l.any (badA low) = true := by
  rw [List.any_eq_true]
  rintro ⟨f, hf, h1⟩
  rw [h f hf] at h1
  cases h1
theorem entC_c {low : Int} {l : Im IC} (ha : ∀ f ∈ l, badA low f = false) {k : Nat} {f : Int × IC} (hg : ∀ x ∈ l.take k, badC x = 0) (hf : l[k]? = some f) (h : badC f ≠ 0) : entC low l = badC f := by
  unfold entC
  rw [if_neg (noA ha), firstC_at hg hf h, if_pos h]
theorem entC_k {low : Int} {l : Im IC} (ha : ∀ f ∈ l, badA low f = false) (hc : ∀ x ∈ l, badC x = 0) {f : Int × IC} (hf : f ∈ l) (h : badK f = true) : entC low l = 2 := by
  unfold entC
  rw [if_neg (noA ha), firstC_none hc, if_neg (by decide), if_pos (List.any_eq_true.2 ⟨f, hf, h⟩)]
theorem noK {l : Im IC} (h : ∀ f ∈ l, badK f = false) : ¬ l.any badK = true := by
  rw [List.any_eq_true]
  rintro ⟨f, hf, h1⟩
  rw [h f hf] at h1
  cases h1
theorem entC_u {low : Int} {l : Im IC} (ha : ∀ f ∈ l, badA low f = false) (hc : ∀ x ∈ l, badC x = 0) (hk : ∀ f ∈ l, badK f = false) {k : Nat} {a b : Int × IC} (h1 : l[k]? = some a) (h2 : l[k + 1]? = some b) (h : b.1 ≤ a.1) : entC low l = 13 := by
  unfold entC
  rw [if_neg (noA ha), firstC_none hc, if_neg (by decide), if_neg (noK hk), if_neg fun hr => by have := up_rise hr k a b h1 h2; omega]
theorem entC_zero {low : Int} {l : Im IC} (ha : ∀ f ∈ l, badA low f = false) (hc : ∀ x ∈ l, badC x = 0) (hk : ∀ f ∈ l, badK f = false) (hr : ∀ i, upAt l i) : entC low l = 0 := by
  unfold entC
  rw [if_neg (noA ha), firstC_none hc, if_neg (by decide), if_neg (noK hk), if_pos (rise_up hr)]
theorem uok_ent {e low : Int} {l : Im IC} (he : 0 ≤ e ∧ e ≤ 1099511627776) (hl : 0 ≤ low ∧ low ≤ 1048576) (h8 : ∀ f ∈ l, ∀ y ∈ f.2.2, y < 256) (h : entC low l = 0) : UOk ⟨e, low, l⟩ := by
  unfold entC at h
  split at h
  · cases h
  · rename_i ha
    split at h
    · rename_i hc; exact absurd h hc
    · rename_i hc
      split at h
      · cases h
      · rename_i hk
        split at h
        · rename_i hr
          refine ⟨he, hl, fun f hf => ?_, hr⟩
          have a1 : badA low f = false := by
            rw [Bool.eq_false_iff]
            exact fun h1 => ha (List.any_eq_true.2 ⟨f, hf, h1⟩)
          have a2 := firstC_all (Classical.not_not.1 hc) f hf
          have a3 : badK f = false := by
            rw [Bool.eq_false_iff]
            exact fun h1 => hk (List.any_eq_true.2 ⟨f, hf, h1⟩)
          unfold badA at a1
          unfold badK at a3
          rw [Bool.or_eq_false_iff] at a1 a3
          simp only [decide_eq_false_iff_not, beq_eq_false_iff_ne] at a1 a3
          have a4 := chk_zero (show chk f.2.1 f.2.2.length = 0 from a2)
          exact ⟨by show low ≤ f.1; omega, by omega, by omega, a2, h8 f hf⟩
        · cases h
theorem ent_uok {U : US} (h : UOk U) : entC U.low U.cells = 0 := by
  refine entC_zero (fun f hf => ?_) (fun f hf => (h.at' f hf).2.2.2.1) (fun f hf => ?_) (up_rise h.rise)
  · have := h.at' f hf
    unfold badA
    rw [decide_eq_false (by omega), decide_eq_false (by omega)]
    rfl
  · unfold badK
    rcases (h.at' f hf).2.2.1 with h1 | h1 <;> rw [h1] <;> rfl
theorem take_all {l : Im IC} {k : Nat} {f : Int × IC} {P : Int × IC → Prop} (h : ∀ x ∈ l.take k, P x) (hf : l[k]? = some f) (hp : P f) : ∀ x ∈ l.take (k + 1), P x := by
  rw [take_snocU hf]
  intro x hx
  rcases List.mem_append.1 hx with hx | hx
  · exact h x hx
  · obtain rfl : x = f := by simpa using hx
    exact hp

section
variable {w : World} {B : Nat → Prop} {v : Value} {l : Im IC}
set_option maxHeartbeats 8000000 in
set_option maxRecDepth 100000 in
theorem echeck_any (h : EntAt w B v l) (low : Int) (h0 : 0 ≤ low) (hl : l.length ≤ 1048576) :
    Calls Tryz.prog 48 #[.int .i64 low, v] w fun r w' => r = .returned (errV (entC low l)) ∧ Below w.heap.size w w' := by
  obtain ⟨ao, cap, rfl, _, _, _⟩ := h.val
  have H := Lib.hid h
  have HL := Lib.hid hl
  have HL9 : Hid (l.length ≤ 9223372036854775807) := Lib.hid (by omega)
  have HWI := Lib.hid (fun a W => uwithin_any a 1048575 W)
  have H0 := Lib.hid h0
  obtain ⟨n, hn⟩ : ∃ n, n = l.length := ⟨_, rfl⟩
  rw [← hn] at HL HL9 ⊢
  have HN := Lib.hid hn
  clear h hl hn h0
  go_enter Tryz.func48, Tryz.ntmps48
  go_wp2
  go_loopw [15] (fun i wr => ∃ k : Nat, k ≤ n ∧ i = .int .i64 (k : Int) ∧ Below w.heap.size w wr ∧ ∀ x ∈ l.take k, badA low x = false)
    (fun i _ => n - (intOf i).toNat)
  case atStart => exact ⟨0, Nat.zero_le _, rfl, Below.refl _ _, fun x hx => by simp at hx⟩
  case round =>
    obtain ⟨k, hk, rfl, hbr, hall⟩ := hrel
    have HBR := Lib.hid hbr
    have HALL := Lib.hid hall
    by_cases hlt : k < n
    · obtain ⟨f, hf⟩ : ∃ f, l[k]? = some f := ⟨_, List.getElem?_eq_getElem (by rw [← HN.out]; exact hlt)⟩
      obtain ⟨b, off, dv, rfl, hb, _, d0, d1, d2, hat⟩ := H.out.at hf
      obtain ⟨ao2, cap2, rfl, _, _, _⟩ := hat.reads.val
      replace d0 := (hbr.cell (p := ⟨b, off + k * 3, none⟩) hb).trans d0
      replace d1 := (hbr.cell (p := ⟨b, off + k * 3 + 1, none⟩) hb).trans d1
      replace d2 := (hbr.cell (p := ⟨b, off + k * 3 + 2, none⟩) hb).trans d2
      have hlti : (k : Int) < n := by omega
      have HK := Lib.hid hlt
      have HF := Lib.hid hf
      have HBD : Hid (Below w.heap.size w (wr.alloc (.cells #[.int .i64 f.1, .int .i64 f.2.1, .slice ao2 f.2.2.length cap2] 101))) := Lib.hid (hbr.alloc hbr.size _)
      clear hbr hall hf hb hat
      by_cases h1 : f.1 < low
      · have HE : Hid (entC low l = 1) := Lib.hid (entC_a (List.mem_of_getElem? HF.out) (by unfold badA; rw [decide_eq_true h1]; rfl))
        generalize f.1 = f1 at *
        generalize f.2.1 = f2 at *
        generalize f.2.2.length = f3 at *
        go_wp2
        go_ret
        exact ⟨by rw [HE.out, errV_pos (by decide)]; rfl, HBD.out⟩
      · have hwi := fun W => HWI.out f.1 W
        have e0 : decide (0 ≤ f.1) = true := decide_eq_true (by have := H0.out; omega)
        simp only [e0, Bool.true_and] at hwi
        by_cases h2 : f.1 ≤ 1048575
        · have HG : Hid (badA low f = false) := Lib.hid (by unfold badA; rw [decide_eq_false h1, decide_eq_false (by omega)]; rfl)
          have HA2 := Lib.hid (take_all (P := fun x => badA low x = false) HALL.out HF.out HG.out)
          simp only [decide_eq_true h2] at hwi
          have HWC := Lib.hid hwi
          clear hwi e0 h2 HG
          generalize f.1 = f1 at *
          generalize f.2.1 = f2 at *
          generalize f.2.2.length = f3 at *
          go_wp2_with fail
          refine (HWC.out _).mono ?_
          rintro r w9 ⟨rfl, rfl⟩
          go_wp2
          go_roundw
          case rel => exact ⟨k + 1, HK.out, (by first | exact uinc_eq HK.out HL9.out | rfl), HBD.out, HA2.out⟩
          case measure => first | exact uinc_meas HK.out HL9.out | (have := HK.out; simp [intOf]; omega)
        · have HE : Hid (entC low l = 1) := Lib.hid (entC_a (List.mem_of_getElem? HF.out) (by unfold badA; rw [decide_eq_true (show 1048575 < f.1 by omega), Bool.or_true]))
          simp only [decide_eq_false h2] at hwi
          have HWC := Lib.hid hwi
          clear hwi e0 h2
          generalize f.1 = f1 at *
          generalize f.2.1 = f2 at *
          generalize f.2.2.length = f3 at *
          go_wp2_with fail
          refine (HWC.out _).mono ?_
          rintro r w9 ⟨rfl, rfl⟩
          go_wp2
          go_ret
          exact ⟨by rw [HE.out, errV_pos (by decide)]; rfl, HBD.out⟩
    · obtain rfl : k = n := by omega
      have HA : Hid (∀ x ∈ l, badA low x = false) := Lib.hid (by
        have h1 := hall
        rw [HN.out, List.take_length] at h1
        exact h1)
      clear hall hbr HALL
      go_wp2
      go_loopw [33] (fun i wr => ∃ j : Nat, j ≤ k ∧ i = .int .i64 (j : Int) ∧ Below w.heap.size w wr ∧ ∀ x ∈ l.take j, badC x = 0)
        (fun i _ => k - (intOf i).toNat)
      case atStart => exact ⟨0, Nat.zero_le _, rfl, HBR.out, fun x hx => by simp at hx⟩
      case round =>
        clear HBR
        obtain ⟨j, hj, rfl, hbr, hall⟩ := hrel
        have HBR := Lib.hid hbr
        have HALL := Lib.hid hall
        by_cases hjt : j < k
        · obtain ⟨f, hf⟩ : ∃ f, l[j]? = some f := ⟨_, List.getElem?_eq_getElem (by rw [← HN.out]; exact hjt)⟩
          obtain ⟨b, off, dv, rfl, hb, _, d0, d1, d2, hat⟩ := H.out.at hf
          obtain ⟨ao2, cap2, rfl, _, _, _⟩ := hat.reads.val
          replace d0 := (hbr.cell (p := ⟨b, off + j * 3, none⟩) hb).trans d0
          replace d1 := (hbr.cell (p := ⟨b, off + j * 3 + 1, none⟩) hb).trans d1
          replace d2 := (hbr.cell (p := ⟨b, off + j * 3 + 2, none⟩) hb).trans d2
          have hjti : (j : Int) < k := by omega
          have HJ := Lib.hid hjt
          have HF := Lib.hid hf
          obtain ⟨W5, hW5⟩ : ∃ W5, W5 = wr.alloc (.cells #[.int .i64 f.1, .int .i64 f.2.1, .slice ao2 f.2.2.length cap2] 101) := ⟨_, rfl⟩
          have hb5 : Below w.heap.size w W5 := by rw [hW5]; exact hbr.alloc hbr.size _
          have HC := Lib.hid (check_any f.2.1 (.slice ao2 f.2.2.length cap2) f.2.2 W5 (hat.keep (kept_new hb5 B)).reads)
          obtain ⟨c, hc⟩ : ∃ c, c = badC f := ⟨_, rfl⟩
          have hc2 : chk f.2.1 f.2.2.length = c := hc.symm
          rw [hc2] at HC
          have HBC := Lib.hid hc
          have HB5 := Lib.hid hb5
          have HW5 := Lib.hid hW5
          clear hbr hall hf hb hat hb5 hW5 hc hc2
          generalize f.1 = f1 at *
          generalize f.2.1 = f2 at *
          generalize f.2.2.length = f3 at *
          go_wp2_with fail
          rw [← HW5.out]
          refine HC.out.mono ?_
          rintro r w9 ⟨rfl, hb9⟩
          have HB9 := Lib.hid (HB5.out.trans (hb9.mono HB5.out.size))
          clear hb9
          by_cases hz : c = 0
          · have HA2 := Lib.hid (take_all (P := fun x => badC x = 0) HALL.out HF.out (by rw [← HBC.out]; exact hz))
            rw [hz, errV_zero]
            clear hz
            go_wp2
            go_roundw
            case rel => exact ⟨j + 1, HJ.out, (by first | exact uinc_eq HJ.out HL9.out | rfl), HB9.out, HA2.out⟩
            case measure => first | exact uinc_meas HJ.out HL9.out | (have := HJ.out; simp [intOf]; omega)
          · have HE : Hid (entC low l = c) := Lib.hid (by rw [entC_c HA.out HALL.out HF.out (by rw [← HBC.out]; exact hz), HBC.out])
            rw [errV_pos hz]
            have HZ := Lib.hid hz
            clear hz
            go_wp2
            go_ret
            exact ⟨by rw [HE.out, errV_pos HZ.out]; rfl, HB9.out⟩
        · obtain rfl : j = k := by omega
          have HCC : Hid (∀ x ∈ l, badC x = 0) := Lib.hid (by
            have h1 := hall
            rw [HN.out, List.take_length] at h1
            exact h1)
          clear hall hbr HALL
          go_wp2
          go_loopw [46] (fun i wr => ∃ k : Nat, k ≤ j ∧ i = .int .i64 (k : Int) ∧ Below w.heap.size w wr ∧ ∀ x ∈ l.take k, badK x = false)
            (fun i _ => j - (intOf i).toNat)
          case atStart => exact ⟨0, Nat.zero_le _, rfl, HBR.out, fun x hx => by simp at hx⟩
          case round =>
            clear HBR
            obtain ⟨k, hk, rfl, hbr, hall⟩ := hrel
            have HBR := Lib.hid hbr
            have HALL := Lib.hid hall
            by_cases hlt : k < j
            · obtain ⟨f, hf⟩ : ∃ f, l[k]? = some f := ⟨_, List.getElem?_eq_getElem (by rw [← HN.out]; exact hlt)⟩
              obtain ⟨b, off, dv, rfl, hb, _, d0, d1, d2, hat⟩ := H.out.at hf
              obtain ⟨ao2, cap2, rfl, _, _, _⟩ := hat.reads.val
              replace d0 := (hbr.cell (p := ⟨b, off + k * 3, none⟩) hb).trans d0
              replace d1 := (hbr.cell (p := ⟨b, off + k * 3 + 1, none⟩) hb).trans d1
              replace d2 := (hbr.cell (p := ⟨b, off + k * 3 + 2, none⟩) hb).trans d2
              have hlti : (k : Int) < j := by omega
              have HK := Lib.hid hlt
              have HF := Lib.hid hf
              have HBD : Hid (Below w.heap.size w (wr.alloc (.cells #[.int .i64 f.1, .int .i64 f.2.1, .slice ao2 f.2.2.length cap2] 101))) := Lib.hid (hbr.alloc hbr.size _)
              obtain ⟨q0, hq0⟩ : ∃ q, q = (f.2.1 == 0) := ⟨_, rfl⟩
              obtain ⟨q3, hq3⟩ : ∃ q, q = (f.2.1 == 3) := ⟨_, rfl⟩
              have HBK : Hid (badK f = (q0 || q3)) := Lib.hid (by rw [hq0, hq3]; rfl)
              clear hbr hall hf hb hat
              generalize f.1 = f1 at *
              generalize f.2.1 = f2 at *
              generalize f.2.2.length = f3 at *
              have hq0' := hq0.symm
              have hq3' := hq3.symm
              cases hbk : (q0 || q3)
              · obtain ⟨z0, z3⟩ := Bool.or_eq_false_iff.1 hbk
                rw [z0] at hq0'
                rw [z3] at hq3'
                have HA2 := Lib.hid (take_all (P := fun x => badK x = false) HALL.out HF.out (by rw [HBK.out]; exact hbk))
                clear hq0 hq3 hbk z0 z3
                go_wp2
                go_roundw
                case rel => exact ⟨k + 1, HK.out, (by first | exact uinc_eq HK.out HL9.out | rfl), HBD.out, HA2.out⟩
                case measure => first | exact uinc_meas HK.out HL9.out | (have := HK.out; simp [intOf]; omega)
              · have HE : Hid (entC low l = 2) := Lib.hid (entC_k HA.out HCC.out (List.mem_of_getElem? HF.out) (by rw [HBK.out]; exact hbk))
                cases hz0 : q0
                · have hz3 : q3 = true := by rw [hz0] at hbk; simpa using hbk
                  rw [hz0] at hq0'
                  rw [hz3] at hq3'
                  clear hq0 hq3 hbk hz0 hz3
                  go_wp2
                  go_ret
                  exact ⟨by rw [HE.out, errV_pos (by decide)]; rfl, HBD.out⟩
                · rw [hz0] at hq0'
                  clear hq0 hq3 hbk hz0 hq3'
                  go_wp2
                  go_ret
                  exact ⟨by rw [HE.out, errV_pos (by decide)]; rfl, HBD.out⟩
            · obtain rfl : k = j := by omega
              have HKK : Hid (∀ x ∈ l, badK x = false) := Lib.hid (by
                have h1 := hall
                rw [HN.out, List.take_length] at h1
                exact h1)
              clear hall hbr HALL
              go_wp2
              go_loopw [12] (fun i wr => ∃ j : Nat, i = .int .i64 ((j : Int) + 1) ∧ Below w.heap.size w wr ∧ ∀ i, i < j → upAt l i)
                (fun i _ => k - (intOf i).toNat)
              case atStart => exact ⟨0, rfl, HBR.out, fun i hi => absurd hi (Nat.not_lt_zero _)⟩
              case round =>
                clear HBR
                obtain ⟨j, rfl, hbr, hall⟩ := hrel
                have HBR := Lib.hid hbr
                have HALL := Lib.hid hall
                have HBD : Hid (∀ n, Below w.heap.size w (wr.drewN n)) := Lib.hid fun n => ⟨hbr.os, hbr.tape, hbr.output, hbr.size, hbr.block⟩
                have HBD1 : Hid (Below w.heap.size w wr.drew) := Lib.hid ⟨hbr.os, hbr.tape, hbr.output, hbr.size, hbr.block⟩
                by_cases hjt2 : j + 1 < k
                · have hjt : j < k := by omega
                  obtain ⟨f, hf⟩ : ∃ f, l[j]? = some f := ⟨_, List.getElem?_eq_getElem (by rw [← HN.out]; exact hjt)⟩
                  obtain ⟨g, hg⟩ : ∃ g, l[j + 1]? = some g := ⟨_, List.getElem?_eq_getElem (by rw [← HN.out]; exact hjt2)⟩
                  obtain ⟨b, off, dv, rfl, hb, _, d0, _⟩ := H.out.at hf
                  obtain ⟨b', off', dv', hao', hb', _, d0', _⟩ := H.out.at hg
                  cases hao'
                  replace d0 := (hbr.cell (p := ⟨b, off + j * 3, none⟩) hb).trans d0
                  replace d0' := (hbr.cell (p := ⟨b, off + (j + 1) * 3, none⟩) hb).trans d0'
                  have hlti : (j : Int) < k := by omega
                  have hlti2 : (j : Int) + 1 < k := by omega
                  have HJ2 := Lib.hid hjt2
                  have HF := Lib.hid hf
                  have HG := Lib.hid hg
                  have HL1 : k ≤ 1048576 := HL.out
                  by_cases hle : g.1 ≤ f.1
                  · have HE : Hid (entC low l = 13) := Lib.hid (entC_u HA.out HCC.out HKK.out hf hg hle)
                    have e9 : decide (g.1 ≤ f.1) = true := decide_eq_true hle
                    clear hbr hall hf hg hb hb'
                    generalize f.1 = f1 at *
                    generalize g.1 = g1 at *
                    go_wp2_with fail
                    go_quiet (fail)
                    go_wp2
                    go_ret
                    exact ⟨by rw [HE.out, errV_pos (by decide)]; rfl, HBD.out _⟩
                  · have HA2 : Hid (∀ i, i < j + 1 → upAt l i) := Lib.hid fun i hi => by
                      by_cases h1 : i < j
                      · exact HALL.out i h1
                      · obtain rfl : i = j := by omega
                        intro a c ha hc
                        rw [HF.out] at ha
                        rw [HG.out] at hc
                        cases ha
                        cases hc
                        omega
                    have e9 : decide (g.1 ≤ f.1) = false := decide_eq_false hle
                    clear hbr hall hf hg hb hb'
                    generalize f.1 = f1 at *
                    generalize g.1 = g1 at *
                    go_wp2_with fail
                    go_quiet (fail)
                    go_wp2
                    go_roundw
                    case rel => exact ⟨j + 1, rfl, HBD.out _, HA2.out⟩
                    case measure => have := HJ2.out; simp [intOf]; omega
                · have hlt3 : ¬ (j : Int) + 1 < k := by omega
                  have HE : Hid (entC low l = 0) := Lib.hid (entC_zero HA.out HCC.out HKK.out fun i => by
                    by_cases h1 : i < j
                    · exact hall i h1
                    · intro a c ha hc
                      have := (List.getElem?_eq_some_iff.1 hc).1
                      have := HN.out
                      omega)
                  clear hbr hall
                  go_wp2
                  go_ret
                  exact ⟨by rw [HE.out, errV_zero]; rfl, HBR.out⟩
end
end Go.Proofs.YtiaijpknnomlnaaGreat

namespace Go.Proofs.YtiaijpknnomlnaaGreat
open Go.RowKit

theorem iins_last {α : Type} {n : Int} {t : α} : ∀ {l : Im α}, (∀ f ∈ l, f.1 < n) → iins n t l = l ++ [(n, t)]
  | [], _ => rfl
  | x :: r, h => by
    have hx := h x (by simp)
    unfold iins
    rw [if_neg (by omega), iins_last fun f hf => h f (by simp [hf])]
    rfl
theorem iput_last {α : Type} {n : Int} {t : α} {l : Im α} (h : ∀ f ∈ l, f.1 < n) : iput l n t = l ++ [(n, t)] := by
  unfold iput idel
  rw [List.filter_eq_self.2 fun f hf => by have := h f hf; simp; omega]
  exact iins_last h
theorem rise_take {l : Im IC} (h : IRise l) {k : Nat} {f : Int × IC} (hf : l[k]? = some f) : ∀ g ∈ l.take k, g.1 < f.1 := by
  intro g hg
  obtain ⟨i, hi⟩ := List.getElem?_of_mem hg
  have hik : i < k := by
    have := (List.getElem?_eq_some_iff.1 hi).1
    rw [List.length_take] at this
    omega
  rw [List.getElem?_take_of_lt hik] at hi
  unfold IRise at h
  rw [List.pairwise_iff_getElem] at h
  obtain ⟨h7, e7⟩ := List.getElem?_eq_some_iff.1 hi
  obtain ⟨h8, e8⟩ := List.getElem?_eq_some_iff.1 hf
  have := h i k h7 h8 hik
  rwa [e7, e8] at this

open Classical in
noncomputable def ofC (e low : Int) (l : Im IC) : Nat := if e < 0 ∨ 1099511627776 < e ∨ low < 0 ∨ 1048576 < low then 1 else entC low l
theorem uok_of {e low : Int} {l : Im IC} (h8 : ∀ f ∈ l, ∀ y ∈ f.2.2, y < 256) (h : ofC e low l = 0) : UOk ⟨e, low, l⟩ := by
  unfold ofC at h
  split at h
  · cases h
  · rename_i h1
    exact uok_ent (by omega) (by omega) h8 h
theorem of_uok {U : US} (h : UOk U) : ofC U.epoch U.low U.cells = 0 := by
  have h1 := h.epoch
  have h2 := h.low
  unfold ofC
  rw [if_neg (by omega)]
  exact ent_uok h

section
variable {w : World} {A : Nat → Prop} {v : Value} {l : Im IC}
set_option maxHeartbeats 2000000 in
set_option maxRecDepth 100000 in
theorem long8_any (h : EntAt w A v l) (hl : l.length ≤ 9223372036854775807) (most : Int) :
    Calls Tryz.prog 23 #[v, .int .i64 most] w fun r w' => ∃ b, r = .returned (.bool b) ∧ (b = false → (l.length : Int) ≤ most ∧ ∀ f ∈ l, f.2.2.length ≤ 100) ∧ Below w.heap.size w w' := by
  obtain ⟨ao, cap, rfl, _, _, _⟩ := h.val
  have H := Lib.hid h
  have HL9 := Lib.hid hl
  obtain ⟨n, hn⟩ : ∃ n, n = l.length := ⟨_, rfl⟩
  rw [← hn] at HL9 ⊢
  have HN := Lib.hid hn
  clear h hl hn
  go_enter Tryz.func23, Tryz.ntmps23
  go_wp2
  go_loopw [9] (fun i wr => ∃ k : Nat, k ≤ n ∧ i = .int .i64 (k : Int) ∧ Below w.heap.size w wr ∧ ∀ x ∈ l.take k, x.2.2.length ≤ 100)
    (fun i _ => n - (intOf i).toNat)
  case atStart => exact ⟨0, Nat.zero_le _, rfl, Below.refl _ _, fun x hx => by simp at hx⟩
  case round =>
    obtain ⟨k, hk, rfl, hbr, hall⟩ := hrel
    have HBR := Lib.hid hbr
    have HALL := Lib.hid hall
    by_cases hlt : k < n
    · obtain ⟨f, hf⟩ : ∃ f, l[k]? = some f := ⟨_, List.getElem?_eq_getElem (by rw [← HN.out]; exact hlt)⟩
      obtain ⟨b, off, dv, rfl, hb, _, d0, d1, d2, hat⟩ := H.out.at hf
      obtain ⟨ao2, cap2, rfl, _, _, _⟩ := hat.reads.val
      replace d0 := (hbr.cell (p := ⟨b, off + k * 3, none⟩) hb).trans d0
      replace d1 := (hbr.cell (p := ⟨b, off + k * 3 + 1, none⟩) hb).trans d1
      replace d2 := (hbr.cell (p := ⟨b, off + k * 3 + 2, none⟩) hb).trans d2
      have hlti : (k : Int) < n := by omega
      have HK := Lib.hid hlt
      have HF := Lib.hid hf
      have HBD : Hid (Below w.heap.size w (wr.alloc (.cells #[.int .i64 f.1, .int .i64 f.2.1, .slice ao2 f.2.2.length cap2] 101))) := Lib.hid (hbr.alloc hbr.size _)
      have HTA : Hid (f.2.2.length ≤ 100 → ∀ x ∈ l.take (k + 1), x.2.2.length ≤ 100) := Lib.hid fun h => take_all (P := fun x => x.2.2.length ≤ 100) hall hf h
      clear hbr hall hf hb hat
      generalize f.1 = f1 at *
      generalize f.2.1 = f2 at *
      generalize f.2.2.length = f3 at *
      by_cases h1 : (100 : Int) < (f3 : Int)
      · go_wp2
        go_ret
        exact ⟨true, rfl, (fun h => by cases h), HBD.out⟩
      · have HT := Lib.hid (HTA.out (by omega))
        go_wp2
        go_roundw
        case rel => exact ⟨k + 1, HK.out, (by first | exact uinc_eq HK.out HL9.out | rfl), HBD.out, HT.out⟩
        case measure => first | exact uinc_meas HK.out HL9.out | (have := HK.out; simp [intOf]; omega)
    · obtain rfl : k = n := by omega
      have HA : Hid (∀ x ∈ l, x.2.2.length ≤ 100) := Lib.hid (by
        have h1 := hall
        rw [HN.out, List.take_length] at h1
        exact h1)
      clear hall hbr HALL
      go_wp2
      go_ret
      exact ⟨_, rfl, fun h => ⟨by simpa using h, HA.out⟩, HBR.out⟩

/-- What Of answers. -/
def UOfPost (w : World) (e low : Int) (l : Im IC) (r : Ending) (w' : World) : Prop :=
  Below w.heap.size w w' ∧ ((ofC e low l ≠ 0 ∧ r = .returned (.tuple #[.pointer none, errV (ofC e low l)])) ∨
    (ofC e low l = 0 ∧ ∃ u m B, r = .returned (.tuple #[.pointer (some ⟨u, 0, none⟩), .nilIface]) ∧ Un w' B u m ⟨e, low, l⟩ ∧ w.heap.size ≤ u ∧ w.heap.size ≤ m ∧ ∀ j, B j → w.heap.size ≤ j))

theorem Un.marks {u m : Nat} {B : Nat → Prop} {U : US} (h : Un w B u m U) (e low : Int) (he : 0 ≤ e ∧ e ≤ 1099511627776) (hl : 0 ≤ low ∧ low ≤ 1048576) (hc : U.cells = []) :
    Un ((w.setCell ⟨u, 0, none⟩ (.int .i64 e)).setCell ⟨u, 1, none⟩ (.int .i64 low)) B u m ⟨e, low, []⟩ := by
  have hf : Fr (fun j => j = u) w ((w.setCell ⟨u, 0, none⟩ (.int .i64 e)).setCell ⟨u, 1, none⟩ (.int .i64 low)) := (fr_set w u 0 _).trans (fr_set _ u 1 _) (fun _ _ h => h) (fun _ _ h => h)
  obtain ⟨es, hm, hz⟩ := h.map
  rw [hc] at hz
  refine ⟨heap_setCell_same _ u 1 _ _ _ (heap_setCell_same _ u 0 _ _ _ h.box), ⟨es, hm.keep (hf.block m hm.lt fun e => h.ne e.symm), hz.mono fun _ _ hr => hr.keep (hf.kept B fun j _ hB e => h.nu (e ▸ hB))⟩, ⟨he, hl, fun f hf => (by cases hf), List.Pairwise.nil⟩, h.ne, h.nu, h.nm⟩

set_option maxHeartbeats 8000000 in
set_option maxRecDepth 100000 in
theorem uof_any (h : EntAt w A v l) (h8 : ∀ f ∈ l, ∀ y ∈ f.2.2, y < 256) (hl : l.length ≤ 1048576) (e low : Int) :
    Calls Tryz.prog 18 #[.int .i64 e, .int .i64 low, v] w (UOfPost w e low l) := by
  obtain ⟨ao, cap, rfl, _, _, _⟩ := h.val
  have H := Lib.hid h
  have H8 := Lib.hid h8
  have HL := Lib.hid hl
  have HL9 : Hid (l.length ≤ 9223372036854775807) := Lib.hid (by omega)
  have HW1 := fun a b => Lib.hid (fun W => uwithin_any a b W)
  have HE9 : Hid (ofC e low l = if e < 0 ∨ 1099511627776 < e ∨ low < 0 ∨ 1048576 < low then 1 else entC low l) := Lib.hid rfl
  have HCK : Hid (0 ≤ low → Calls Tryz.prog 48 #[.int .i64 low, .slice ao l.length cap] w fun r w' => r = .returned (errV (entC low l)) ∧ Below w.heap.size w w') := Lib.hid fun h0 => echeck_any h low h0 hl
  obtain ⟨n, hn⟩ : ∃ n, n = l.length := ⟨_, rfl⟩
  rw [← hn] at HL HL9 HCK ⊢
  have HN := Lib.hid hn
  clear h hl hn h8
  go_enter Tryz.func18, Tryz.ntmps18
  by_cases h1 : 0 ≤ e ∧ e ≤ 1099511627776
  rotate_left
  · have HOF : Hid (ofC e low l = 1) := Lib.hid (by rw [HE9.out, if_pos (by omega)])
    have hw := (HW1 e 1099511627776).out
    have hb : (decide (0 ≤ e) && decide (e ≤ 1099511627776)) = false := by rw [Bool.and_eq_false_iff, decide_eq_false_iff_not, decide_eq_false_iff_not]; omega
    simp only [hb] at hw
    have HWA := Lib.hid hw
    clear hw hb h1
    go_wp2_with fail
    refine (HWA.out _).mono ?_
    rintro r w ⟨rfl, rfl⟩
    go_wp2
    go_ret2
    exact ⟨Below.refl _ _, .inl ⟨by rw [HOF.out]; decide, by rw [HOF.out, errV_pos (by decide)]; rfl⟩⟩
  have hw := (HW1 e 1099511627776).out
  have hb : (decide (0 ≤ e) && decide (e ≤ 1099511627776)) = true := by rw [Bool.and_eq_true, decide_eq_true_iff, decide_eq_true_iff]; omega
  simp only [hb] at hw
  have HWA := Lib.hid hw
  have HEB := Lib.hid h1
  clear hw hb h1
  go_wp2_with fail
  refine (HWA.out _).mono ?_
  rintro r w ⟨rfl, rfl⟩
  by_cases h1 : 0 ≤ low ∧ low ≤ 1048576
  rotate_left
  · have HOF : Hid (ofC e low l = 1) := Lib.hid (by rw [HE9.out, if_pos (by omega)])
    have hw := (HW1 low 1048576).out
    have hb : (decide (0 ≤ low) && decide (low ≤ 1048576)) = false := by rw [Bool.and_eq_false_iff, decide_eq_false_iff_not, decide_eq_false_iff_not]; omega
    simp only [hb] at hw
    have HWB := Lib.hid hw
    clear hw hb h1
    go_wp2_with fail
    refine (HWB.out _).mono ?_
    rintro r w ⟨rfl, rfl⟩
    go_wp2
    go_ret2
    exact ⟨Below.refl _ _, .inl ⟨by rw [HOF.out]; decide, by rw [HOF.out, errV_pos (by decide)]; rfl⟩⟩
  have hw := (HW1 low 1048576).out
  have hb : (decide (0 ≤ low) && decide (low ≤ 1048576)) = true := by rw [Bool.and_eq_true, decide_eq_true_iff, decide_eq_true_iff]; omega
  simp only [hb] at hw
  have HWB := Lib.hid hw
  have HLB := Lib.hid h1
  have HOF : Hid (ofC e low l = entC low l) := Lib.hid (by rw [HE9.out, if_neg (by have := HEB.out; omega)])
  have HCL := Lib.hid (HCK.out h1.1)
  clear hw hb h1
  go_wp2_with fail
  refine (HWB.out _).mono ?_
  rintro r w ⟨rfl, rfl⟩
  go_wp2_with fail
  refine HCL.out.mono ?_
  rintro r w3 ⟨rfl, hb3⟩
  have HB3 := Lib.hid hb3
  clear hb3
  by_cases hz : entC low l = 0
  rotate_left
  · rw [errV_pos hz]
    have HZ := Lib.hid hz
    clear hz
    go_wp2
    go_ret2
    exact ⟨HB3.out, .inl ⟨by rw [HOF.out]; exact HZ.out, by rw [HOF.out, errV_pos HZ.out]; rfl⟩⟩
  have HU : Hid (UOk ⟨e, low, l⟩) := Lib.hid (uok_ent HEB.out HLB.out H8.out hz)
  have HZ : Hid (ofC e low l = 0) := Lib.hid (by rw [HOF.out, hz])
  rw [hz, errV_zero]
  clear hz
  go_wp2_with fail
  refine (new_unit w3).mono ?_
  rintro r w4 ⟨rfl, hu4, hb4⟩
  obtain ⟨c0, c1, c2, cf⟩ := hu4.c
  obtain ⟨q, hq⟩ : ∃ q, q = w3.heap.size := ⟨_, rfl⟩
  rw [← hq] at hu4 c0 c1 c2 cf
  have HQ := Lib.hid hq
  have hu5 := hu4.more (C := fun j => q + 1 < j) (fun _ _ h => h.elim) (by omega) (by omega)
  have HM := Lib.hid (hu5.marks e low HEB.out HLB.out rfl)
  have HB5 : Hid (Below w.heap.size w ((w4.setCell ⟨q + 1, 0, none⟩ (.int .i64 e)).setCell ⟨q + 1, 1, none⟩ (.int .i64 low))) := Lib.hid (((HB3.out.trans (hb4.mono HB3.out.size)).setCell (by show w.heap.size ≤ q + 1; have := HB3.out.size; omega) _).setCell (by show w.heap.size ≤ q + 1; have := HB3.out.size; omega) _)
  have HQ1 : Hid (w.heap.size ≤ q) := Lib.hid (by have := HB3.out.size; omega)
  rw [← hq]
  clear hu4 hu5 hb4 hq
  go_wp2
  go_loopw [38] (fun i wr => ∃ k : Nat, k ≤ n ∧ i = .int .i64 (k : Int) ∧ Below w.heap.size w wr ∧ Un wr (fun j => q + 1 < j) (q + 1) q ⟨e, low, l.take k⟩)
    (fun i _ => n - (intOf i).toNat)
  case atStart => exact ⟨0, Nat.zero_le _, rfl, HB5.out, HM.out⟩
  case round =>
    obtain ⟨k, hk, rfl, hbr, hun⟩ := hrel
    have HBR := Lib.hid hbr
    have HUN := Lib.hid hun
    by_cases hlt : k < n
    · obtain ⟨f, hf⟩ : ∃ f, l[k]? = some f := ⟨_, List.getElem?_eq_getElem (by rw [← HN.out]; exact hlt)⟩
      obtain ⟨b, off, dv, rfl, hb, _, d0, d1, d2, hat⟩ := H.out.at hf
      obtain ⟨ao2, cap2, rfl, _, _, _⟩ := hat.reads.val
      replace d0 := (hbr.cell (p := ⟨b, off + k * 3, none⟩) hb).trans d0
      replace d1 := (hbr.cell (p := ⟨b, off + k * 3 + 1, none⟩) hb).trans d1
      replace d2 := (hbr.cell (p := ⟨b, off + k * 3 + 2, none⟩) hb).trans d2
      have hlti : (k : Int) < n := by omega
      have HK := Lib.hid hlt
      have hfa := HU.out.at' f (List.mem_of_getElem? hf)
      have HT : Hid (iput (l.take k) f.1 f.2 = l.take (k + 1)) := Lib.hid (by rw [iput_last (rise_take HU.out.rise hf), take_snocU hf])
      obtain ⟨W5, hW5⟩ : ∃ W5, W5 = wr.alloc (.cells #[.int .i64 f.1, .int .i64 f.2.1, .slice ao2 f.2.2.length cap2] 101) := ⟨_, rfl⟩
      have hb5 : Below wr.heap.size wr W5 := by rw [hW5]; exact (Below.refl _ _).alloc (Nat.le_refl _) _
      have hx5 : W5.heap[wr.heap.size]? = some (.cells #[.int .i64 f.1, .int .i64 f.2.1, .slice ao2 f.2.2.length cap2] 101 (0, 0)) := by rw [hW5]; exact heap_alloc_new _ _
      have hu5 := hun.old hb5
      have hult := hun.ult
      have HUP : Hid (∀ W v4, Below W5.heap.size W5 W → Owns W W5.heap.size 5 .u8 v4 f.2.2 → ∃ w', (Instr.mapUpdate 107 (.map (some q)) (.int .i64 f.1) (.agg #[.int .i64 f.2.1, v4])).run Tryz.prog W = .ok () w' ∧ Un w' (fun j => q + 1 < j) (q + 1) q ⟨e, low, l.take (k + 1)⟩ ∧ Below w.heap.size w w') := Lib.hid fun W v4 hb ho => by
        have hat4 : At W (fun j => q + 1 < j) .u8 v4 f.2.2 := by
          refine ⟨ho.reads, ?_⟩
          rcases ho.2 with ⟨_, hn⟩ | ⟨g, c4, cur, hv, hg, _⟩
          · exact .inl (List.length_eq_zero_iff.1 hn)
          · exact .inr ⟨g, 0, _, c4, hv, by have := hb5.size; omega⟩
        obtain ⟨w', h1, h2, h3⟩ := (hu5.old hb).update hfa.2.1 hfa.1 (c := f.2) ⟨v4, rfl, hat4⟩ hfa.2.2
        simp only [HT.out] at h2
        refine ⟨w', h1, h2, ?_⟩
        have hbw := (HBR.out.trans (hb5.mono HBR.out.size)).trans (hb.mono (Nat.le_trans HBR.out.size hb5.size))
        exact hbw.grown h3 hbw.size fun j hj => by cases hj; exact HQ1.out
      have HCC := Lib.hid (copy_any f.2.1 (.slice ao2 f.2.2.length cap2) f.2.2 W5.drew ((hat.keep (kept_new hbr A)).keep (kept_new hb5 A)).reads (by have := (chk_zero hfa.2.2.2.1).2.2.1; omega))
      obtain ⟨_, _, c2, _⟩ := hu5.c
      have HC2 : Hid (∀ W, Below W5.heap.size W5 W → W.cell? ⟨q + 1, 2, none⟩ = some (.map (some q)) ∧ W.cell? ⟨wr.heap.size, 0, none⟩ = some (.int .i64 f.1)) := Lib.hid fun W hb => ⟨(hu5.old hb).c.2.2.1, by
        rw [cell_of_row _ _ 0 _ _ _ ((hb.block _ (Array.getElem?_eq_some_iff.1 hx5).1).trans hx5)]; rfl⟩
      obtain ⟨y0, y1, y2, _⟩ := three_cells hx5
      have HW5 := Lib.hid hW5
      clear hbr hun hf hb hat hfa hb5 hx5 hu5 hult hW5
      obtain ⟨fa, fk, fd⟩ := f
      simp only at *
      generalize fd.length = n3 at *
      go_wp2_with fail
      rw [← HW5.out]
      go_region_with (first
        | (go_at_call 50
           refine HCC.out.mono ?_
           rintro r w6 ⟨v6, rfl, ho6, hb6⟩
           have hb6' : Below W5.heap.size W5 w6 := ⟨hb6.os, hb6.tape, hb6.output, hb6.size, hb6.block⟩
           obtain ⟨w7, q7, hu7, hb7⟩ := HUP.out w6 v6 hb6' ho6
           obtain ⟨d2', y0'⟩ := HC2.out w6 hb6'
           obtain ⟨ao6, cap6, rfl, _, _, _⟩ := ho6.reads.val
           have HU7 := Lib.hid hu7
           have HB7 := Lib.hid hb7
           clear ho6 hb6 hb6' hu7 hb7))
      all_goals
        go_wp2
        go_roundw
        case rel => exact ⟨k + 1, HK.out, (by first | exact uinc_eq HK.out HL9.out | rfl), HB7.out, HU7.out⟩
        case measure => first | exact uinc_meas HK.out HL9.out | (have := HK.out; simp [intOf]; omega)
    · obtain rfl : k = n := by omega
      have HF : Hid (Un wr (fun j => q + 1 < j) (q + 1) q ⟨e, low, l⟩) := Lib.hid (by
        have h1 := hun
        rw [HN.out, List.take_length] at h1
        exact h1)
      clear hun hbr HUN
      go_wp2
      go_ret2
      exact ⟨HBR.out, .inr ⟨HZ.out, _, _, _, rfl, HF.out, by have := HQ1.out; omega, HQ1.out, fun j hj => by have := HQ1.out; omega⟩⟩
end
end Go.Proofs.YtiaijpknnomlnaaGreat
