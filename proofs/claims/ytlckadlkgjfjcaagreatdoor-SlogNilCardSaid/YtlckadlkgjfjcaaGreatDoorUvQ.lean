/- Which rows of entries are a unit's: the mathematics; the program's checkEntries. · Law 08's Long; a unit of entries. · The contract of package cell's Put; the fixed fact at the head of the cell statements. · The fixed fact at the head of the cell statements: the chapter's examples. · The contracts of package cell's checkRun, alikeBytes, alikeCells, dataItem. · The contracts of package cell's alikeCells, dataItem. · The contract of the document's own TakeRun. · The contract of the document's own Take of a cell. · The contracts of package cell's dataItem, PutRun. · The contract of package cell's PutRun. · The contract of package cell's PutRun, whatever the run; an append of one cell. · A taker of runs in memory; the contracts of its upTo and endsWith. · The contract of a taker's endsWith. · A taker at work: its reader, its run, the last data; what changes which of them. · The contract of a taker's takeRow. · slices.Concat, whatever the texts, none of a byte too. · The contract of a taker's takeData. · An item of a run, as the program takes it, is an item as the document says it. · The contract of a taker's takeItem. · The contract of package cell's TakeRun. · The contract of package cell's Take. -/
import Derived.Test.YtlckadlkgjfjcaaGreatDoorUrP
import Derived.Deep.RegionHeld3
import Derived.Test.YtlckadlkgjfjcaaGreatDoorRqP
import Derived.Test.YtlckadlkgjfjcaaGreatDoorQf
import Derived.Test.YtlckadlkgjfjcaaGreatDoorFbP
import Derived.Lib.SlBytesConst
import Derived.Test.YtlckadlkgjfjcaaGreatDoorQg
import Derived.Test.YtlckadlkgjfjcaaGreatDoorRdP
namespace Go.Proofs.YtlckadlkgjfjcaaGreatDoor
open Go.RowKit

def badA (low : Int) (f : Int × IC) : Bool := decide (f.1 < low) || decide (1048575 < f.1)
def badC (f : Int × IC) : Nat := chk f.2.1 f.2.2.length
def badK (f : Int × IC) : Bool := f.2.1 == 0 || f.2.1 == 3
def firstC : Im IC → Nat
  | [] => 0
  | f :: r => if badC f ≠ 0 then badC f else firstC r
/-- Neighbours rise. -/
def upAt (l : Im IC) (i : Nat) : Prop := ∀ a b, l[i]? = some a → l[i + 1]? = some b → a.1 < b.1
open Classical in
/-- An error's number of a row of entries. -/
noncomputable def entC (low : Int) (l : Im IC) : Nat := if l.any (badA low) = true then 1 else if firstC l ≠ 0 then firstC l else if l.any badK = true then 2 else if IRise l then 0 else 13
theorem firstC_at : ∀ {l : Im IC} {k : Nat} {f : Int × IC}, (∀ x ∈ l.take k, badC x = 0) → l[k]? = some f → badC f ≠ 0 → firstC l = badC f
  | [], _, _, _, h, _ => by cases h
  | x :: r, 0, f, _, h, hb => by
    obtain rfl : x = f := by simpa using h
    unfold firstC
    rw [if_pos hb]
  | x :: r, k + 1, f, hg, h, hb => by
    have hx := hg x (by simp)
    unfold firstC
    rw [if_neg (by rw [hx]; decide)]
    exact firstC_at (k := k) (fun y hy => hg y (by simp [hy])) (by simpa using h) hb
theorem firstC_none : ∀ {l : Im IC}, (∀ x ∈ l, badC x = 0) → firstC l = 0
  | [], _ => rfl
  | x :: r, h => by
    unfold firstC
    rw [if_neg (by rw [h x (by simp)]; decide)]
    exact firstC_none fun y hy => h y (by simp [hy])
theorem firstC_all : ∀ {l : Im IC}, firstC l = 0 → ∀ x ∈ l, badC x = 0
  | [], _, x, hx => by cases hx
  | y :: r, h, x, hx => by
    unfold firstC at h
    by_cases hb : badC y ≠ 0
    · rw [if_pos hb] at h; exact absurd h hb
    · rw [if_neg hb] at h
      rcases List.mem_cons.1 hx with rfl | hx
      · exact Classical.not_not.1 hb
      · exact firstC_all h x hx
theorem rise_up : ∀ {l : Im IC}, (∀ i, upAt l i) → IRise l
  | [], _ => List.Pairwise.nil
  | x :: r, h => by
    have hr : IRise r := rise_up fun i a b ha hb => h (i + 1) a b (by simpa using ha) (by simpa using hb)
    refine List.pairwise_cons.2 ⟨fun y hy => ?_, hr⟩
    cases r with
    | nil => cases hy
    | cons z s =>
      have h0 := h 0 x z rfl rfl
      rcases List.mem_cons.1 hy with rfl | hy
      · exact h0
      · have := (List.pairwise_cons.1 hr).1 y hy
        omega
theorem up_rise {l : Im IC} (h : IRise l) (i : Nat) : upAt l i := fun a b ha hb => by
  unfold IRise at h
  rw [List.pairwise_iff_getElem] at h
  obtain ⟨h7, e7⟩ := List.getElem?_eq_some_iff.1 ha
  obtain ⟨h8, e8⟩ := List.getElem?_eq_some_iff.1 hb
  have := h i (i + 1) h7 h8 (by omega)
  rwa [e7, e8] at this
theorem entC_a {low : Int} {l : Im IC} {f : Int × IC} (hf : f ∈ l) (h : badA low f = true) : entC low l = 1 := by
  unfold entC
  rw [if_pos (List.any_eq_true.2 ⟨f, hf, h⟩)]
theorem noA {low : Int} {l : Im IC} (h : ∀ f ∈ l, badA low f = false) : ¬ l.any (badA low) = true := by
  rw [List.any_eq_true]
  rintro ⟨f, hf, h1⟩
  rw [h f hf] at h1
  cases h1
theorem entC_c {low : Int} {l : Im IC} (ha : ∀ f ∈ l, badA low f = false) {k : Nat} {f : Int × IC} (hg : ∀ x ∈ l.take k, badC x = 0) (hf : l[k]? = some f) (h : badC f ≠ 0) : entC low l = badC f := by
  unfold entC
  rw [if_neg (noA ha), firstC_at hg hf h, if_pos h]
theorem entC_k {low : Int} {l : Im IC} (ha : ∀ f ∈ l, badA low f = false) (hc : ∀ x ∈ l, badC x = 0) {f : Int × IC} (hf : f ∈ l) (h : badK f = true) : entC low l = 2 := by
  unfold entC
  rw [if_neg (noA ha), firstC_none hc, if_neg (by decide), if_pos (List.any_eq_true.2 ⟨f, hf, h⟩)]
theorem noK {l : Im IC} (h : ∀ f ∈ l, badK f = false) : ¬ l.any badK = true := by
  rw [List.any_eq_true]
  rintro ⟨f, hf, h1⟩
  rw [h f hf] at h1
  cases h1
theorem entC_u {low : Int} {l : Im IC} (ha : ∀ f ∈ l, badA low f = false) (hc : ∀ x ∈ l, badC x = 0) (hk : ∀ f ∈ l, badK f = false) {k : Nat} {a b : Int × IC} (h1 : l[k]? = some a) (h2 : l[k + 1]? = some b) (h : b.1 ≤ a.1) : entC low l = 13 := by
  unfold entC
  rw [if_neg (noA ha), firstC_none hc, if_neg (by decide), if_neg (noK hk), if_neg fun hr => by have := up_rise hr k a b h1 h2; omega]
theorem entC_zero {low : Int} {l : Im IC} (ha : ∀ f ∈ l, badA low f = false) (hc : ∀ x ∈ l, badC x = 0) (hk : ∀ f ∈ l, badK f = false) (hr : ∀ i, upAt l i) : entC low l = 0 := by
  unfold entC
  rw [if_neg (noA ha), firstC_none hc, if_neg (by decide), if_neg (noK hk), if_pos (rise_up hr)]
theorem uok_ent {e low : Int} {l : Im IC} (he : 0 ≤ e ∧ e ≤ 1099511627776) (hl : 0 ≤ low ∧ low ≤ 1048576) (h8 : ∀ f ∈ l, ∀ y ∈ f.2.2, y < 256) (h : entC low l = 0) : UOk ⟨e, low, l⟩ := by
  unfold entC at h
  split at h
  · cases h
  · rename_i ha
    split at h
    · rename_i hc; exact absurd h hc
    · rename_i hc
      split at h
      · cases h
      · rename_i hk
        split at h
        · rename_i hr
          refine ⟨he, hl, fun f hf => ?_, hr⟩
          have a1 : badA low f = false := by
            rw [Bool.eq_false_iff]
            exact fun h1 => ha (List.any_eq_true.2 ⟨f, hf, h1⟩)
          have a2 := firstC_all (Classical.not_not.1 hc) f hf
          have a3 : badK f = false := by
            rw [Bool.eq_false_iff]
            exact fun h1 => hk (List.any_eq_true.2 ⟨f, hf, h1⟩)
          unfold badA at a1
          unfold badK at a3
          rw [Bool.or_eq_false_iff] at a1 a3
          simp only [decide_eq_false_iff_not, beq_eq_false_iff_ne] at a1 a3
          have a4 := chk_zero (show chk f.2.1 f.2.2.length = 0 from a2)
          exact ⟨by show low ≤ f.1; omega, by omega, by omega, a2, h8 f hf⟩
        · cases h
theorem ent_uok {U : US} (h : UOk U) : entC U.low U.cells = 0 := by
  refine entC_zero (fun f hf => ?_) (fun f hf => (h.at' f hf).2.2.2.1) (fun f hf => ?_) (up_rise h.rise)
  · have := h.at' f hf
    unfold badA
    rw [decide_eq_false (by omega), decide_eq_false (by omega)]
    rfl
  · unfold badK
    rcases (h.at' f hf).2.2.1 with h1 | h1 <;> rw [h1] <;> rfl
theorem take_all {l : Im IC} {k : Nat} {f : Int × IC} {P : Int × IC → Prop} (h : ∀ x ∈ l.take k, P x) (hf : l[k]? = some f) (hp : P f) : ∀ x ∈ l.take (k + 1), P x := by
  rw [take_snocU hf]
  intro x hx
  rcases List.mem_append.1 hx with hx | hx
  · exact h x hx
  · obtain rfl : x = f := by simpa using hx
    exact hp

section
variable {w : World} {B : Nat → Prop} {v : Value} {l : Im IC}
set_option maxHeartbeats 8000000 in
set_option maxRecDepth 100000 in
theorem echeck_any (h : EntAt w B v l) (low : Int) (h0 : 0 ≤ low) (hl : l.length ≤ 1048576) :
    Calls Tryz.prog 262 #[.int .i64 low, v] w fun r w' => r = .returned (errV (entC low l)) ∧ Below w.heap.size w w' := by
  obtain ⟨ao, cap, rfl, _, _, _⟩ := h.val
  have H := Lib.hid h
  have HL := Lib.hid hl
  have HL9 : Hid (l.length ≤ 9223372036854775807) := Lib.hid (by omega)
  have HWI := Lib.hid (fun a W => uwithin_any a 1048575 W)
  have H0 := Lib.hid h0
  obtain ⟨n, hn⟩ : ∃ n, n = l.length := ⟨_, rfl⟩
  rw [← hn] at HL HL9 ⊢
  have HN := Lib.hid hn
  clear h hl hn h0
  go_enter Tryz.func262, Tryz.ntmps262
  go_wp2
  go_loopw [15] (fun i wr => ∃ k : Nat, k ≤ n ∧ i = .int .i64 (k : Int) ∧ Below w.heap.size w wr ∧ ∀ x ∈ l.take k, badA low x = false)
    (fun i _ => n - (intOf i).toNat)
  case atStart => exact ⟨0, Nat.zero_le _, rfl, Below.refl _ _, fun x hx => by simp at hx⟩
  case round =>
    obtain ⟨k, hk, rfl, hbr, hall⟩ := hrel
    have HBR := Lib.hid hbr
    have HALL := Lib.hid hall
    by_cases hlt : k < n
    · obtain ⟨f, hf⟩ : ∃ f, l[k]? = some f := ⟨_, List.getElem?_eq_getElem (by rw [← HN.out]; exact hlt)⟩
      obtain ⟨b, off, dv, rfl, hb, _, d0, d1, d2, hat⟩ := H.out.at hf
      obtain ⟨ao2, cap2, rfl, _, _, _⟩ := hat.reads.val
      replace d0 := (hbr.cell (p := ⟨b, off + k * 3, none⟩) hb).trans d0
      replace d1 := (hbr.cell (p := ⟨b, off + k * 3 + 1, none⟩) hb).trans d1
      replace d2 := (hbr.cell (p := ⟨b, off + k * 3 + 2, none⟩) hb).trans d2
      have hlti : (k : Int) < n := by omega
      have HK := Lib.hid hlt
      have HF := Lib.hid hf
      have HBD : Hid (Below w.heap.size w (wr.alloc (.cells #[.int .i64 f.1, .int .i64 f.2.1, .slice ao2 f.2.2.length cap2] 178))) := Lib.hid (hbr.alloc hbr.size _)
      clear hbr hall hf hb hat
      by_cases h1 : f.1 < low
      · have HE : Hid (entC low l = 1) := Lib.hid (entC_a (List.mem_of_getElem? HF.out) (by unfold badA; rw [decide_eq_true h1]; rfl))
        generalize f.1 = f1 at *
        generalize f.2.1 = f2 at *
        generalize f.2.2.length = f3 at *
        go_wp2
        go_ret
        exact ⟨by rw [HE.out, errV_pos (by decide)]; rfl, HBD.out⟩
      · have hwi := fun W => HWI.out f.1 W
        have e0 : decide (0 ≤ f.1) = true := decide_eq_true (by have := H0.out; omega)
        simp only [e0, Bool.true_and] at hwi
        by_cases h2 : f.1 ≤ 1048575
        · have HG : Hid (badA low f = false) := Lib.hid (by unfold badA; rw [decide_eq_false h1, decide_eq_false (by omega)]; rfl)
          have HA2 := Lib.hid (take_all (P := fun x => badA low x = false) HALL.out HF.out HG.out)
          simp only [decide_eq_true h2] at hwi
          have HWC := Lib.hid hwi
          clear hwi e0 h2 HG
          generalize f.1 = f1 at *
          generalize f.2.1 = f2 at *
          generalize f.2.2.length = f3 at *
          go_wp2_with fail
          refine (HWC.out _).mono ?_
          rintro r w9 ⟨rfl, rfl⟩
          go_wp2
          go_roundw
          case rel => exact ⟨k + 1, HK.out, (by first | exact uinc_eq HK.out HL9.out | rfl), HBD.out, HA2.out⟩
          case measure => first | exact uinc_meas HK.out HL9.out | (have := HK.out; simp [intOf]; omega)
        · have HE : Hid (entC low l = 1) := Lib.hid (entC_a (List.mem_of_getElem? HF.out) (by unfold badA; rw [decide_eq_true (show 1048575 < f.1 by omega), Bool.or_true]))
          simp only [decide_eq_false h2] at hwi
          have HWC := Lib.hid hwi
          clear hwi e0 h2
          generalize f.1 = f1 at *
          generalize f.2.1 = f2 at *
          generalize f.2.2.length = f3 at *
          go_wp2_with fail
          refine (HWC.out _).mono ?_
          rintro r w9 ⟨rfl, rfl⟩
          go_wp2
          go_ret
          exact ⟨by rw [HE.out, errV_pos (by decide)]; rfl, HBD.out⟩
    · obtain rfl : k = n := by omega
      have HA : Hid (∀ x ∈ l, badA low x = false) := Lib.hid (by
        have h1 := hall
        rw [HN.out, List.take_length] at h1
        exact h1)
      clear hall hbr HALL
      go_wp2
      go_loopw [33] (fun i wr => ∃ j : Nat, j ≤ k ∧ i = .int .i64 (j : Int) ∧ Below w.heap.size w wr ∧ ∀ x ∈ l.take j, badC x = 0)
        (fun i _ => k - (intOf i).toNat)
      case atStart => exact ⟨0, Nat.zero_le _, rfl, HBR.out, fun x hx => by simp at hx⟩
      case round =>
        clear HBR
        obtain ⟨j, hj, rfl, hbr, hall⟩ := hrel
        have HBR := Lib.hid hbr
        have HALL := Lib.hid hall
        by_cases hjt : j < k
        · obtain ⟨f, hf⟩ : ∃ f, l[j]? = some f := ⟨_, List.getElem?_eq_getElem (by rw [← HN.out]; exact hjt)⟩
          obtain ⟨b, off, dv, rfl, hb, _, d0, d1, d2, hat⟩ := H.out.at hf
          obtain ⟨ao2, cap2, rfl, _, _, _⟩ := hat.reads.val
          replace d0 := (hbr.cell (p := ⟨b, off + j * 3, none⟩) hb).trans d0
          replace d1 := (hbr.cell (p := ⟨b, off + j * 3 + 1, none⟩) hb).trans d1
          replace d2 := (hbr.cell (p := ⟨b, off + j * 3 + 2, none⟩) hb).trans d2
          have hjti : (j : Int) < k := by omega
          have HJ := Lib.hid hjt
          have HF := Lib.hid hf
          obtain ⟨W5, hW5⟩ : ∃ W5, W5 = wr.alloc (.cells #[.int .i64 f.1, .int .i64 f.2.1, .slice ao2 f.2.2.length cap2] 178) := ⟨_, rfl⟩
          have hb5 : Below w.heap.size w W5 := by rw [hW5]; exact hbr.alloc hbr.size _
          have HC := Lib.hid (check_any f.2.1 (.slice ao2 f.2.2.length cap2) f.2.2 W5 (hat.keep (kept_new hb5 B)).reads)
          obtain ⟨c, hc⟩ : ∃ c, c = badC f := ⟨_, rfl⟩
          have hc2 : chk f.2.1 f.2.2.length = c := hc.symm
          rw [hc2] at HC
          have HBC := Lib.hid hc
          have HB5 := Lib.hid hb5
          have HW5 := Lib.hid hW5
          clear hbr hall hf hb hat hb5 hW5 hc hc2
          generalize f.1 = f1 at *
          generalize f.2.1 = f2 at *
          generalize f.2.2.length = f3 at *
          go_wp2_with fail
          rw [← HW5.out]
          refine HC.out.mono ?_
          rintro r w9 ⟨rfl, hb9⟩
          have HB9 := Lib.hid (HB5.out.trans (hb9.mono HB5.out.size))
          clear hb9
          by_cases hz : c = 0
          · have HA2 := Lib.hid (take_all (P := fun x => badC x = 0) HALL.out HF.out (by rw [← HBC.out]; exact hz))
            rw [hz, errV_zero]
            clear hz
            go_wp2
            go_roundw
            case rel => exact ⟨j + 1, HJ.out, (by first | exact uinc_eq HJ.out HL9.out | rfl), HB9.out, HA2.out⟩
            case measure => first | exact uinc_meas HJ.out HL9.out | (have := HJ.out; simp [intOf]; omega)
          · have HE : Hid (entC low l = c) := Lib.hid (by rw [entC_c HA.out HALL.out HF.out (by rw [← HBC.out]; exact hz), HBC.out])
            rw [errV_pos hz]
            have HZ := Lib.hid hz
            clear hz
            go_wp2
            go_ret
            exact ⟨by rw [HE.out, errV_pos HZ.out]; rfl, HB9.out⟩
        · obtain rfl : j = k := by omega
          have HCC : Hid (∀ x ∈ l, badC x = 0) := Lib.hid (by
            have h1 := hall
            rw [HN.out, List.take_length] at h1
            exact h1)
          clear hall hbr HALL
          go_wp2
          go_loopw [46] (fun i wr => ∃ k : Nat, k ≤ j ∧ i = .int .i64 (k : Int) ∧ Below w.heap.size w wr ∧ ∀ x ∈ l.take k, badK x = false)
            (fun i _ => j - (intOf i).toNat)
          case atStart => exact ⟨0, Nat.zero_le _, rfl, HBR.out, fun x hx => by simp at hx⟩
          case round =>
            clear HBR
            obtain ⟨k, hk, rfl, hbr, hall⟩ := hrel
            have HBR := Lib.hid hbr
            have HALL := Lib.hid hall
            by_cases hlt : k < j
            · obtain ⟨f, hf⟩ : ∃ f, l[k]? = some f := ⟨_, List.getElem?_eq_getElem (by rw [← HN.out]; exact hlt)⟩
              obtain ⟨b, off, dv, rfl, hb, _, d0, d1, d2, hat⟩ := H.out.at hf
              obtain ⟨ao2, cap2, rfl, _, _, _⟩ := hat.reads.val
              replace d0 := (hbr.cell (p := ⟨b, off + k * 3, none⟩) hb).trans d0
              replace d1 := (hbr.cell (p := ⟨b, off + k * 3 + 1, none⟩) hb).trans d1
              replace d2 := (hbr.cell (p := ⟨b, off + k * 3 + 2, none⟩) hb).trans d2
              have hlti : (k : Int) < j := by omega
              have HK := Lib.hid hlt
              have HF := Lib.hid hf
              have HBD : Hid (Below w.heap.size w (wr.alloc (.cells #[.int .i64 f.1, .int .i64 f.2.1, .slice ao2 f.2.2.length cap2] 178))) := Lib.hid (hbr.alloc hbr.size _)
              obtain ⟨q0, hq0⟩ : ∃ q, q = (f.2.1 == 0) := ⟨_, rfl⟩
              obtain ⟨q3, hq3⟩ : ∃ q, q = (f.2.1 == 3) := ⟨_, rfl⟩
              have HBK : Hid (badK f = (q0 || q3)) := Lib.hid (by rw [hq0, hq3]; rfl)
              clear hbr hall hf hb hat
              generalize f.1 = f1 at *
              generalize f.2.1 = f2 at *
              generalize f.2.2.length = f3 at *
              have hq0' := hq0.symm
              have hq3' := hq3.symm
              cases hbk : (q0 || q3)
              · obtain ⟨z0, z3⟩ := Bool.or_eq_false_iff.1 hbk
                rw [z0] at hq0'
                rw [z3] at hq3'
                have HA2 := Lib.hid (take_all (P := fun x => badK x = false) HALL.out HF.out (by rw [HBK.out]; exact hbk))
                clear hq0 hq3 hbk z0 z3
                go_wp2
                go_roundw
                case rel => exact ⟨k + 1, HK.out, (by first | exact uinc_eq HK.out HL9.out | rfl), HBD.out, HA2.out⟩
                case measure => first | exact uinc_meas HK.out HL9.out | (have := HK.out; simp [intOf]; omega)
              · have HE : Hid (entC low l = 2) := Lib.hid (entC_k HA.out HCC.out (List.mem_of_getElem? HF.out) (by rw [HBK.out]; exact hbk))
                cases hz0 : q0
                · have hz3 : q3 = true := by rw [hz0] at hbk; simpa using hbk
                  rw [hz0] at hq0'
                  rw [hz3] at hq3'
                  clear hq0 hq3 hbk hz0 hz3
                  go_wp2
                  go_ret
                  exact ⟨by rw [HE.out, errV_pos (by decide)]; rfl, HBD.out⟩
                · rw [hz0] at hq0'
                  clear hq0 hq3 hbk hz0 hq3'
                  go_wp2
                  go_ret
                  exact ⟨by rw [HE.out, errV_pos (by decide)]; rfl, HBD.out⟩
            · obtain rfl : k = j := by omega
              have HKK : Hid (∀ x ∈ l, badK x = false) := Lib.hid (by
                have h1 := hall
                rw [HN.out, List.take_length] at h1
                exact h1)
              clear hall hbr HALL
              go_wp2
              go_loopw [12] (fun i wr => ∃ j : Nat, i = .int .i64 ((j : Int) + 1) ∧ Below w.heap.size w wr ∧ ∀ i, i < j → upAt l i)
                (fun i _ => k - (intOf i).toNat)
              case atStart => exact ⟨0, rfl, HBR.out, fun i hi => absurd hi (Nat.not_lt_zero _)⟩
              case round =>
                clear HBR
                obtain ⟨j, rfl, hbr, hall⟩ := hrel
                have HBR := Lib.hid hbr
                have HALL := Lib.hid hall
                have HBD : Hid (∀ n, Below w.heap.size w (wr.drewN n)) := Lib.hid fun n => ⟨hbr.os, hbr.tape, hbr.output, hbr.size, hbr.block⟩
                have HBD1 : Hid (Below w.heap.size w wr.drew) := Lib.hid ⟨hbr.os, hbr.tape, hbr.output, hbr.size, hbr.block⟩
                by_cases hjt2 : j + 1 < k
                · have hjt : j < k := by omega
                  obtain ⟨f, hf⟩ : ∃ f, l[j]? = some f := ⟨_, List.getElem?_eq_getElem (by rw [← HN.out]; exact hjt)⟩
                  obtain ⟨g, hg⟩ : ∃ g, l[j + 1]? = some g := ⟨_, List.getElem?_eq_getElem (by rw [← HN.out]; exact hjt2)⟩
                  obtain ⟨b, off, dv, rfl, hb, _, d0, _⟩ := H.out.at hf
                  obtain ⟨b', off', dv', hao', hb', _, d0', _⟩ := H.out.at hg
                  cases hao'
                  replace d0 := (hbr.cell (p := ⟨b, off + j * 3, none⟩) hb).trans d0
                  replace d0' := (hbr.cell (p := ⟨b, off + (j + 1) * 3, none⟩) hb).trans d0'
                  have hlti : (j : Int) < k := by omega
                  have hlti2 : (j : Int) + 1 < k := by omega
                  have HJ2 := Lib.hid hjt2
                  have HF := Lib.hid hf
                  have HG := Lib.hid hg
                  have HL1 : k ≤ 1048576 := HL.out
                  by_cases hle : g.1 ≤ f.1
                  · have HE : Hid (entC low l = 13) := Lib.hid (entC_u HA.out HCC.out HKK.out hf hg hle)
                    have e9 : decide (g.1 ≤ f.1) = true := decide_eq_true hle
                    clear hbr hall hf hg hb hb'
                    generalize f.1 = f1 at *
                    generalize g.1 = g1 at *
                    go_wp2_with fail
                    go_quiet (fail)
                    go_wp2
                    go_ret
                    exact ⟨by rw [HE.out, errV_pos (by decide)]; rfl, HBD.out _⟩
                  · have HA2 : Hid (∀ i, i < j + 1 → upAt l i) := Lib.hid fun i hi => by
                      by_cases h1 : i < j
                      · exact HALL.out i h1
                      · obtain rfl : i = j := by omega
                        intro a c ha hc
                        rw [HF.out] at ha
                        rw [HG.out] at hc
                        cases ha
                        cases hc
                        omega
                    have e9 : decide (g.1 ≤ f.1) = false := decide_eq_false hle
                    clear hbr hall hf hg hb hb'
                    generalize f.1 = f1 at *
                    generalize g.1 = g1 at *
                    go_wp2_with fail
                    go_quiet (fail)
                    go_wp2
                    go_roundw
                    case rel => exact ⟨j + 1, rfl, HBD.out _, HA2.out⟩
                    case measure => have := HJ2.out; simp [intOf]; omega
                · have hlt3 : ¬ (j : Int) + 1 < k := by omega
                  have HE : Hid (entC low l = 0) := Lib.hid (entC_zero HA.out HCC.out HKK.out fun i => by
                    by_cases h1 : i < j
                    · exact hall i h1
                    · intro a c ha hc
                      have := (List.getElem?_eq_some_iff.1 hc).1
                      have := HN.out
                      omega)
                  clear hbr hall
                  go_wp2
                  go_ret
                  exact ⟨by rw [HE.out, errV_zero]; rfl, HBR.out⟩
end
end Go.Proofs.YtlckadlkgjfjcaaGreatDoor

namespace Go.Proofs.YtlckadlkgjfjcaaGreatDoor
open Go.RowKit

theorem iins_last {α : Type} {n : Int} {t : α} : ∀ {l : Im α}, (∀ f ∈ l, f.1 < n) → iins n t l = l ++ [(n, t)]
  | [], _ => rfl
  | x :: r, h => by
    have hx := h x (by simp)
    unfold iins
    rw [if_neg (by omega), iins_last fun f hf => h f (by simp [hf])]
    rfl
theorem iput_last {α : Type} {n : Int} {t : α} {l : Im α} (h : ∀ f ∈ l, f.1 < n) : iput l n t = l ++ [(n, t)] := by
  unfold iput idel
  rw [List.filter_eq_self.2 fun f hf => by have := h f hf; simp; omega]
  exact iins_last h
theorem rise_take {l : Im IC} (h : IRise l) {k : Nat} {f : Int × IC} (hf : l[k]? = some f) : ∀ g ∈ l.take k, g.1 < f.1 := by
  intro g hg
  obtain ⟨i, hi⟩ := List.getElem?_of_mem hg
  have hik : i < k := by
    have := (List.getElem?_eq_some_iff.1 hi).1
    rw [List.length_take] at this
    omega
  rw [List.getElem?_take_of_lt hik] at hi
  unfold IRise at h
  rw [List.pairwise_iff_getElem] at h
  obtain ⟨h7, e7⟩ := List.getElem?_eq_some_iff.1 hi
  obtain ⟨h8, e8⟩ := List.getElem?_eq_some_iff.1 hf
  have := h i k h7 h8 hik
  rwa [e7, e8] at this

open Classical in
noncomputable def ofC (e low : Int) (l : Im IC) : Nat := if e < 0 ∨ 1099511627776 < e ∨ low < 0 ∨ 1048576 < low then 1 else entC low l
theorem of_uok {U : US} (h : UOk U) : ofC U.epoch U.low U.cells = 0 := by
  have h1 := h.epoch
  have h2 := h.low
  unfold ofC
  rw [if_neg (by omega)]
  exact ent_uok h

section
variable {w : World} {A : Nat → Prop} {v : Value} {l : Im IC}
/-- What Of answers. -/
def UOfPost (w : World) (e low : Int) (l : Im IC) (r : Ending) (w' : World) : Prop :=
  Below w.heap.size w w' ∧ ((ofC e low l ≠ 0 ∧ r = .returned (.tuple #[.pointer none, errV (ofC e low l)])) ∨
    (ofC e low l = 0 ∧ ∃ u m B, r = .returned (.tuple #[.pointer (some ⟨u, 0, none⟩), .nilIface]) ∧ Un w' B u m ⟨e, low, l⟩ ∧ w.heap.size ≤ u ∧ w.heap.size ≤ m ∧ ∀ j, B j → w.heap.size ≤ j))

theorem Un.marks {u m : Nat} {B : Nat → Prop} {U : US} (h : Un w B u m U) (e low : Int) (he : 0 ≤ e ∧ e ≤ 1099511627776) (hl : 0 ≤ low ∧ low ≤ 1048576) (hc : U.cells = []) :
    Un ((w.setCell ⟨u, 0, none⟩ (.int .i64 e)).setCell ⟨u, 1, none⟩ (.int .i64 low)) B u m ⟨e, low, []⟩ := by
  have hf : Fr (fun j => j = u) w ((w.setCell ⟨u, 0, none⟩ (.int .i64 e)).setCell ⟨u, 1, none⟩ (.int .i64 low)) := (fr_set w u 0 _).trans (fr_set _ u 1 _) (fun _ _ h => h) (fun _ _ h => h)
  obtain ⟨es, hm, hz⟩ := h.map
  rw [hc] at hz
  refine ⟨heap_setCell_same _ u 1 _ _ _ (heap_setCell_same _ u 0 _ _ _ h.box), ⟨es, hm.keep (hf.block m hm.lt fun e => h.ne e.symm), hz.mono fun _ _ hr => hr.keep (hf.kept B fun j _ hB e => h.nu (e ▸ hB))⟩, ⟨he, hl, fun f hf => (by cases hf), List.Pairwise.nil⟩, h.ne, h.nu, h.nm⟩

set_option maxHeartbeats 8000000 in
set_option maxRecDepth 100000 in
theorem uof_any (h : EntAt w A v l) (h8 : ∀ f ∈ l, ∀ y ∈ f.2.2, y < 256) (hl : l.length ≤ 1048576) (e low : Int) :
    Calls Tryz.prog 198 #[.int .i64 e, .int .i64 low, v] w (UOfPost w e low l) := by
  obtain ⟨ao, cap, rfl, _, _, _⟩ := h.val
  have H := Lib.hid h
  have H8 := Lib.hid h8
  have HL := Lib.hid hl
  have HL9 : Hid (l.length ≤ 9223372036854775807) := Lib.hid (by omega)
  have HW1 := fun a b => Lib.hid (fun W => uwithin_any a b W)
  have HE9 : Hid (ofC e low l = if e < 0 ∨ 1099511627776 < e ∨ low < 0 ∨ 1048576 < low then 1 else entC low l) := Lib.hid rfl
  have HCK : Hid (0 ≤ low → Calls Tryz.prog 262 #[.int .i64 low, .slice ao l.length cap] w fun r w' => r = .returned (errV (entC low l)) ∧ Below w.heap.size w w') := Lib.hid fun h0 => echeck_any h low h0 hl
  obtain ⟨n, hn⟩ : ∃ n, n = l.length := ⟨_, rfl⟩
  rw [← hn] at HL HL9 HCK ⊢
  have HN := Lib.hid hn
  clear h hl hn h8
  go_enter Tryz.func198, Tryz.ntmps198
  by_cases h1 : 0 ≤ e ∧ e ≤ 1099511627776
  rotate_left
  · have HOF : Hid (ofC e low l = 1) := Lib.hid (by rw [HE9.out, if_pos (by omega)])
    have hw := (HW1 e 1099511627776).out
    have hb : (decide (0 ≤ e) && decide (e ≤ 1099511627776)) = false := by rw [Bool.and_eq_false_iff, decide_eq_false_iff_not, decide_eq_false_iff_not]; omega
    simp only [hb] at hw
    have HWA := Lib.hid hw
    clear hw hb h1
    go_wp2_with fail
    refine (HWA.out _).mono ?_
    rintro r w ⟨rfl, rfl⟩
    go_wp2
    go_ret2
    exact ⟨Below.refl _ _, .inl ⟨by rw [HOF.out]; decide, by rw [HOF.out, errV_pos (by decide)]; rfl⟩⟩
  have hw := (HW1 e 1099511627776).out
  have hb : (decide (0 ≤ e) && decide (e ≤ 1099511627776)) = true := by rw [Bool.and_eq_true, decide_eq_true_iff, decide_eq_true_iff]; omega
  simp only [hb] at hw
  have HWA := Lib.hid hw
  have HEB := Lib.hid h1
  clear hw hb h1
  go_wp2_with fail
  refine (HWA.out _).mono ?_
  rintro r w ⟨rfl, rfl⟩
  by_cases h1 : 0 ≤ low ∧ low ≤ 1048576
  rotate_left
  · have HOF : Hid (ofC e low l = 1) := Lib.hid (by rw [HE9.out, if_pos (by omega)])
    have hw := (HW1 low 1048576).out
    have hb : (decide (0 ≤ low) && decide (low ≤ 1048576)) = false := by rw [Bool.and_eq_false_iff, decide_eq_false_iff_not, decide_eq_false_iff_not]; omega
    simp only [hb] at hw
    have HWB := Lib.hid hw
    clear hw hb h1
    go_wp2_with fail
    refine (HWB.out _).mono ?_
    rintro r w ⟨rfl, rfl⟩
    go_wp2
    go_ret2
    exact ⟨Below.refl _ _, .inl ⟨by rw [HOF.out]; decide, by rw [HOF.out, errV_pos (by decide)]; rfl⟩⟩
  have hw := (HW1 low 1048576).out
  have hb : (decide (0 ≤ low) && decide (low ≤ 1048576)) = true := by rw [Bool.and_eq_true, decide_eq_true_iff, decide_eq_true_iff]; omega
  simp only [hb] at hw
  have HWB := Lib.hid hw
  have HLB := Lib.hid h1
  have HOF : Hid (ofC e low l = entC low l) := Lib.hid (by rw [HE9.out, if_neg (by have := HEB.out; omega)])
  have HCL := Lib.hid (HCK.out h1.1)
  clear hw hb h1
  go_wp2_with fail
  refine (HWB.out _).mono ?_
  rintro r w ⟨rfl, rfl⟩
  go_wp2_with fail
  refine HCL.out.mono ?_
  rintro r w3 ⟨rfl, hb3⟩
  have HB3 := Lib.hid hb3
  clear hb3
  by_cases hz : entC low l = 0
  rotate_left
  · rw [errV_pos hz]
    have HZ := Lib.hid hz
    clear hz
    go_wp2
    go_ret2
    exact ⟨HB3.out, .inl ⟨by rw [HOF.out]; exact HZ.out, by rw [HOF.out, errV_pos HZ.out]; rfl⟩⟩
  have HU : Hid (UOk ⟨e, low, l⟩) := Lib.hid (uok_ent HEB.out HLB.out H8.out hz)
  have HZ : Hid (ofC e low l = 0) := Lib.hid (by rw [HOF.out, hz])
  rw [hz, errV_zero]
  clear hz
  go_wp2_with fail
  refine (new_unit w3).mono ?_
  rintro r w4 ⟨rfl, hu4, hb4⟩
  obtain ⟨c0, c1, c2, cf⟩ := hu4.c
  obtain ⟨q, hq⟩ : ∃ q, q = w3.heap.size := ⟨_, rfl⟩
  rw [← hq] at hu4 c0 c1 c2 cf
  have HQ := Lib.hid hq
  have hu5 := hu4.more (C := fun j => q + 1 < j) (fun _ _ h => h.elim) (by omega) (by omega)
  have HM := Lib.hid (hu5.marks e low HEB.out HLB.out rfl)
  have HB5 : Hid (Below w.heap.size w ((w4.setCell ⟨q + 1, 0, none⟩ (.int .i64 e)).setCell ⟨q + 1, 1, none⟩ (.int .i64 low))) := Lib.hid (((HB3.out.trans (hb4.mono HB3.out.size)).setCell (by show w.heap.size ≤ q + 1; have := HB3.out.size; omega) _).setCell (by show w.heap.size ≤ q + 1; have := HB3.out.size; omega) _)
  have HQ1 : Hid (w.heap.size ≤ q) := Lib.hid (by have := HB3.out.size; omega)
  rw [← hq]
  clear hu4 hu5 hb4 hq
  go_wp2
  go_loopw [38] (fun i wr => ∃ k : Nat, k ≤ n ∧ i = .int .i64 (k : Int) ∧ Below w.heap.size w wr ∧ Un wr (fun j => q + 1 < j) (q + 1) q ⟨e, low, l.take k⟩)
    (fun i _ => n - (intOf i).toNat)
  case atStart => exact ⟨0, Nat.zero_le _, rfl, HB5.out, HM.out⟩
  case round =>
    obtain ⟨k, hk, rfl, hbr, hun⟩ := hrel
    have HBR := Lib.hid hbr
    have HUN := Lib.hid hun
    by_cases hlt : k < n
    · obtain ⟨f, hf⟩ : ∃ f, l[k]? = some f := ⟨_, List.getElem?_eq_getElem (by rw [← HN.out]; exact hlt)⟩
      obtain ⟨b, off, dv, rfl, hb, _, d0, d1, d2, hat⟩ := H.out.at hf
      obtain ⟨ao2, cap2, rfl, _, _, _⟩ := hat.reads.val
      replace d0 := (hbr.cell (p := ⟨b, off + k * 3, none⟩) hb).trans d0
      replace d1 := (hbr.cell (p := ⟨b, off + k * 3 + 1, none⟩) hb).trans d1
      replace d2 := (hbr.cell (p := ⟨b, off + k * 3 + 2, none⟩) hb).trans d2
      have hlti : (k : Int) < n := by omega
      have HK := Lib.hid hlt
      have hfa := HU.out.at' f (List.mem_of_getElem? hf)
      have HT : Hid (iput (l.take k) f.1 f.2 = l.take (k + 1)) := Lib.hid (by rw [iput_last (rise_take HU.out.rise hf), take_snocU hf])
      obtain ⟨W5, hW5⟩ : ∃ W5, W5 = wr.alloc (.cells #[.int .i64 f.1, .int .i64 f.2.1, .slice ao2 f.2.2.length cap2] 178) := ⟨_, rfl⟩
      have hb5 : Below wr.heap.size wr W5 := by rw [hW5]; exact (Below.refl _ _).alloc (Nat.le_refl _) _
      have hx5 : W5.heap[wr.heap.size]? = some (.cells #[.int .i64 f.1, .int .i64 f.2.1, .slice ao2 f.2.2.length cap2] 178 (0, 0)) := by rw [hW5]; exact heap_alloc_new _ _
      have hu5 := hun.old hb5
      have hult := hun.ult
      have HUP : Hid (∀ W v4, Below W5.heap.size W5 W → Owns W W5.heap.size 5 .u8 v4 f.2.2 → ∃ w', (Instr.mapUpdate 168 (.map (some q)) (.int .i64 f.1) (.agg #[.int .i64 f.2.1, v4])).run Tryz.prog W = .ok () w' ∧ Un w' (fun j => q + 1 < j) (q + 1) q ⟨e, low, l.take (k + 1)⟩ ∧ Below w.heap.size w w') := Lib.hid fun W v4 hb ho => by
        have hat4 : At W (fun j => q + 1 < j) .u8 v4 f.2.2 := by
          refine ⟨ho.reads, ?_⟩
          rcases ho.2 with ⟨_, hn⟩ | ⟨g, c4, cur, hv, hg, _⟩
          · exact .inl (List.length_eq_zero_iff.1 hn)
          · exact .inr ⟨g, 0, _, c4, hv, by have := hb5.size; omega⟩
        obtain ⟨w', h1, h2, h3⟩ := (hu5.old hb).update hfa.2.1 hfa.1 (c := f.2) ⟨v4, rfl, hat4⟩ hfa.2.2
        simp only [HT.out] at h2
        refine ⟨w', h1, h2, ?_⟩
        have hbw := (HBR.out.trans (hb5.mono HBR.out.size)).trans (hb.mono (Nat.le_trans HBR.out.size hb5.size))
        exact hbw.grown h3 hbw.size fun j hj => by cases hj; exact HQ1.out
      have HCC := Lib.hid (copy_any f.2.1 (.slice ao2 f.2.2.length cap2) f.2.2 W5.drew ((hat.keep (kept_new hbr A)).keep (kept_new hb5 A)).reads (by have := (chk_zero hfa.2.2.2.1).2.2.1; omega))
      obtain ⟨_, _, c2, _⟩ := hu5.c
      have HC2 : Hid (∀ W, Below W5.heap.size W5 W → W.cell? ⟨q + 1, 2, none⟩ = some (.map (some q)) ∧ W.cell? ⟨wr.heap.size, 0, none⟩ = some (.int .i64 f.1)) := Lib.hid fun W hb => ⟨(hu5.old hb).c.2.2.1, by
        rw [cell_of_row _ _ 0 _ _ _ ((hb.block _ (Array.getElem?_eq_some_iff.1 hx5).1).trans hx5)]; rfl⟩
      obtain ⟨y0, y1, y2, _⟩ := three_cells hx5
      have HW5 := Lib.hid hW5
      clear hbr hun hf hb hat hfa hb5 hx5 hu5 hult hW5
      obtain ⟨fa, fk, fd⟩ := f
      simp only at *
      generalize fd.length = n3 at *
      go_wp2_with fail
      rw [← HW5.out]
      go_region_with (first
        | (go_at_call 158
           refine HCC.out.mono ?_
           rintro r w6 ⟨v6, rfl, ho6, hb6⟩
           have hb6' : Below W5.heap.size W5 w6 := ⟨hb6.os, hb6.tape, hb6.output, hb6.size, hb6.block⟩
           obtain ⟨w7, q7, hu7, hb7⟩ := HUP.out w6 v6 hb6' ho6
           obtain ⟨d2', y0'⟩ := HC2.out w6 hb6'
           obtain ⟨ao6, cap6, rfl, _, _, _⟩ := ho6.reads.val
           have HU7 := Lib.hid hu7
           have HB7 := Lib.hid hb7
           clear ho6 hb6 hb6' hu7 hb7))
      all_goals
        go_wp2
        go_roundw
        case rel => exact ⟨k + 1, HK.out, (by first | exact uinc_eq HK.out HL9.out | rfl), HB7.out, HU7.out⟩
        case measure => first | exact uinc_meas HK.out HL9.out | (have := HK.out; simp [intOf]; omega)
    · obtain rfl : k = n := by omega
      have HF : Hid (Un wr (fun j => q + 1 < j) (q + 1) q ⟨e, low, l⟩) := Lib.hid (by
        have h1 := hun
        rw [HN.out, List.take_length] at h1
        exact h1)
      clear hun hbr HUN
      go_wp2
      go_ret2
      exact ⟨HBR.out, .inr ⟨HZ.out, _, _, _, rfl, HF.out, by have := HQ1.out; omega, HQ1.out, fun j hj => by have := HQ1.out; omega⟩⟩
end
end Go.Proofs.YtlckadlkgjfjcaaGreatDoor

namespace Go.Proofs.YtlckadlkgjfjcaaGreatDoor
open Go.RowKit

theorem reads_none (w : World) (k : IntKind) : Reads w k (.slice none 0 0) [] := ⟨none, 0, rfl, by simp, by simp [maxLen], by simp, .inl rfl⟩

/-- What Put answers. -/
def CPut (b : List Nat) (k : Int) (d : List Nat) (w : World) (e : Ending) (w' : World) : Prop :=
  ∃ v' out, e = .returned (.tuple #[v', errV (chk k d.length)]) ∧ Owns w' w.heap.size 5 .u8 v' out ∧ out = (if chk k d.length = 0 then b ++ cbytes (k.toNat, d) else []) ∧ Below w.heap.size w w'

theorem cbytes_pos (c : CC) : 0 < (cbytes c).length := by
  unfold cbytes
  split
  · rw [List.length_append]; have := enc_pos 1; omega
  · exact enc_pos _

set_option maxHeartbeats 1000000 in
set_option maxRecDepth 100000 in
theorem cput_any (bv v : Value) (b : List Nat) (k : Int) (d : List Nat) (w : World) (hb : Reads w .u8 bv b) (hr : Reads w .u8 v d) (hx : b.length ≤ 60000000000000) :
    Calls Tryz.prog 145 #[bv, .agg #[.int .i64 k, v]] w (CPut b k d w) := by
  obtain ⟨ao, cap, rfl, _, _, _⟩ := hr.val
  obtain ⟨aob, capb, rfl, _, _, _⟩ := hb.val
  have hb0 : Below w.heap.size w (w.alloc (.cells #[.int .i64 k, .slice ao d.length cap] 24)) := (Below.refl _ _).alloc (Nat.le_refl _) _
  have hx0 := heap_alloc_new w (.cells #[.int .i64 k, .slice ao d.length cap] 24)
  obtain ⟨W0, hW0⟩ : ∃ W0, W0 = w.alloc (.cells #[.int .i64 k, .slice ao d.length cap] 24) := ⟨_, rfl⟩
  rw [← hW0] at hb0 hx0
  have HR := Lib.hid (hr.new hb0)
  have HRB := Lib.hid (hb.new hb0)
  have HB0 := Lib.hid hb0
  have HX0 := Lib.hid hx0
  clear hb hr hb0 hx0
  go_enter Tryz.func145, Tryz.ntmps145
  go_wp2_with fail
  rw [← hW0]
  refine (check_any k _ d W0 HR.out).mono ?_
  rintro e w1 ⟨rfl, hb1⟩
  have HB1 : Hid (Below w.heap.size w w1) := Lib.hid (HB0.out.trans (hb1.mono HB0.out.size))
  have HX1 := Lib.hid ((hb1.block _ (Array.getElem?_eq_some_iff.1 HX0.out).1).trans HX0.out)
  have HR1 := Lib.hid (HR.out.new hb1)
  have HRB1 := Lib.hid (HRB.out.new hb1)
  clear hb1 HX0 HB0 HR HRB hW0
  obtain ⟨a0, a1, _, _⟩ := blk2 HX1.out
  by_cases hc : chk k d.length = 0
  · obtain ⟨k0, k3, hd64, hk1⟩ := chk_zero hc
    obtain ⟨n, rfl⟩ : ∃ n : Nat, k = (n : Int) := ⟨k.toNat, by omega⟩
    have hwr : IntKind.u64.wrap (n : Int) = (n : Int) := by
      have : n = 0 ∨ n = 1 ∨ n = 2 ∨ n = 3 := by omega
      rcases this with rfl | rfl | rfl | rfl <;> rfl
    rw [hc, errV_zero]
    have hun : ∀ x ∈ [n], U64 x := by
      intro x hx
      rw [List.mem_singleton.1 hx]
      unfold U64; omega
    have HC := Lib.hid hc
    have HK1 := Lib.hid hk1
    clear hc hk1
    go_wp2_with fail
    refine (put_any _ _ [] [n] _ (reads_none _ _) (reads_new w1 .u64 200 n) hun (by simp)).mono ?_
    rintro e w2 ⟨v2, rfl, ho2, hb2⟩
    have hb2' : Below w1.heap.size w1 w2 := ((Below.refl _ _).alloc (Nat.le_refl _) _).trans (hb2.mono (by simp))
    have HB2 : Hid (Below w.heap.size w w2) := Lib.hid (HB1.out.trans (hb2'.mono HB1.out.size))
    have HX2 := Lib.hid ((hb2'.block _ (Array.getElem?_eq_some_iff.1 HX1.out).1).trans HX1.out)
    have HR2 := Lib.hid (HR1.out.new hb2')
    have HRB2 := Lib.hid (HRB1.out.new hb2')
    have HO2 : Hid (Owns w2 (w1.heap.size + 1) 5 .u8 v2 (enc n)) := Lib.hid (by simpa [encs] using ho2)
    clear hb2 hb2' ho2 HB1 HX1 HR1 HRB1 a0 a1
    obtain ⟨a0, a1, _, _⟩ := blk2 HX2.out
    by_cases hn1 : n = 1
    · subst hn1
      go_wp2_with fail
      refine (putText_any v2 _ (enc 1) d w2 HO2.out.reads HR2.out (by have := enc_len10 (n := 1) (by unfold U64; omega); omega)).mono ?_
      rintro e w3 ⟨v3, rfl, ho3, hb3⟩
      have hcb : enc 1 ++ enc d.length ++ d = cbytes (1, d) := by unfold cbytes; rw [if_pos rfl, List.append_assoc]
      rw [hcb] at ho3
      obtain ⟨ao3, cap3, rfl, _, _, _⟩ := ho3.reads.val
      have HO3 := Lib.hid ho3.reads
      have HRB3 := Lib.hid (HRB2.out.new hb3)
      have HB3 := Lib.hid (HB2.out.trans (hb3.mono HB2.out.size))
      have hcl : (cbytes (1, d)).length ≤ 1000 := by
        have h1 := enc_len10 (n := 1) (by unfold U64; omega)
        have h2 := enc_len10 (n := d.length) (by unfold U64; omega)
        have e : (cbytes (1, d)).length = (enc 1).length + ((enc d.length).length + d.length) := by unfold cbytes; rw [if_pos rfl, List.length_append, List.length_append]
        omega
      clear ho3 hb3 HR2 HRB2 HO2 HX2 HB2 a0 a1
      have hpos := cbytes_pos (1, d)
      generalize hcbs : cbytes (1, d) = cb at hcl hpos HO3
      have HCB := Lib.hid hcbs
      clear hcbs hcb
      go_wp2_with fail
      refine (concat_any _ [b, cb] (b ++ cb) _ _ (txs_two w3 _ _ _ b cb HRB3.out HO3.out) (by simp) (by rw [List.length_append]; omega) (by rw [List.length_append]; omega) (by simp)).mono ?_
      rintro e w4 ⟨v4, rfl, ho4, hb4⟩
      have HO4 : Hid (Owns w4 w.heap.size 5 .u8 v4 (b ++ cb)) := Lib.hid (ho4.mono (by have := HB3.out.size; simp; omega))
      have HB4 : Hid (Below w.heap.size w w4) := Lib.hid ((HB3.out.alloc HB3.out.size _).trans (hb4.mono (by have := HB3.out.size; simp; omega)))
      clear ho4 hb4
      go_wp2
      go_ret2
      exact ⟨_, b ++ cb, by rw [HC.out]; rfl, HO4.out, by rw [if_pos HC.out, ← HCB.out]; rfl, HB4.out⟩
    · have hn1i : ((n : Int) == 1) = false := by rw [beq_eq_false_iff_ne]; omega
      have hcb : enc n = cbytes (n, d) := by unfold cbytes; rw [if_neg hn1]
      obtain ⟨ao3, cap3, rfl, _, _, _⟩ := HO2.out.reads.val
      have HO3 : Hid (Reads w2 .u8 (.slice ao3 (enc n).length cap3) (enc n)) := Lib.hid HO2.out.reads
      have hcl : (enc n).length ≤ 1000 := by have := enc_len10 (n := n) (by unfold U64; omega); omega
      have hpos := enc_pos n
      clear HR2 HO2 HX2
      generalize hcbs : enc n = cb at hcl hpos HO3 hcb
      have HCB := Lib.hid hcb
      clear hcbs hcb hn1
      go_wp2_with fail
      refine (concat_any _ [b, cb] (b ++ cb) _ _ (txs_two w2 _ _ _ b cb HRB2.out HO3.out) (by simp) (by rw [List.length_append]; omega) (by rw [List.length_append]; omega) (by simp)).mono ?_
      rintro e w4 ⟨v4, rfl, ho4, hb4⟩
      have HO4 : Hid (Owns w4 w.heap.size 5 .u8 v4 (b ++ cb)) := Lib.hid (ho4.mono (by have := HB2.out.size; simp; omega))
      have HB4 : Hid (Below w.heap.size w w4) := Lib.hid ((HB2.out.alloc HB2.out.size _).trans (hb4.mono (by have := HB2.out.size; simp; omega)))
      clear ho4 hb4
      go_wp2
      go_ret2
      exact ⟨_, b ++ cb, by rw [HC.out]; rfl, HO4.out, by rw [if_pos HC.out, HCB.out]; rfl, HB4.out⟩
  · have HC := Lib.hid hc
    have he := errV_pos hc
    rw [he]
    go_wp2
    go_ret2
    exact ⟨_, [], by rw [he]; rfl, owns_nil _ _ _ _, by rw [if_neg HC.out], HB1.out⟩

end Go.Proofs.YtlckadlkgjfjcaaGreatDoor

namespace Go.Proofs.YtlckadlkgjfjcaaGreatDoor
open Go.RowKit

end Go.Proofs.YtlckadlkgjfjcaaGreatDoor

namespace Go.Proofs.YtlckadlkgjfjcaaGreatDoor
open Go.RowKit

end Go.Proofs.YtlckadlkgjfjcaaGreatDoor

namespace Go.Proofs.YtlckadlkgjfjcaaGreatDoor
open Go.RowKit

def toCC (c : IC) : CC := (c.1.toNat, c.2)
end Go.Proofs.YtlckadlkgjfjcaaGreatDoor

namespace Go.Proofs.YtlckadlkgjfjcaaGreatDoor
open Go.RowKit

end Go.Proofs.YtlckadlkgjfjcaaGreatDoor

namespace Go.Proofs.YtlckadlkgjfjcaaGreatDoor
open Go.RowKit

/-- A cell, taken: the kind, the bytes, the error, what is left. -/
def TCell (rest : List Nat) (c : Nat) (k : Nat) (d : List Nat) (c' : Nat) (fin : List Nat) : Prop :=
  ∃ n r1 c1, NumRel rest c n r1 c1 ∧
    ((n ≠ 1 ∧ ((withinC n c1 3 ≠ 0 ∧ k = 0 ∧ d = [] ∧ c' = withinC n c1 3 ∧ fin = []) ∨ (withinC n c1 3 = 0 ∧ k = n ∧ d = [] ∧ c' = 0 ∧ fin = r1))) ∨
     (n = 1 ∧ ∃ m r2 c2 out r3 c3, NumRel r1 c1 m r2 c2 ∧ FixRel r2 (manyC m c2 64) (manyR m 64 : Nat) out r3 c3 ∧
       ((c3 ≠ 0 ∧ k = 0 ∧ d = [] ∧ c' = c3 ∧ fin = []) ∨ (c3 = 0 ∧ k = 1 ∧ d = out ∧ c' = 0 ∧ fin = r3))))

theorem TCell.unique {rest : List Nat} {c k k' : Nat} {d d' : List Nat} {e e' : Nat} {fin fin' : List Nat} (h : TCell rest c k d e fin) (h' : TCell rest c k' d' e' fin') : k = k' ∧ d = d' ∧ e = e' ∧ fin = fin' := by
  obtain ⟨n, r1, c1, hn, h⟩ := h
  obtain ⟨n', r1', c1', hn', h'⟩ := h'
  obtain ⟨rfl, rfl, rfl⟩ := hn.unique hn'
  rcases h with ⟨h1, h⟩ | ⟨h1, m, r2, c2, out, r3, c3, hm, hf, h⟩ <;> rcases h' with ⟨g1, g⟩ | ⟨g1, m', r2', c2', out', r3', c3', hm', hf', g⟩ <;> first | omega | skip
  · rcases h with ⟨a, rfl, rfl, rfl, rfl⟩ | ⟨a, rfl, rfl, rfl, rfl⟩ <;> rcases g with ⟨b, rfl, rfl, rfl, rfl⟩ | ⟨b, rfl, rfl, rfl, rfl⟩ <;> first | exact ⟨rfl, rfl, rfl, rfl⟩ | omega
  · obtain ⟨rfl, rfl, rfl⟩ := hm.unique hm'
    obtain ⟨rfl, rfl, rfl⟩ := hf.unique hf'
    rcases h with ⟨a, rfl, rfl, rfl, rfl⟩ | ⟨a, rfl, rfl, rfl, rfl⟩ <;> rcases g with ⟨b, rfl, rfl, rfl, rfl⟩ | ⟨b, rfl, rfl, rfl, rfl⟩ <;> first | exact ⟨rfl, rfl, rfl, rfl⟩ | omega

end Go.Proofs.YtlckadlkgjfjcaaGreatDoor

namespace Go.Proofs.YtlckadlkgjfjcaaGreatDoor
open Go.RowKit

end Go.Proofs.YtlckadlkgjfjcaaGreatDoor

namespace Go.Proofs.YtlckadlkgjfjcaaGreatDoor
open Go.RowKit

end Go.Proofs.YtlckadlkgjfjcaaGreatDoor

namespace Go.Proofs.YtlckadlkgjfjcaaGreatDoor
open Go.RowKit

/-- Cells' values as the program has them, one behind the other. -/
def ivals (l : List (Int × Value)) : List Value := l.flatMap fun x => [.int .i64 x.1, x.2]
theorem ivals_get (l : List (Int × Value)) (i : Nat) (hi : i < l.length) : (ivals l)[i * 2]? = some (.int .i64 l[i].1) ∧ (ivals l)[i * 2 + 1]? = some l[i].2 := by
  induction l generalizing i with
  | nil => simp at hi
  | cons x l ih =>
    match i with
    | 0 => simp [ivals]
    | i + 1 =>
      obtain ⟨h1, h2⟩ := ih i (by simpa using hi)
      simp only [ivals, List.flatMap_cons, List.cons_append, List.nil_append, List.getElem_cons_succ] at *
      rw [show (i + 1) * 2 = i * 2 + 1 + 1 by omega]
      simp only [List.getElem?_cons_succ]
      exact ⟨h1, h2⟩

/-- A row of cells of the call's own. -/
def OwnsI (w : World) (base : Nat) (v : Value) (l : List (Int × Value)) : Prop := w.ownsRow base 24 2 v l.length (ivals l)

theorem OwnsI.below {w w' : World} {base : Nat} {v : Value} {l : List (Int × Value)} (h : OwnsI w base v l) (hb : Below w.heap.size w w') : OwnsI w' base v l :=
  h.kept (row := none) ⟨hb.os, hb.tape, hb.output, hb.size, fun j hj _ => hb.block j hj⟩ (by cases v.ownBlock <;> simp)
theorem OwnsI.grown {w w' : World} {base : Nat} {v : Value} {l : List (Int × Value)} {row : Option Nat} (h : OwnsI w base v l) (hg : w.grownBy w' row) (hne : v.ownBlock = none ∨ v.ownBlock ≠ row) : OwnsI w' base v l := World.ownsRow.kept h hg hne
theorem OwnsI.form {w : World} {base : Nat} {v : Value} {l : List (Int × Value)} (h : OwnsI w base v l) : ∃ ao cap, v = .slice ao l.length cap := by
  rcases h.2 with ⟨rfl, h2⟩ | ⟨g, cap, cur, rfl, _⟩
  · exact ⟨none, 0, by rw [h2]⟩
  · exact ⟨_, cap, rfl⟩
theorem OwnsI.lt {w : World} {base : Nat} {v : Value} {l : List (Int × Value)} (h : OwnsI w base v l) : ∀ j, v.ownBlock = some j → base ≤ j ∧ j < w.heap.size := World.ownsRow.lt h

/-- What is owned reads as cells, if their bytes do. -/
theorem OwnsI.cells {w : World} {base : Nat} {v : Value} {l : List (Int × Value)} (h : OwnsI w base v l) (cs : List IC) (B : Nat → Prop) (hlen : cs.length = l.length)
    (hB : ∀ j, v.ownBlock = some j → B j) (hc : ∀ i, (hi : i < l.length) → l[i].1 = (cs.getD i (0, [])).1 ∧ At w B .u8 l[i].2 (cs.getD i (0, [])).2) : CellsAt w B v cs := by
  have h0 := h
  unfold OwnsI at h0
  rcases h.2 with ⟨rfl, hn⟩ | ⟨g, cap, cur, rfl, hb, hg, hnc, hm, hs, ht⟩
  · exact ⟨none, 0, by rw [hlen, hn], by omega, by simp [maxLen], fun _ => rfl, .inl (List.length_eq_zero_iff.1 (by omega))⟩
  · refine ⟨_, cap, by rw [hlen], by omega, hm, by simp, .inr ⟨g, 0, rfl, (Array.getElem?_eq_some_iff.1 hg).1, hB g rfl, fun i hi => ?_⟩⟩
    have hil : i < l.length := by omega
    obtain ⟨g1, g2⟩ := ivals_get l i hil
    obtain ⟨c1, c2⟩ := hc i hil
    refine ⟨l[i].2, ?_, ?_, c2⟩
    · rw [Nat.zero_add, h0.cellAt (i * 2) (by omega), g1, c1]
    · rw [Nat.zero_add, h0.cellAt (i * 2 + 1) (by omega), g2]

end Go.Proofs.YtlckadlkgjfjcaaGreatDoor

namespace Go.Proofs.YtlckadlkgjfjcaaGreatDoor
open Go.RowKit

end Go.Proofs.YtlckadlkgjfjcaaGreatDoor

namespace Go.Proofs.YtlckadlkgjfjcaaGreatDoor
open Go.RowKit

theorem OwnsI.at {w : World} {base : Nat} {ao : Option Addr} {n cap : Nat} {l : List (Int × Value)} (h : OwnsI w base (.slice ao n cap) l) {i : Nat} (hi : i < l.length) :
    ∃ g, ao = some ⟨g, 0, none⟩ ∧ g < w.heap.size ∧ w.cell? ⟨g, i * 2, none⟩ = some (.int .i64 l[i].1) ∧ w.cell? ⟨g, i * 2 + 1, none⟩ = some l[i].2 := by
  have h0 := h
  unfold OwnsI at h0
  rcases h.2 with ⟨_, hn⟩ | ⟨g, cap', cur, hv, hb, hg, _⟩
  · omega
  · cases hv
    obtain ⟨g1, g2⟩ := ivals_get l i hi
    exact ⟨g, rfl, (Array.getElem?_eq_some_iff.1 hg).1, by rw [h0.cellAt (i * 2) (by omega), g1], by rw [h0.cellAt (i * 2 + 1) (by omega), g2]⟩

end Go.Proofs.YtlckadlkgjfjcaaGreatDoor

namespace Go.Proofs.YtlckadlkgjfjcaaGreatDoor
open Go.RowKit

/-- What was made before base stays, but the reader. -/
structure Gr (base p : Nat) (w w' : World) : Prop where
  os : w'.os = w.os
  tape : w'.tape = w.tape
  output : w'.output = w.output
  size : w.heap.size ≤ w'.heap.size
  block : ∀ j, j < base → j ≠ p → w'.heap[j]? = w.heap[j]?
theorem Gr.refl (base p : Nat) (w : World) : Gr base p w w := ⟨rfl, rfl, rfl, Nat.le_refl _, fun _ _ _ => rfl⟩
theorem Gr.trans {base p : Nat} {a b c : World} (h : Gr base p a b) (k : Gr base p b c) : Gr base p a c :=
  ⟨k.os.trans h.os, k.tape.trans h.tape, k.output.trans h.output, Nat.le_trans h.size k.size, fun j hj hp => (k.block j hj hp).trans (h.block j hj hp)⟩
theorem Owns.ty {w : World} {base : Nat} {e : TypeId} {k : IntKind} {v : Value} {l : List Nat} (h : Owns w base e k v l) {j : Nat} (hj : v.ownBlock = some j) : ∃ cs, w.heap[j]? = some (.cells cs e (0, 0)) := by
  rcases h.2 with ⟨rfl, _⟩ | ⟨g, cap, cur, rfl, _, hg, _⟩
  · cases hj
  · cases hj; exact ⟨_, hg⟩
theorem OwnsI.ty {w : World} {base : Nat} {v : Value} {l : List (Int × Value)} (h : OwnsI w base v l) {j : Nat} (hj : v.ownBlock = some j) : ∃ cs, w.heap[j]? = some (.cells cs 24 (0, 0)) := by
  rcases h.2 with ⟨rfl, _⟩ | ⟨g, cap, cur, rfl, _, hg, _⟩
  · cases hj
  · cases hj; exact ⟨_, hg⟩
section
variable {w w' : World} {base t p : Nat} {rv rnv lsv : Value} {row : List Nat} {place c : Nat} {acc : List (Int × Value)} {cs : List CC} {last : List Nat}

end

section
variable {w w' : World} {base t p : Nat} {rv rnv lsv : Value} {row : List Nat} {place c : Nat} {acc : List (Int × Value)} {cs : List CC} {last : List Nat}

end

end Go.Proofs.YtlckadlkgjfjcaaGreatDoor

namespace Go.Proofs.YtlckadlkgjfjcaaGreatDoor
open Go.RowKit

end Go.Proofs.YtlckadlkgjfjcaaGreatDoor

namespace Go.Proofs.YtlckadlkgjfjcaaGreatDoor
open Go.RowKit

end Go.Proofs.YtlckadlkgjfjcaaGreatDoor

namespace Go.Proofs.YtlckadlkgjfjcaaGreatDoor
open Go.RowKit

end Go.Proofs.YtlckadlkgjfjcaaGreatDoor

namespace Go.Proofs.YtlckadlkgjfjcaaGreatDoor
open Go.RowKit

end Go.Proofs.YtlckadlkgjfjcaaGreatDoor

namespace Go.Proofs.YtlckadlkgjfjcaaGreatDoor
open Go.RowKit

end Go.Proofs.YtlckadlkgjfjcaaGreatDoor

namespace Go.Proofs.YtlckadlkgjfjcaaGreatDoor
open Go.RowKit

theorem Gr.grownBy {p : Nat} {w w' : World} (h : Gr w.heap.size p w w') : w.grownBy w' (some p) :=
  ⟨h.os, h.tape, h.output, h.size, fun j hj hp => h.block j hj (fun e => hp (by rw [e]))⟩
end Go.Proofs.YtlckadlkgjfjcaaGreatDoor

namespace Go.Proofs.YtlckadlkgjfjcaaGreatDoor
open Go.RowKit

/-- What Take answers. -/
def CTakePost (p : Nat) (rv : Value) (row : List Nat) (place c : Nat) (w : World) (e : Ending) (w' : World) : Prop :=
  ∃ (v' : Value) (k : Nat) (d : List Nat) (place' c' : Nat) (fin : List Nat), e = .returned (.agg #[.int .i64 (k : Int), v']) ∧ TCell (row.drop place) c k d c' fin ∧ Rd w' p rv row place' c' ∧ (c' = 0 → row.drop place' = fin) ∧
    Owns w' w.heap.size 5 .u8 v' d ∧ w.grownBy w' (some p)

theorem Rd.putC {w : World} {p q : Nat} {rv : Value} {row : List Nat} {place c : Nat} {cs : Array Value} (h : Rd w p rv row place c) (hq : w.heap[q]? = some (.cells cs 24 (0, 0))) (i : Nat) (x : Value) : Rd (w.setCell ⟨q, i, none⟩ x) p rv row place c := by
  refine h.grown (grown_set w q i x) ?_ ?_
  · intro e
    cases e
    have := hq.symm.trans h.blk
    cases this
  · cases hv : rv.ownBlock with
    | none => exact .inl rfl
    | some j =>
      right
      intro he
      cases he
      obtain ⟨c2, h2⟩ := h.own.ty hv
      have := h2.symm.trans hq
      cases this
theorem Owns.putC {w : World} {base q : Nat} {v : Value} {l : List Nat} {cs : Array Value} (h : Owns w base 5 .u8 v l) (hq : w.heap[q]? = some (.cells cs 24 (0, 0))) (i : Nat) (x : Value) : Owns (w.setCell ⟨q, i, none⟩ x) base 5 .u8 v l := by
  refine h.grown (grown_set w q i x) ?_
  cases hv : v.ownBlock with
  | none => exact .inl rfl
  | some j =>
    right
    intro he
    cases he
    obtain ⟨c2, h2⟩ := h.ty hv
    have := h2.symm.trans hq
    cases this
theorem grown_put {w w' : World} {p q : Nat} (h : w.grownBy w' (some p)) (hq : w.heap.size ≤ q) (i : Nat) (x : Value) : w.grownBy (w'.setCell ⟨q, i, none⟩ x) (some p) :=
  grownBy_trans h (grown_set w' q i x) (fun j hj h2 => by cases hj; omega)

set_option maxHeartbeats 4000000 in
set_option maxRecDepth 100000 in
theorem cellTake_any {w : World} {p : Nat} {rv : Value} {row : List Nat} {place c : Nat} (hr : Rd w p rv row place c) :
    Calls Tryz.prog 259 #[.pointer (some ⟨p, 0, none⟩)] w (CTakePost p rv row place c w) := by
  obtain ⟨W0, hW0⟩ : ∃ W0, W0 = w.alloc (.cells #[.int .i64 0, .slice none 0 0] 24) := ⟨_, rfl⟩
  have hb0 : Below w.heap.size w W0 := by rw [hW0]; exact (Below.refl _ _).alloc (Nat.le_refl _) _
  have hR0 : W0.heap[w.heap.size]? = some (.cells #[.int .i64 0, .slice none 0 0] 24 (0, 0)) := by rw [hW0]; exact heap_alloc_new _ _
  have HR0 := Lib.hid hR0
  have HRD0 := Lib.hid (hr.below hb0 (Nat.le_refl _))
  have HB0 := Lib.hid hb0
  have HPL : Hid (p < w.heap.size) := Lib.hid hr.lt
  clear hb0 hR0 hr
  go_enter Tryz.func259, Tryz.ntmps259
  go_wp2_with fail
  rw [← hW0]
  refine (within_any HRD0.out 3).mono ?_
  rintro e w1 ⟨n, pl1, c1, rfl, hn, hrd, hg⟩
  obtain ⟨z, hz⟩ : ∃ z, z = withinR n 3 := ⟨_, rfl⟩
  obtain ⟨d, hd⟩ : ∃ d, d = withinC n c1 3 := ⟨_, rfl⟩
  rw [← hd] at hrd
  rw [← hz]
  have HN := Lib.hid hn
  have HZ := Lib.hid hz
  have HD := Lib.hid hd
  have HSW : Hid (w.heap.size < w1.heap.size) := Lib.hid (Nat.lt_of_lt_of_le (Array.getElem?_eq_some_iff.1 HR0.out).1 hg.size)
  have HR1 : Hid (w1.heap[w.heap.size]? = some (.cells #[.int .i64 0, .slice none 0 0] 24 (0, 0))) := Lib.hid ((hg.block _ (Array.getElem?_eq_some_iff.1 HR0.out).1 (fun e => by have := HPL.out; cases e; omega)).trans HR0.out)
  have hg1 : w.grownBy w1 (some p) := grownBy_trans (row := some p) ⟨HB0.out.os, HB0.out.tape, HB0.out.output, HB0.out.size, fun j hj _ => HB0.out.block j hj⟩ hg (fun j hj _ => hj)
  obtain ⟨W2, hW2⟩ : ∃ W2, W2 = w1.alloc (.cells #[.int .i64 (z : Int), .slice none 0 0] 24) := ⟨_, rfl⟩
  have hb2 : Below w1.heap.size w1 W2 := by rw [hW2]; exact (Below.refl _ _).alloc (Nat.le_refl _) _
  have HQ2 : Hid (W2.heap[w1.heap.size]? = some (.cells #[.int .i64 (z : Int), .slice none 0 0] 24 (0, 0))) := Lib.hid (by rw [hW2]; exact heap_alloc_new _ _)
  have HR2 : Hid (W2.heap[w.heap.size]? = some (.cells #[.int .i64 0, .slice none 0 0] 24 (0, 0))) := Lib.hid ((hb2.block _ HSW.out).trans HR1.out)
  have HX2 := Lib.hid (hrd.below hb2 (Nat.le_refl _))
  have HG2 : Hid (w.grownBy W2 (some p)) := Lib.hid (grownBy_trans hg1 (row1 := none) ⟨hb2.os, hb2.tape, hb2.output, hb2.size, fun j hj _ => hb2.block j hj⟩ (fun j hj _ => by cases hj))
  have HS2 : Hid (w.heap.size ≤ W2.heap.size) := Lib.hid (by have := HSW.out; have := hb2.size; omega)
  obtain ⟨a0, a1, a2, a3⟩ := blk2 HQ2.out
  have HW2 := Lib.hid hW2
  clear hz hd hn hg hrd hb2 hW2 hg1 HB0 HRD0 HR0 HR1
  by_cases hz1 : z = 1
  · have hz1i : ((z : Int) == 1) = true := by rw [hz1]; rfl
    have HN1 : Hid (n = 1 ∧ d = c1 ∧ z = 1) := Lib.hid (by
      have h1 := HZ.out
      have h2 := HD.out
      unfold withinR at h1
      unfold withinC at h2
      split at h1
      · omega
      · have : n = 1 := by omega
        subst this
        rw [if_neg (by omega)] at h2
        exact ⟨rfl, h2, hz1⟩)
    clear hz1
    go_wp2_with fail
    rw [← HW2.out]
    refine (text_any HX2.out 64 (by decide) (by decide)).mono ?_
    rintro e w3 ⟨v3, out, m, pl2, c2, pl3, cc, rfl, hm, hf, ho, hrd3, hg3⟩
    obtain ⟨ao3, cap3, rfl, _, _, _⟩ := ho.reads.val
    have hbp : w1.heap.size ≠ p := by have := HPL.out; have := HSW.out; omega
    have HQ3 : Hid (w3.heap[w1.heap.size]? = some (.cells #[.int .i64 (z : Int), .slice none 0 0] 24 (0, 0))) := Lib.hid ((hg3.block _ (Array.getElem?_eq_some_iff.1 HQ2.out).1 (fun e => hbp (by cases e; rfl))).trans HQ2.out)
    have HR3 : Hid (w3.heap[w.heap.size]? = some (.cells #[.int .i64 0, .slice none 0 0] 24 (0, 0))) := Lib.hid ((hg3.block _ (Array.getElem?_eq_some_iff.1 HR2.out).1 (fun e => by have := HPL.out; cases e; omega)).trans HR2.out)
    obtain ⟨W4, hW4⟩ : ∃ W4, W4 = w3.setCell ⟨w1.heap.size, 1, none⟩ (.slice ao3 out.length cap3) := ⟨_, rfl⟩
    have HX4 : Hid (Rd W4 p rv row pl3 cc) := Lib.hid (by rw [hW4]; exact hrd3.putC HQ3.out 1 _)
    have HO4 : Hid (Owns W4 w.heap.size 5 .u8 (.slice ao3 out.length cap3) out) := Lib.hid (by rw [hW4]; exact (ho.mono HS2.out).putC HQ3.out 1 _)
    have HQ4 : Hid (W4.heap[w1.heap.size]? = some (.cells #[.int .i64 (z : Int), .slice ao3 out.length cap3] 24 (0, 0))) := Lib.hid (by rw [hW4, heap_setCell_same _ _ 1 _ _ _ HQ3.out]; rfl)
    have HR4 : Hid (W4.heap[w.heap.size]? = some (.cells #[.int .i64 0, .slice none 0 0] 24 (0, 0))) := Lib.hid (by rw [hW4, heap_setCell_other _ _ _ _ (by have := HSW.out; simp; omega)]; exact HR3.out)
    have HG4 : Hid (w.grownBy W4 (some p)) := Lib.hid (by rw [hW4]; exact grown_put (grownBy_trans HG2.out hg3 (fun j hj _ => hj)) (Nat.le_of_lt HSW.out) 1 _)
    obtain ⟨g0, g1, g2, g3⟩ := blk2 HQ3.out
    have HW4 := Lib.hid hW4
    have HM := Lib.hid hm
    have HF := Lib.hid hf
    clear hW4 hm hf ho hrd3 hg3 hbp a0 a1 a2 a3 HX2 HQ2 HR2 HG2
    go_wp2_with fail
    rw [← HW4.out]
    obtain ⟨r0, r1, r2, r3⟩ := blk2 HR4.out
    obtain ⟨q0, q1, q2, q3⟩ := blk2 HQ4.out
    have hz9 := set2 (x := .int .i64 (z : Int)) (y := .slice ao3 out.length cap3) HR4.out
    obtain ⟨s0, s1, _, _⟩ := blk2 hz9
    have hz8 := set2 (x := .int .i64 0) (y := .slice none 0 0) HR4.out
    obtain ⟨y0, y1, _, _⟩ := blk2 hz8
    clear hz9 hz8
    refine (err_any HX4.out).mono ?_
    rintro e w9 ⟨rfl, rfl⟩
    by_cases h0 : cc = 0
    · have HT : Hid (TCell (row.drop place) c z out cc (row.drop pl3)) := Lib.hid (⟨n, _, c1, HN.out, .inr ⟨HN1.out.1, m, _, c2, out, _, cc, by have := HM.out; rw [HN1.out.2.1] at this; exact this, HF.out, .inr ⟨h0, HN1.out.2.2, rfl, h0, rfl⟩⟩⟩)
      rw [h0, errV_zero]
      rw [h0] at HT
      have HXX := HX4
      rw [h0] at HXX
      clear h0
      go_wp2
      refine bodyPost_ret (v := .agg #[.int .i64 (z : Int), .slice ao3 out.length cap3]) (by simp [results, Tryz.results259, go_sem, s0, s1]) rfl ⟨.slice ao3 out.length cap3, z, out, pl3, 0, _, rfl, HT.out, ?_, fun _ => rfl, ?_, ?_⟩
      · exact (HXX.out.putC HR4.out 0 _).putC (heap_setCell_same _ _ 0 _ _ _ HR4.out) 1 _
      · exact (HO4.out.putC HR4.out 0 _).putC (heap_setCell_same _ _ 0 _ _ _ HR4.out) 1 _
      · exact grown_put (grown_put HG4.out (Nat.le_refl _) 0 _) (Nat.le_refl _) 1 _
    · have HT : Hid (TCell (row.drop place) c 0 [] cc []) := Lib.hid (⟨n, _, c1, HN.out, .inr ⟨HN1.out.1, m, _, c2, out, _, cc, by have := HM.out; rw [HN1.out.2.1] at this; exact this, HF.out, .inl ⟨h0, rfl, rfl, rfl, rfl⟩⟩⟩)
      have H0 := Lib.hid h0
      rw [errV_pos h0]
      clear h0
      go_wp2
      refine bodyPost_ret (v := .agg #[.int .i64 0, .slice none 0 0]) (by simp [results, Tryz.results259, go_sem, y0, y1]) rfl ⟨.slice none 0 0, 0, [], pl3, cc, [], rfl, HT.out, ?_, fun h => absurd h H0.out, owns_nil _ _ _ _, ?_⟩
      · exact (HX4.out.putC HR4.out 0 _).putC (heap_setCell_same _ _ 0 _ _ _ HR4.out) 1 _
      · exact grown_put (grown_put HG4.out (Nat.le_refl _) 0 _) (Nat.le_refl _) 1 _
  · have hz1i : ((z : Int) == 1) = false := by rw [beq_eq_false_iff_ne]; omega
    have HN1 : Hid (n ≠ 1 ∧ (d = 0 → z = n)) := Lib.hid (by
      have h1 := HZ.out
      have h2 := HD.out
      unfold withinR at h1
      unfold withinC at h2
      refine ⟨fun h => ?_, fun h => ?_⟩
      · subst h
        rw [if_neg (by omega)] at h1
        exact hz1 h1
      · split at h1
        · next h3 => rw [h] at h2; (repeat' split at h2) <;> omega
        · exact h1)
    clear hz1
    go_wp2_with fail
    rw [← HW2.out]
    obtain ⟨r0, r1, r2, r3⟩ := blk2 HR2.out
    obtain ⟨q0, q1, q2, q3⟩ := blk2 HQ2.out
    have hz9 := set2 (x := .int .i64 (z : Int)) (y := .slice none 0 0) HR2.out
    obtain ⟨s0, s1, _, _⟩ := blk2 hz9
    have hz8 := set2 (x := .int .i64 0) (y := .slice none 0 0) HR2.out
    obtain ⟨y0, y1, _, _⟩ := blk2 hz8
    clear hz9 hz8
    refine (err_any HX2.out).mono ?_
    rintro e w9 ⟨rfl, rfl⟩
    by_cases h0 : d = 0
    · have HT : Hid (TCell (row.drop place) c z [] d (row.drop pl1)) := Lib.hid (⟨n, _, c1, HN.out, .inl ⟨HN1.out.1, .inr ⟨by rw [← HD.out]; exact h0, HN1.out.2 h0, rfl, h0, rfl⟩⟩⟩)
      rw [h0, errV_zero]
      rw [h0] at HT
      have HXX := HX2
      rw [h0] at HXX
      clear h0
      go_wp2
      refine bodyPost_ret (v := .agg #[.int .i64 (z : Int), .slice none 0 0]) (by simp [results, Tryz.results259, go_sem, s0, s1]) rfl ⟨.slice none 0 0, z, [], pl1, 0, _, rfl, HT.out, ?_, fun _ => rfl, ?_, ?_⟩
      · exact (HXX.out.putC HR2.out 0 _).putC (heap_setCell_same _ _ 0 _ _ _ HR2.out) 1 _
      · exact ((owns_nil _ _ _ _ : Owns _ w.heap.size 5 .u8 (.slice none 0 0) []).putC HR2.out 0 _).putC (heap_setCell_same _ _ 0 _ _ _ HR2.out) 1 _
      · exact grown_put (grown_put HG2.out (Nat.le_refl _) 0 _) (Nat.le_refl _) 1 _
    · have HT : Hid (TCell (row.drop place) c 0 [] d []) := Lib.hid (⟨n, _, c1, HN.out, .inl ⟨HN1.out.1, .inl ⟨by rw [← HD.out]; exact h0, rfl, rfl, HD.out, rfl⟩⟩⟩)
      have H0 := Lib.hid h0
      rw [errV_pos h0]
      clear h0
      go_wp2
      refine bodyPost_ret (v := .agg #[.int .i64 0, .slice none 0 0]) (by simp [results, Tryz.results259, go_sem, y0, y1]) rfl ⟨.slice none 0 0, 0, [], pl1, d, [], rfl, HT.out, ?_, fun h => absurd h H0.out, owns_nil _ _ _ _, ?_⟩
      · exact (HX2.out.putC HR2.out 0 _).putC (heap_setCell_same _ _ 0 _ _ _ HR2.out) 1 _
      · exact grown_put (grown_put HG2.out (Nat.le_refl _) 0 _) (Nat.le_refl _) 1 _

end Go.Proofs.YtlckadlkgjfjcaaGreatDoor
