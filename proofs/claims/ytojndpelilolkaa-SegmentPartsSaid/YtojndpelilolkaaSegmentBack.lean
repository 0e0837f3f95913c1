/- SegmentBack's walk. -/
import Derived.Test.YtojndpelilolkaaSgF
import Derived.Test.YtojndpelilolkaaSgI
import Derived.Test.YtojndpelilolkaaSgQ
import Derived.Test.YtojndpelilolkaaIsA
import Derived.Deep.Cut
import Derived.Deep.CutBlock
namespace Go.Proofs.Ytojndpelilolkaa
open Go.RowKit

theorem longB_few {cs : List IC} {m : Int} (h : longB cs m = false) : (cs.length : Int) ≤ m ∧ ∀ c ∈ cs, c.2.length ≤ 100 := by
  unfold longB at h
  simp only [Bool.or_eq_false_iff, decide_eq_false_iff_not, List.any_eq_false, decide_eq_true_eq] at h
  exact ⟨by omega, fun c hc => by have := h.1 c hc; omega⟩

theorem sgC_take {f : Int} {cs : List IC} (h : sgC f cs = 0) (r : Nat) (hr : r ≤ cs.length) : sgC f (cs.take r) = 0 := by
  obtain ⟨h0, h1, h2, h3⟩ := sgC_zero h
  have hl : (cs.take r).length = r := by rw [List.length_take]; omega
  exact sgC_good h0 (by rw [hl]; omega) (by rw [hl]; omega) fun c hc => h3 c (List.mem_of_mem_take hc)
theorem sgC_drop {f : Int} {cs : List IC} (h : sgC f cs = 0) (r : Nat) (hr : r ≤ cs.length) : sgC (f + (r : Int)) (cs.drop r) = 0 := by
  obtain ⟨h0, h1, h2, h3⟩ := sgC_zero h
  have hl : (cs.drop r).length = cs.length - r := List.length_drop
  exact sgC_good (by omega) (by rw [hl]; omega) (by rw [hl]; omega) fun c hc => h3 c (List.mem_of_mem_drop hc)
theorem sgS_head {f : Int} {cs : List IC} (h : sgC f cs = 0) (r : Nat) (hr : r ≤ cs.length) : sgS f cs f (f + (r : Int)) = (f, cs.take r, 0) := by
  unfold sgS
  rw [if_neg (by rw [h]; decide), if_neg (by omega), show (f - f).toNat = 0 by omega, show (f + (r : Int) - f).toNat = r by omega, List.drop_zero]
theorem sgS_tail {f : Int} {cs : List IC} (h : sgC f cs = 0) (r : Nat) (hr : r ≤ cs.length) : sgS f cs (f + (r : Int)) (f + (cs.length : Int)) = (f + (r : Int), cs.drop r, 0) := by
  unfold sgS
  rw [if_neg (by rw [h]; decide), if_neg (by omega), show (f + (r : Int) - f).toNat = r by omega, show (f + (cs.length : Int) - (f + (r : Int))).toNat = cs.length - r by omega, List.take_of_length_le (by rw [List.length_drop]; exact Nat.le_refl _)]
theorem sgJ_parts {f : Int} {cs : List IC} (h : sgC f cs = 0) (r : Nat) (hr : r ≤ cs.length) : sgJ f (cs.take r) (f + (r : Int)) (cs.drop r) = (f, cs, 0) := by
  have hl : (cs.take r).length = r := by rw [List.length_take]; omega
  unfold sgJ
  rw [if_neg (by rw [sgC_take h r hr]; decide), if_neg (by rw [sgC_drop h r hr]; decide), if_neg (by rw [hl]; simp), List.take_append_drop, if_neg (by rw [h]; decide)]
theorem sgSame_self (f : Int) (cs : List IC) : sgSame f cs f cs = true := by unfold sgSame; simp
theorem sg_place (a f : Int) (n : Nat) (hf0 : 0 ≤ f) (hf1 : f + (n : Int) ≤ 1048576) (hn : n ≤ 80) : ∃ r : Nat, r ≤ n ∧ wrap64 ((n : Int) + 1) = (n : Int) + 1 ∧ IntKind.u64.wrap ((n : Int) + 1) = (n : Int) + 1 ∧ ¬ ((n : Int) + 1 = 0) ∧
    (IntKind.u64.wrap a).tmod ((n : Int) + 1) = (r : Int) ∧ wrap64 (r : Int) = (r : Int) ∧ wrap64 (f + (r : Int)) = f + (r : Int) ∧ wrap64 (f + (n : Int)) = f + (n : Int) := by
  have h0 : 0 ≤ IntKind.u64.wrap a := by rw [IntKind.wrap_u64]; omega
  have h1 := Int.tmod_nonneg ((n : Int) + 1) h0
  have h2 := Int.tmod_lt_of_pos (IntKind.u64.wrap a) (show (0 : Int) < (n : Int) + 1 by omega)
  generalize (IntKind.u64.wrap a).tmod ((n : Int) + 1) = y at *
  exact ⟨y.toNat, by omega, w64_in (by omega) (by omega), IntWalk.u64_in _ (by omega), by omega, by omega, w64_in (by omega) (by omega), w64_in (by omega) (by omega), w64_in (by omega) (by omega)⟩
theorem seg_bytes {f : Int} {cs : List IC} (h : sgC f cs = 0) (h8 : ∀ c ∈ cs, ∀ y ∈ c.2, y < 256) : (∀ y ∈ fr (sgtext f cs), y < 256) ∧ (fr (sgtext f cs)).length ≤ 7000 := by
  obtain ⟨h1, h2⟩ := sgtext_len h h8
  have h3 : U64 (sgtext f cs).length := by unfold U64; omega
  refine ⟨fr_byte h2 h3, ?_⟩
  rw [fr_length]
  unfold fsize
  have := enc_len10 h3
  omega

set_option maxHeartbeats 8000000 in
set_option maxRecDepth 100000 in
theorem segmentBack_walk (f at_ : Int) (v bv : Value) (cs : List IC) (b : List Nat) (w : World) (B : Nat → Prop) (h : CellsAt w B v cs) (h8 : ∀ c ∈ cs, ∀ y ∈ c.2, y < 256) (hcl : cs.length ≤ 9223372036854775807) (hat : -9223372036854775808 ≤ at_ ∧ at_ ≤ 9223372036854775807) (hb : Reads w .u8 bv b) (hb8 : ∀ y ∈ b, y < 256) :
    Calls Try.prog 5 #[.agg #[.int .i64 f, v], .int .i64 at_, bv] w fun e w' => e = .returned (.bool true) ∧ Below w.heap.size w w' := by
  obtain ⟨ao, cap, rfl, l1, m1, _⟩ := h.val
  obtain ⟨aob, capb, hbv, _, _, _⟩ := hb.val
  obtain ⟨W1, hW1⟩ : ∃ W1, W1 = w.alloc (.cells #[.int .i64 f, .slice ao cs.length cap] 24) := ⟨_, rfl⟩
  have hb1 : Below w.heap.size w W1 := by rw [hW1]; exact (Below.refl _ _).alloc (Nat.le_refl _) _
  have hx1 : SgB W1 w.heap.size (.int .i64 f) (.slice ao cs.length cap) := by rw [hW1]; exact sgb_new _ _ _
  have HX1 := Lib.hid hx1
  have HB1 := Lib.hid hb1
  have HR1 := Lib.hid (h.old hb1)
  have HRB1 := Lib.hid (hb.new hb1)
  have H8 := Lib.hid h8
  have HB8 := Lib.hid hb8
  have HA := Lib.hid (alive14_any W1)
  have HCL := Lib.hid hcl
  have HAT := Lib.hid hat
  obtain ⟨n, hn⟩ : ∃ n, n = cs.length := ⟨_, rfl⟩
  obtain ⟨nb, hnb⟩ : ∃ n, n = b.length := ⟨_, rfl⟩
  rw [← hn] at HX1 HR1 hW1 ⊢
  rw [← hnb] at hbv
  subst hbv
  have HN := Lib.hid hn
  have HNB := Lib.hid hnb
  have HW1 := Lib.hid hW1
  have HX : Hid (∀ W, Below W1.heap.size W1 W → W.cell? ⟨w.heap.size, 0, none⟩ = some (.int .i64 f) ∧ W.cell? ⟨w.heap.size, 1, none⟩ = some (.slice ao n cap)) := Lib.hid fun W hb => by
    obtain ⟨p0, p1, _, _⟩ := (HX1.out.old hb).x
    exact ⟨p0, p1⟩
  clear h h8 hcl hat hb hb8 l1 m1 hb1 hx1 hn hnb hW1
  go_enter Try.func5, Try.ntmps5
  go_wp2_with fail
  rw [← HW1.out]
  refine HA.out.mono ?_
  rintro e w2 ⟨rfl, hb2⟩
  have HB2 := Lib.hid hb2
  obtain ⟨x0, x1⟩ := HX.out w2 hb2
  have HLG := Lib.hid (long_any _ cs 80 w2 B (HR1.out.old hb2) HCL.out)
  clear hb2
  go_wp2_with fail
  refine HLG.out.mono ?_
  rintro e w3 ⟨rfl, hb3⟩
  have HB3 := Lib.hid (HB2.out.trans (hb3.mono HB2.out.size))
  have HBW3 := Lib.hid (HB1.out.trans (HB3.out.mono HB1.out.size))
  clear hb3 x0 x1
  by_cases hlg : longB cs 80 = true
  · rw [hlg]
    go_wp2
    go_ret
    exact ⟨rfl, HBW3.out⟩
  have hlg : longB cs 80 = false := by simpa using hlg
  have HFW := Lib.hid (longB_few hlg)
  rw [hlg]
  by_cases hnb : (nb : Int) > 6000
  · go_wp2
    go_ret
    exact ⟨rfl, HBW3.out⟩
  have HPUT := Lib.hid (sgput_any f _ cs w3 B (HR1.out.old HB3.out) H8.out)
  obtain ⟨x0, x1⟩ := HX.out w3 HB3.out
  go_wp2_with fail
  clear hnb hlg
  refine HPUT.out.mono ?_
  rintro e w4 ⟨hb4, ⟨hz, v4, rfl, ho4⟩ | ⟨hne, rfl⟩⟩
  rotate_left
  · have HB4 := Lib.hid (HB3.out.trans (hb4.mono HB3.out.size))
    rw [errV_pos hne]
    clear hb4 hne
    have HTK := Lib.hid (sgtake_any _ b w4 (HRB1.out.new HB4.out) HB8.out (by rw [← HNB.out]; omega))
    have HBW4 : Hid (Below w.heap.size w w4) := Lib.hid (HB1.out.trans (HB4.out.mono HB1.out.size))
    clear x0 x1
    go_wp2_with fail
    refine HTK.out.mono ?_
    rintro e w5 ⟨hb5, f5, cs5, c5, v5, hrs5, rfl, hc5⟩
    obtain ⟨ao5, cap5, rfl, _, _, _⟩ := hc5.val
    obtain ⟨n5, hn5⟩ : ∃ n, n = cs5.length := ⟨_, rfl⟩
    rw [← hn5] at hc5 ⊢
    obtain ⟨W6, hW6⟩ : ∃ W, W = w5.alloc (.cells #[.int .i64 f5, .slice ao5 n5 cap5] 24) := ⟨_, rfl⟩
    have hb6 : Below w5.heap.size w5 W6 := by rw [hW6]; exact (Below.refl _ _).alloc (Nat.le_refl _) _
    have hx6 : SgB W6 w5.heap.size (.int .i64 f5) (.slice ao5 n5 cap5) := by rw [hW6]; exact sgb_new _ _ _
    have HX6 := Lib.hid hx6
    have hb46 : Below w4.heap.size w4 W6 := hb5.trans (hb6.mono hb5.size)
    have HB6 : Hid (Below w.heap.size w W6) := Lib.hid (HBW4.out.trans (hb46.mono HBW4.out.size))
    have HC6 := Lib.hid (hc5.old hb6)
    have HRB6 := Lib.hid ((HRB1.out.new HB4.out).new hb46)
    have HRS := Lib.hid hrs5
    have HN5 := Lib.hid hn5
    obtain ⟨y0, y1, _, _⟩ := hx6.x
    rw [hW6] at y0 y1
    have HW6 := Lib.hid hW6
    clear hb5 hrs5 hc5 hb6 hx6 hb46 hW6 hn5
    by_cases h5 : c5 = 0
    rotate_left
    · obtain ⟨q1, q2⟩ := HRS.out.bad h5
      have q3 := HN5.out
      rw [q2] at q3
      simp only [List.length_nil] at q3
      subst q1 q3
      rw [errV_pos h5]
      clear h5 q2
      go_wp2
      go_ret
      exact ⟨rfl, by rw [← HW6.out]; exact HB6.out⟩
    subst h5
    obtain ⟨hbk, hz5, h85⟩ := HRS.out.back HB8.out
    have HBK := Lib.hid hbk
    have HPX := Lib.hid (sgput_any f5 _ cs5 W6 _ HC6.out h85)
    have HZ5 := Lib.hid hz5
    have H85 := Lib.hid h85
    rw [errV_zero]
    clear hbk hz5 h85
    go_wp2_with fail
    rw [← HW6.out]
    clear y0 y1
    refine HPX.out.mono ?_
    rintro e w7 ⟨hb7, ⟨_, v7, rfl, ho7⟩ | ⟨hne, _⟩⟩
    rotate_left
    · exact absurd HZ5.out hne
    have HNBY := Lib.hid (numBytes_any v7 _ (fr (sgtext f5 cs5)) b w7 ho7.reads (HRB6.out.new hb7) (seg_bytes HZ5.out H85.out).1 HB8.out)
    have HB7 : Hid (Below w.heap.size w w7) := Lib.hid (HB6.out.trans (hb7.mono HB6.out.size))
    obtain ⟨ao7, cap7, hv7, _, _, _⟩ := ho7.reads.val
    obtain ⟨n7, hn7⟩ : ∃ n, n = (fr (sgtext f5 cs5)).length := ⟨_, rfl⟩
    rw [← hn7] at hv7
    subst hv7
    rw [decide_eq_true HBK.out.symm] at HNBY
    clear hb7 ho7 hn7
    go_wp2_with fail
    refine HNBY.out.mono ?_
    rintro e w8 hw8
    obtain ⟨rfl, rfl⟩ := hw8
    go_wp2
    go_ret
    exact ⟨rfl, HB7.out⟩

  have HZ := Lib.hid hz
  have HB4 := Lib.hid (HB3.out.trans (hb4.mono HB3.out.size))
  have HSB := Lib.hid (seg_bytes hz H8.out)
  have HTP := Lib.hid (sgtake_any v4 (fr (sgtext f cs)) w4 ho4.reads HSB.out.1 (by have := HSB.out.2; omega))
  obtain ⟨ao4, cap4, hv4, _, _, _⟩ := ho4.reads.val
  obtain ⟨n4, hn4⟩ : ∃ n, n = (fr (sgtext f cs)).length := ⟨_, rfl⟩
  rw [← hn4] at hv4
  subst hv4
  clear hb4 ho4 hn4 hz x0 x1
  go_wp2_with fail
  refine HTP.out.mono ?_
  rintro e w5 ⟨hb5, f5, cs5, c5, v5, hrs5, rfl, hc5⟩
  obtain ⟨hq1, hq2, hq3⟩ := (rseg_put HZ.out H8.out).unique hrs5
  subst hq1 hq2 hq3
  obtain ⟨ao5, cap5, rfl, _, _, _⟩ := hc5.val
  rw [← HN.out] at hc5 ⊢
  rw [errV_zero]
  obtain ⟨W6, hW6⟩ : ∃ W, W = w5.alloc (.cells #[.int .i64 f, .slice ao5 n cap5] 24) := ⟨_, rfl⟩
  have hb6 : Below w5.heap.size w5 W6 := by rw [hW6]; exact (Below.refl _ _).alloc (Nat.le_refl _) _
  have hx6 : SgB W6 w5.heap.size (.int .i64 f) (.slice ao5 n cap5) := by rw [hW6]; exact sgb_new _ _ _
  have HX6 := Lib.hid hx6
  have hb46 : Below w4.heap.size w4 W6 := hb5.trans (hb6.mono hb5.size)
  have HB6 : Hid (Below W1.heap.size W1 W6) := Lib.hid (HB4.out.trans (hb46.mono HB4.out.size))
  have HC6 := Lib.hid (hc5.old hb6)
  obtain ⟨qx, hqx⟩ : ∃ q, q = w5.heap.size := ⟨_, rfl⟩
  rw [← hqx] at HX6
  have HQX := Lib.hid hqx
  have HW6 := Lib.hid hW6
  obtain ⟨r, hr1, hn1, hu1, hnz, hr3, hwr, hwk, hwe⟩ := sg_place at_ f n (sgC_zero HZ.out).1 (by have := (sgC_zero HZ.out).2.1; rw [← HN.out] at this; exact this) (by have := (sgC_zero HZ.out).2.2.1; rw [← HN.out] at this; exact Nat.le_trans this (by decide))
  have HRN : Hid (r ≤ cs.length) := Lib.hid (by rw [← HN.out]; exact hr1)
  have HWE := Lib.hid hwe
  clear hb5 hrs5 hc5 hb6 hx6 hb46 hqx hW6 hr1 hwe
  obtain ⟨x0, x1⟩ := HX.out W6 HB6.out
  rw [HW6.out] at x0 x1
  go_upto_region 8 with fail
  rw [← HW6.out, ← HQX.out]
  rw [← HW6.out] at x0 x1
  go_cut [11] from 38 to 54 (fun k wx => k = .int .i64 (f + (r : Int)) ∧ ∃ nd, wx = W6.drewN nd)
  case first =>
    go_quiet (fail)
    go_wp2
    go_meet
    case rel => exact ⟨congrArg (Value.int .i64) hwk, _, rfl⟩
  case rest =>
    obtain ⟨rfl, nd, hwc⟩ := hcut
    have HD7 : Hid (Below W6.heap.size W6 wc) := Lib.hid (by rw [hwc]; exact ⟨rfl, rfl, rfl, Nat.le_refl _, fun _ _ => rfl⟩)
    have HB7 : Hid (Below W1.heap.size W1 wc) := Lib.hid (HB6.out.trans (HD7.out.mono HB6.out.size))
    have HSL := Lib.hid (sgslice_any f f (f + (r : Int)) _ cs wc B (HR1.out.old HB7.out))
    rw [sgS_head HZ.out r HRN.out] at HSL
    clear hwc x0 x1 hn1 hu1 hnz hr3 hwr hwk
    obtain ⟨x0, x1⟩ := HX.out wc HB7.out
    go_wp2_with fail
    refine HSL.out.mono ?_
    rintro e w8 ⟨hb8, v8, rfl, hc8⟩
    simp only at hc8
    obtain ⟨ao8, cap8, rfl, _, _, _⟩ := hc8.val
    obtain ⟨n8, hn8⟩ : ∃ n, n = (cs.take r).length := ⟨_, rfl⟩
    rw [← hn8] at hc8 ⊢
    rw [errV_zero]
    obtain ⟨W9, hW9⟩ : ∃ W, W = w8.alloc (.cells #[.int .i64 f, .slice ao8 n8 cap8] 24) := ⟨_, rfl⟩
    have hb9 : Below w8.heap.size w8 W9 := by rw [hW9]; exact (Below.refl _ _).alloc (Nat.le_refl _) _
    have hx9 : SgB W9 w8.heap.size (.int .i64 f) (.slice ao8 n8 cap8) := by rw [hW9]; exact sgb_new _ _ _
    have hb79 : Below wc.heap.size wc W9 := hb8.trans (hb9.mono hb8.size)
    have HB9 : Hid (Below W1.heap.size W1 W9) := Lib.hid (HB7.out.trans (hb79.mono HB7.out.size))
    have HC9 := Lib.hid (hc8.old hb9)
    have HX9 := Lib.hid hx9
    have HXX9 : Hid (SgB W9 qx (.int .i64 f) (.slice ao5 n cap5)) := Lib.hid ((HX6.out.old HD7.out).old hb79)
    have HCX9 := Lib.hid ((HC6.out.old HD7.out).old hb79)
    obtain ⟨qh, hqh⟩ : ∃ q, q = w8.heap.size := ⟨_, rfl⟩
    rw [← hqh] at HX9
    have HQH := Lib.hid hqh
    have HW9 := Lib.hid hW9
    clear hb8 hc8 hn8 hb9 hx9 hb79 hqh hW9 x0 x1
    obtain ⟨x0, x1⟩ := HX.out W9 HB9.out
    rw [HW9.out] at x0 x1
    go_upto_region 10 with fail
    rw [← HW9.out, ← HQH.out]
    rw [← HW9.out] at x0 x1
    have HENA : Hid (∀ W, Calls Try.prog 13 #[.agg #[.int .i64 f, .slice ao n cap]] W fun e w' => e = .returned (.int .i64 (f + (n : Int))) ∧ Below W.heap.size W w') := Lib.hid fun W => by
      have := sgend_any f ao n cap W
      rw [HWE.out] at this
      exact this
    have HSLB : Hid (∀ W, Below W9.heap.size W9 W → Calls Try.prog 23 #[.agg #[.int .i64 f, .slice ao n cap], .int .i64 (f + (r : Int)), .int .i64 (f + (n : Int))] W (SgRes (f + (r : Int), cs.drop r, 0) W)) := Lib.hid fun W hb => by
      have := sgslice_any f (f + (r : Int)) (f + (n : Int)) _ cs W B (HR1.out.old (HB9.out.trans (hb.mono HB9.out.size)))
      rw [HN.out, sgS_tail HZ.out r HRN.out, ← HN.out] at this
      exact this
    go_cut [14, 15] from 38 to 70 (fun pv ev wx => ∃ (q : Nat) (v' : Value), pv = .pointer (some ⟨q, 0, none⟩) ∧ ev = .nilIface ∧ SgB wx q (.int .i64 (f + (r : Int))) v' ∧ CellsAt wx (fun _ => True) v' (cs.drop r) ∧ Below W9.heap.size W9 wx ∧ W9.heap.size ≤ q)
    case first =>
      go_region_held3 (fun w' => w'.cell? ⟨w.heap.size, 0, none⟩ = some (.int .i64 f) ∧ w'.cell? ⟨w.heap.size, 1, none⟩ = some (.slice ao n cap)) (go_keep) (first
      | (go_at_call 13
         with_reducible refine (HENA.out (W9.alloc (.cells #[.int .i64 0, .slice none 0 0] 24)).drew).mono ?_
         rintro e we ⟨rfl, hbe⟩
         have hal : Below W9.heap.size W9 (W9.alloc (.cells #[.int .i64 0, .slice none 0 0] 24)).drew := ((Below.refl _ _).alloc (Nat.le_refl _) _).drew
         have HBE : Hid (Below W9.heap.size W9 we) := Lib.hid (hal.trans (hbe.mono hal.size))
         have hz0 : SgB (W9.alloc (.cells #[.int .i64 0, .slice none 0 0] 24)).drew W9.heap.size (.int .i64 0) (.slice none 0 0) := sgb_new W9 _ _
         have HBZ : Hid (SgB we W9.heap.size (.int .i64 0) (.slice none 0 0)) := Lib.hid (hz0.old hbe)
         obtain ⟨x0, x1⟩ := HX.out we (HB9.out.trans (HBE.out.mono HB9.out.size))
         clear hal hbe hz0)
      | (go_at_call 13
         with_reducible refine (HENA.out W9.drew).mono ?_
         rintro e we ⟨rfl, hbe⟩
         have hal : Below W9.heap.size W9 W9.drew := (Below.refl _ _).drew
         have HBE : Hid (Below W9.heap.size W9 we) := Lib.hid (hal.trans (hbe.mono hal.size))
         have HBN : Hid (Below we.heap.size we we) := Lib.hid (Below.refl _ _)
         obtain ⟨x0, x1⟩ := HX.out we (HB9.out.trans (HBE.out.mono HB9.out.size))
         clear hal hbe)
      | (go_at_call 23
         with_reducible refine (HSLB.out (we.alloc (.cells #[.int .i64 0, .slice none 0 0] 24)) (HBE.out.alloc HBE.out.size _)).mono ?_
         rintro e ws ⟨hbs, v14, rfl, hcs⟩
         simp only at hcs
         obtain ⟨ao14, cap14, hv14, _, _, _⟩ := hcs.val
         obtain ⟨n14, hn14⟩ : ∃ n, n = (cs.drop r).length := ⟨_, rfl⟩
         rw [← hn14] at hv14
         subst hv14
         clear hn14
         have hal : Below W9.heap.size W9 (we.alloc (.cells #[.int .i64 0, .slice none 0 0] 24)) := HBE.out.alloc HBE.out.size _
         have HBS : Hid (Below W9.heap.size W9 ws) := Lib.hid (hal.trans (hbs.mono hal.size))
         have hbx : SgB ws we.heap.size (.int .i64 0) (.slice none 0 0) := (sgb_new we _ _).old hbs
         have hqq : W9.heap.size ≤ we.heap.size := HBE.out.size
         have hqne : ∀ j, (we.alloc (.cells #[.int .i64 0, .slice none 0 0] 24)).heap.size ≤ j → j ≠ we.heap.size := fun j hj => by simp at hj; omega
         clear hal
         obtain ⟨u0, u1, g0, g1⟩ := hbx.x
         have HSX : Hid (SgB ((ws.setCell ⟨we.heap.size, 0, none⟩ (.int .i64 (f + (r : Int)))).setCell ⟨we.heap.size, 1, none⟩ (.slice ao14 n14 cap14)) (we.heap.size) (.int .i64 (f + (r : Int))) (.slice ao14 n14 cap14)) := Lib.hid (hbx.set _ _)
         have HCX : Hid (CellsAt ((ws.setCell ⟨we.heap.size, 0, none⟩ (.int .i64 (f + (r : Int)))).setCell ⟨we.heap.size, 1, none⟩ (.slice ao14 n14 cap14)) (fun _ => True) (.slice ao14 n14 cap14) (cs.drop r)) := Lib.hid (sg_keep_set hcs fun j hj => hqne j hj)
         have HBX : Hid (Below W9.heap.size W9 ((ws.setCell ⟨we.heap.size, 0, none⟩ (.int .i64 (f + (r : Int)))).setCell ⟨we.heap.size, 1, none⟩ (.slice ao14 n14 cap14))) := Lib.hid ((HBS.out.setCell hqq _).setCell hqq _)
         have HQX : Hid (W9.heap.size ≤ we.heap.size) := Lib.hid hqq
         obtain ⟨x0, x1⟩ := HX.out _ (HB9.out.trans (HBX.out.mono HB9.out.size))
         obtain ⟨z0, z1⟩ := HX.out ws (HB9.out.trans (HBS.out.mono HB9.out.size))
         clear hbx hcs hqne hqq hbs)
      | (go_at_call 23
         have hzz := HBZ.out
         with_reducible refine (HSLB.out we HBE.out).mono ?_
         rintro e ws ⟨hbs, v14, rfl, hcs⟩
         simp only at hcs
         obtain ⟨ao14, cap14, hv14, _, _, _⟩ := hcs.val
         obtain ⟨n14, hn14⟩ : ∃ n, n = (cs.drop r).length := ⟨_, rfl⟩
         rw [← hn14] at hv14
         subst hv14
         clear hn14
         have HBS : Hid (Below W9.heap.size W9 ws) := Lib.hid (HBE.out.trans (hbs.mono HBE.out.size))
         have hbx : SgB ws W9.heap.size (.int .i64 0) (.slice none 0 0) := hzz.old hbs
         have hqq : W9.heap.size ≤ W9.heap.size := Nat.le_refl _
         have hqne : ∀ j, we.heap.size ≤ j → j ≠ W9.heap.size := fun j hj => by have := hzz.lt; omega
         clear hzz
         obtain ⟨u0, u1, g0, g1⟩ := hbx.x
         have HSX : Hid (SgB ((ws.setCell ⟨W9.heap.size, 0, none⟩ (.int .i64 (f + (r : Int)))).setCell ⟨W9.heap.size, 1, none⟩ (.slice ao14 n14 cap14)) (W9.heap.size) (.int .i64 (f + (r : Int))) (.slice ao14 n14 cap14)) := Lib.hid (hbx.set _ _)
         have HCX : Hid (CellsAt ((ws.setCell ⟨W9.heap.size, 0, none⟩ (.int .i64 (f + (r : Int)))).setCell ⟨W9.heap.size, 1, none⟩ (.slice ao14 n14 cap14)) (fun _ => True) (.slice ao14 n14 cap14) (cs.drop r)) := Lib.hid (sg_keep_set hcs fun j hj => hqne j hj)
         have HBX : Hid (Below W9.heap.size W9 ((ws.setCell ⟨W9.heap.size, 0, none⟩ (.int .i64 (f + (r : Int)))).setCell ⟨W9.heap.size, 1, none⟩ (.slice ao14 n14 cap14))) := Lib.hid ((HBS.out.setCell hqq _).setCell hqq _)
         have HQX : Hid (W9.heap.size ≤ W9.heap.size) := Lib.hid hqq
         obtain ⟨x0, x1⟩ := HX.out _ (HB9.out.trans (HBX.out.mono HB9.out.size))
         obtain ⟨z0, z1⟩ := HX.out ws (HB9.out.trans (HBS.out.mono HB9.out.size))
         clear hbx hcs hqne hqq hbs)
      | (go_at_call 23
         have hzn := HBN.out
         with_reducible refine (HSLB.out we HBE.out).mono ?_
         rintro e ws ⟨hbs, v14, rfl, hcs⟩
         simp only at hcs
         obtain ⟨ao14, cap14, hv14, _, _, _⟩ := hcs.val
         obtain ⟨n14, hn14⟩ : ∃ n, n = (cs.drop r).length := ⟨_, rfl⟩
         rw [← hn14] at hv14
         subst hv14
         clear hn14
         have HBS : Hid (Below W9.heap.size W9 ws) := Lib.hid (HBE.out.trans (hbs.mono HBE.out.size))
         have hal : Below ws.heap.size ws (ws.alloc (.cells #[.int .i64 (f + (r : Int)), .slice ao14 n14 cap14] 24)) := (Below.refl _ _).alloc (Nat.le_refl _) _
         have HSX : Hid (SgB (ws.alloc (.cells #[.int .i64 (f + (r : Int)), .slice ao14 n14 cap14] 24)) ws.heap.size (.int .i64 (f + (r : Int))) (.slice ao14 n14 cap14)) := Lib.hid (sgb_new _ _ _)
         have HCX : Hid (CellsAt (ws.alloc (.cells #[.int .i64 (f + (r : Int)), .slice ao14 n14 cap14] 24)) (fun _ => True) (.slice ao14 n14 cap14) (cs.drop r)) := Lib.hid ((hcs.old hal).mono fun _ _ _ => trivial)
         have HBX : Hid (Below W9.heap.size W9 (ws.alloc (.cells #[.int .i64 (f + (r : Int)), .slice ao14 n14 cap14] 24))) := Lib.hid (HBS.out.trans (hal.mono HBS.out.size))
         have HQX : Hid (W9.heap.size ≤ ws.heap.size) := Lib.hid HBS.out.size
         obtain ⟨x0, x1⟩ := HX.out ws (HB9.out.trans (HBS.out.mono HB9.out.size))
         clear hbs hcs hal hzn))
      all_goals
        go_wp2
        go_meet
        case rel => exact ⟨_, _, rfl, by first | rfl | exact errV_zero, HSX.out, HCX.out, HBX.out, HQX.out⟩
    case rest =>
      obtain ⟨q14, v14, rfl, rfl, hs14, hc14, hb14, hq14⟩ := hcut
      obtain ⟨ao14, cap14, hv14, _, _, _⟩ := hc14.val
      obtain ⟨n14, hn14⟩ : ∃ n, n = (cs.drop r).length := ⟨_, rfl⟩
      rw [← hn14] at hv14
      subst hv14
      have HS14 := Lib.hid hs14
      have HC14 := Lib.hid hc14
      have HB14 := Lib.hid hb14
      have HB14W : Hid (Below W1.heap.size W1 wc) := Lib.hid (HB9.out.trans (hb14.mono HB9.out.size))
      have HJO := Lib.hid (sgjoin_any f (f + (r : Int)) _ _ (cs.take r) (cs.drop r) wc _ _ (HC9.out.old hb14) hc14)
      rw [sgJ_parts HZ.out r HRN.out] at HJO
      obtain ⟨p0, p1, _, _⟩ := (HX9.out.old hb14).x
      obtain ⟨q0, q1, _, _⟩ := hs14.x
      clear x0 x1 hs14 hc14 hb14 hq14 hn14
      obtain ⟨x0, x1⟩ := HX.out wc HB14W.out
      go_wp2_with fail
      refine HJO.out.mono ?_
      rintro e w15 ⟨hb15, v15, rfl, hc15⟩
      simp only at hc15
      obtain ⟨ao15, cap15, rfl, _, _, _⟩ := hc15.val
      rw [← HN.out] at hc15 ⊢
      rw [errV_zero]
      obtain ⟨W16, hW16⟩ : ∃ W, W = w15.alloc (.cells #[.int .i64 f, .slice ao15 n cap15] 24) := ⟨_, rfl⟩
      have hb16 : Below w15.heap.size w15 W16 := by rw [hW16]; exact (Below.refl _ _).alloc (Nat.le_refl _) _
      have hx16 : SgB W16 w15.heap.size (.int .i64 f) (.slice ao15 n cap15) := by rw [hW16]; exact sgb_new _ _ _
      have hbc16 : Below wc.heap.size wc W16 := hb15.trans (hb16.mono hb15.size)
      have HB16 : Hid (Below W1.heap.size W1 W16) := Lib.hid (HB14W.out.trans (hbc16.mono HB14W.out.size))
      have HC16 := Lib.hid (hc15.old hb16)
      have HXX16 := Lib.hid ((HXX9.out.old HB14.out).old hbc16)
      have HCX16 := Lib.hid ((HCX9.out.old HB14.out).old hbc16)
      have HX16 := Lib.hid hx16
      obtain ⟨qj, hqj⟩ : ∃ q, q = w15.heap.size := ⟨_, rfl⟩
      rw [← hqj] at HX16
      have HQJ := Lib.hid hqj
      have HW16 := Lib.hid hW16
      have HSM1 := Lib.hid (sgsame_any f f _ _ cs cs W16 _ B HCX16.out (HR1.out.old HB16.out) H8.out H8.out)
      rw [sgSame_self] at HSM1
      obtain ⟨y0, y1, _, _⟩ := HXX16.out.x
      clear hb15 hc15 hb16 hx16 hbc16 hqj hW16 x0 x1 p0 p1 q0 q1
      obtain ⟨x0, x1⟩ := HX.out W16 HB16.out
      rw [HW16.out] at x0 x1 y0 y1
      go_wp2_with fail
      rw [← HW16.out, ← HQJ.out]
      clear x0 x1 y0 y1
      refine HSM1.out.mono ?_
      rintro e w17 ⟨rfl, hb17⟩
      have HB17 : Hid (Below W1.heap.size W1 w17) := Lib.hid (HB16.out.trans (hb17.mono HB16.out.size))
      have HSM2 := Lib.hid (sgsame_any f f _ _ cs cs w17 _ B (HC16.out.old hb17) (HR1.out.old HB17.out) H8.out H8.out)
      rw [sgSame_self] at HSM2
      obtain ⟨y0, y1, _, _⟩ := (HX16.out.old hb17).x
      obtain ⟨x0, x1⟩ := HX.out w17 HB17.out
      clear hb17
      go_wp2_with fail
      refine HSM2.out.mono ?_
      rintro e w18 ⟨rfl, hb18⟩
      have HB18 : Hid (Below W1.heap.size W1 w18) := Lib.hid (HB17.out.trans (hb18.mono HB17.out.size))
      clear hb18 x0 x1 y0 y1
      obtain ⟨x0, x1⟩ := HX.out w18 HB18.out
      have HTK := Lib.hid (sgtake_any _ b w18 (HRB1.out.new HB18.out) HB8.out (by rw [← HNB.out]; omega))
      have HBW4 : Hid (Below w.heap.size w w18) := Lib.hid (HB1.out.trans (HB18.out.mono HB1.out.size))
      clear x0 x1
      go_wp2_with fail
      refine HTK.out.mono ?_
      rintro e w5 ⟨hb5, f5, cs5, c5, v5, hrs5, rfl, hc5⟩
      obtain ⟨ao5, cap5, rfl, _, _, _⟩ := hc5.val
      obtain ⟨n5, hn5⟩ : ∃ n, n = cs5.length := ⟨_, rfl⟩
      rw [← hn5] at hc5 ⊢
      obtain ⟨W6, hW6⟩ : ∃ W, W = w5.alloc (.cells #[.int .i64 f5, .slice ao5 n5 cap5] 24) := ⟨_, rfl⟩
      have hb6 : Below w5.heap.size w5 W6 := by rw [hW6]; exact (Below.refl _ _).alloc (Nat.le_refl _) _
      have hx6 : SgB W6 w5.heap.size (.int .i64 f5) (.slice ao5 n5 cap5) := by rw [hW6]; exact sgb_new _ _ _
      have HX6 := Lib.hid hx6
      have hb46 : Below w18.heap.size w18 W6 := hb5.trans (hb6.mono hb5.size)
      have HB6 : Hid (Below w.heap.size w W6) := Lib.hid (HBW4.out.trans (hb46.mono HBW4.out.size))
      have HC6 := Lib.hid (hc5.old hb6)
      have HRB6 := Lib.hid ((HRB1.out.new HB18.out).new hb46)
      have HRS := Lib.hid hrs5
      have HN5 := Lib.hid hn5
      obtain ⟨y0, y1, _, _⟩ := hx6.x
      rw [hW6] at y0 y1
      have HW6 := Lib.hid hW6
      clear hb5 hrs5 hc5 hb6 hx6 hb46 hW6 hn5
      by_cases h5 : c5 = 0
      rotate_left
      · obtain ⟨q1, q2⟩ := HRS.out.bad h5
        have q3 := HN5.out
        rw [q2] at q3
        simp only [List.length_nil] at q3
        subst q1 q3
        rw [errV_pos h5]
        clear h5 q2
        go_wp2
        go_ret
        exact ⟨rfl, by rw [← HW6.out]; exact HB6.out⟩
      subst h5
      obtain ⟨hbk, hz5, h85⟩ := HRS.out.back HB8.out
      have HBK := Lib.hid hbk
      have HPX := Lib.hid (sgput_any f5 _ cs5 W6 _ HC6.out h85)
      have HZ5 := Lib.hid hz5
      have H85 := Lib.hid h85
      rw [errV_zero]
      clear hbk hz5 h85
      go_wp2_with fail
      rw [← HW6.out]
      clear y0 y1
      refine HPX.out.mono ?_
      rintro e w7 ⟨hb7, ⟨_, v7, rfl, ho7⟩ | ⟨hne, _⟩⟩
      rotate_left
      · exact absurd HZ5.out hne
      have HNBY := Lib.hid (numBytes_any v7 _ (fr (sgtext f5 cs5)) b w7 ho7.reads (HRB6.out.new hb7) (seg_bytes HZ5.out H85.out).1 HB8.out)
      have HB7 : Hid (Below w.heap.size w w7) := Lib.hid (HB6.out.trans (hb7.mono HB6.out.size))
      obtain ⟨ao7, cap7, hv7, _, _, _⟩ := ho7.reads.val
      obtain ⟨n7, hn7⟩ : ∃ n, n = (fr (sgtext f5 cs5)).length := ⟨_, rfl⟩
      rw [← hn7] at hv7
      subst hv7
      rw [decide_eq_true HBK.out.symm] at HNBY
      clear hb7 ho7 hn7
      go_wp2_with fail
      refine HNBY.out.mono ?_
      rintro e w8 hw8
      obtain ⟨rfl, rfl⟩ := hw8
      go_wp2
      go_ret
      exact ⟨rfl, HB7.out⟩

end Go.Proofs.Ytojndpelilolkaa
