/- SegmentPuts' walk. -/
import Derived.Test.YtojndpelilolkaaSgS
import Derived.Test.YtojndpelilolkaaSgE
import Derived.Test.YtojndpelilolkaaSegmentBack
import Derived.Deep.Cut
import Derived.Deep.CutBlock
namespace Go.Proofs.Ytojndpelilolkaa
open Go.RowKit

set_option maxHeartbeats 8000000 in
set_option maxRecDepth 100000 in
theorem segmentPuts_walk (f a : Int) (v : Value) (cs : List IC) (w : World) (B : Nat → Prop) (h : CellsAt w B v cs) (h8 : ∀ c ∈ cs, ∀ y ∈ c.2, y < 256) (hcl : cs.length ≤ 9223372036854775807)
    (hf : -9223372036854775808 ≤ f ∧ f ≤ 9223372036854775807) (ha : -9223372036854775808 ≤ a ∧ a ≤ 9223372036854775807) :
    Calls Try.prog 3 #[.agg #[.int .i64 f, v], .int .i64 a] w fun e w' => e = .returned (.bool true) ∧ Below w.heap.size w w' := by
  obtain ⟨ao, cap, rfl, l1, m1, _⟩ := h.val
  obtain ⟨W1, hW1⟩ : ∃ W1, W1 = w.alloc (.cells #[.int .i64 f, .slice ao cs.length cap] 24) := ⟨_, rfl⟩
  have hb1 : Below w.heap.size w W1 := by rw [hW1]; exact (Below.refl _ _).alloc (Nat.le_refl _) _
  have hx1 : SgB W1 w.heap.size (.int .i64 f) (.slice ao cs.length cap) := by rw [hW1]; exact sgb_new _ _ _
  have HX1 := Lib.hid hx1
  have HB1 := Lib.hid hb1
  have HR1 := Lib.hid (h.old hb1)
  have H8 := Lib.hid h8
  have HA := Lib.hid (alive14_any W1)
  have HCL := Lib.hid hcl
  have HF := Lib.hid hf
  have HAA := Lib.hid ha
  obtain ⟨n, hn⟩ : ∃ n, n = cs.length := ⟨_, rfl⟩
  rw [← hn] at HX1 HR1 hW1 ⊢
  have HN := Lib.hid hn
  have HW1 := Lib.hid hW1
  have HX : Hid (∀ W, Below W1.heap.size W1 W → W.cell? ⟨w.heap.size, 0, none⟩ = some (.int .i64 f) ∧ W.cell? ⟨w.heap.size, 1, none⟩ = some (.slice ao n cap)) := Lib.hid fun W hb => by
    obtain ⟨p0, p1, _, _⟩ := (HX1.out.old hb).x
    exact ⟨p0, p1⟩
  clear h h8 hcl l1 m1 hb1 hx1 hn hW1 hf ha
  go_enter Try.func3, Try.ntmps3
  go_wp2_with fail
  rw [← HW1.out]
  refine HA.out.mono ?_
  rintro e w2 ⟨rfl, hb2⟩
  have HB2 := Lib.hid hb2
  obtain ⟨x0, x1⟩ := HX.out w2 hb2
  have HLG := Lib.hid (long_any _ cs 80 w2 B (HR1.out.old hb2) HCL.out)
  clear hb2
  go_wp2_with fail
  refine HLG.out.mono ?_
  rintro e w3 ⟨rfl, hb3⟩
  have HB3 := Lib.hid (HB2.out.trans (hb3.mono HB2.out.size))
  clear hb3 x0 x1
  obtain ⟨x0, x1⟩ := HX.out w3 HB3.out
  by_cases hlg : longB cs 80 = true
  · rw [hlg]
    go_wp2
    go_ret
    exact ⟨rfl, HB1.out.trans (HB3.out.mono HB1.out.size)⟩
  have hlg : longB cs 80 = false := by simpa using hlg
  have HFW := Lib.hid (longB_few hlg)
  rw [hlg]
  have HDO := Lib.hid (document14_any f _ cs w3 B (HR1.out.old HB3.out) (by have := (longB_few hlg).1; omega))
  clear hlg
  go_wp2_with fail
  refine HDO.out.mono ?_
  rintro e w4 ⟨v4, rfl, ho4, hb4⟩
  obtain ⟨ao4, cap4, rfl⟩ := ho4.form
  rw [← HN.out] at ho4 ⊢
  obtain ⟨W5, hW5⟩ : ∃ W, W = w4.alloc (.cells #[.int .i64 f, .slice ao4 n cap4] 29) := ⟨_, rfl⟩
  have hb5 : Below w4.heap.size w4 W5 := by rw [hW5]; exact (Below.refl _ _).alloc (Nat.le_refl _) _
  have hx5 : SdB W5 w4.heap.size (.int .i64 f) (.slice ao4 n cap4) := by rw [hW5]; exact sdb_new _ _ _
  have HM5 : Hid (OwnsD W5 w3.heap.size (.slice ao4 n cap4) cs) := Lib.hid (ho4.below hb5)
  have HB5 : Hid (Below W1.heap.size W1 W5) := Lib.hid (HB3.out.trans ((hb4.trans (hb5.mono hb4.size)).mono HB3.out.size))
  have HX5 := Lib.hid hx5
  obtain ⟨qm, hqm⟩ : ∃ q, q = w4.heap.size := ⟨_, rfl⟩
  rw [← hqm] at HX5
  have HQM := Lib.hid hqm
  have HW5 := Lib.hid hW5
  have HCK := Lib.hid (rsgcheck_any f _ cs W5 _ HM5.out.dc HF.out)
  obtain ⟨z, hz⟩ : ∃ z, z = sgC f cs := ⟨_, rfl⟩
  rw [← hz] at HCK
  have HZ := Lib.hid hz
  obtain ⟨y0, y1, _, _⟩ := hx5.x
  rw [hW5] at y0 y1
  -- both boxes, from here on
  have HY : Hid (∀ W, Below W5.heap.size W5 W → (W.cell? ⟨w.heap.size, 0, none⟩ = some (.int .i64 f) ∧ W.cell? ⟨w.heap.size, 1, none⟩ = some (.slice ao n cap)) ∧ W.cell? ⟨qm, 0, none⟩ = some (.int .i64 f) ∧ W.cell? ⟨qm, 1, none⟩ = some (.slice ao4 n cap4)) := Lib.hid fun W hb => by
    obtain ⟨p0, p1, _, _⟩ := (HX5.out.old hb).x
    exact ⟨HX.out W (HB5.out.trans (hb.mono HB5.out.size)), p0, p1⟩
  clear ho4 hb4 hb5 hx5 hqm hz hW5 x0 x1
  go_wp2_with fail
  rw [← HW5.out, ← HQM.out]
  clear y0 y1
  refine HCK.out.mono ?_
  rintro e w6 ⟨rfl, hb6⟩
  have HB6 : Hid (Below W5.heap.size W5 w6) := Lib.hid hb6
  obtain ⟨⟨x0, x1⟩, y0, y1⟩ := HY.out w6 hb6
  have HPU := Lib.hid (sgput_any f _ cs w6 B (HR1.out.old (HB5.out.trans (hb6.mono HB5.out.size))) H8.out)
  clear hb6
  go_wp2_with fail
  refine HPU.out.mono ?_
  rintro e w7 ⟨hb7, hres⟩
  -- what Put answered
  obtain ⟨v7, ev, ho7, rfl, hev, hb7z⟩ : ∃ (v7 ev : Value), (sgC f cs = 0 → Owns w7 w6.heap.size 5 .u8 v7 (fr (sgtext f cs))) ∧ e = .returned (.tuple #[v7, ev]) ∧ ev = errV z ∧ (z ≠ 0 → v7 = .slice none 0 0) := by
    rcases hres with ⟨hz, v', rfl, ho⟩ | ⟨hne, rfl⟩
    · exact ⟨v', _, fun _ => ho, rfl, by rw [HZ.out, hz, errV_zero], fun h => absurd (HZ.out.trans hz) h⟩
    · exact ⟨_, _, fun h => absurd h hne, rfl, by rw [HZ.out], fun _ => rfl⟩
  have HB7 : Hid (Below W5.heap.size W5 w7) := Lib.hid (HB6.out.trans (hb7.mono HB6.out.size))
  have HO7 : Hid (sgC f cs = 0 → Reads w7 .u8 v7 (fr (sgtext f cs))) := Lib.hid fun h => (ho7 h).reads
  have HNIL := Lib.hid hb7z
  have hvs : ∃ (o : Option Addr) (k c : Nat), v7 = .slice o k c := by
    by_cases hz0 : sgC f cs = 0
    · obtain ⟨o, c, hv, _⟩ := (ho7 hz0).reads.val
      exact ⟨o, _, c, hv⟩
    · exact ⟨_, _, _, hb7z (by rw [HZ.out]; exact hz0)⟩
  obtain ⟨o7, k7, c7, rfl⟩ := hvs
  have HNUM : Hid (∀ W, Calls Try.prog 11 #[ev] W fun e w' => e = .returned (.int .i64 (z : Int)) ∧ W = w') := Lib.hid fun W => by rw [hev]; exact num_any z W
  have HCS : Hid (∀ W, Below W5.heap.size W5 W → Calls Try.prog 12 #[.agg #[.int .i64 f, .slice ao n cap]] W fun e w' => e = .returned ev ∧ Below W.heap.size W w') := Lib.hid fun W hb => by
    rw [hev, HZ.out]
    exact sgcheck_any f _ cs W B (HR1.out.old (HB5.out.trans (hb.mono HB5.out.size)))
  obtain ⟨m, hm⟩ : ∃ m, m = wrap64 (f + (n : Int)) := ⟨_, rfl⟩
  have HEN : Hid (∀ W, Calls Try.prog 13 #[.agg #[.int .i64 f, .slice ao n cap]] W fun e w' => e = .returned (.int .i64 m) ∧ Below W.heap.size W w') := Lib.hid fun W => by rw [hm]; exact sgend_any f ao n cap W
  have hm2 : wrap64 (f + (n : Int)) = m := hm.symm
  have hm3 : IntKind.i64.wrap (f + (n : Int)) = m := by rw [hm, IntKind.wrap_i64]; simp only [wrap64]
  have hzz : ((z : Int) != (z : Int)) = false := by simp
  have hmm : (m != m) = false := by simp
  clear hb7 hres ho7 hb7z hev x0 x1 y0 y1 hm
  obtain ⟨⟨x0, x1⟩, y0, y1⟩ := HY.out w7 HB7.out
  go_upto_region 8 with fail
  go_cut [52] from 31 to 52 (fun c wx => c = .bool false ∧ Below w7.heap.size w7 wx)
  case first =>
    have HD : Hid (Below w7.heap.size w7 w7) := Lib.hid (Below.refl _ _)
    go_region_held3 (fun w' => w'.cell? ⟨w.heap.size, 0, none⟩ = some (.int .i64 f) ∧ w'.cell? ⟨w.heap.size, 1, none⟩ = some (.slice ao n cap)) (go_keep) (first
      | (go_at_call 11; refine (HNUM.out _).mono ?_; rintro e wx ⟨rfl, rfl⟩)
      | (go_at_call 12
         refine (HCS.out _ ?hb).mono ?_
         case hb => first | exact HB7.out.trans (HD.out.mono HB7.out.size) | exact (HB7.out.trans (HD.out.mono HB7.out.size)).drew
         rintro e wx ⟨rfl, hbx⟩
         have HD : Hid (Below w7.heap.size w7 wx) := Lib.hid (HD.out.trans (Below.mono ⟨hbx.os, hbx.tape, hbx.output, hbx.size, hbx.block⟩ HD.out.size))
         obtain ⟨⟨x0, x1⟩, y0, y1⟩ := HY.out wx (HB7.out.trans (HD.out.mono HB7.out.size))
         clear hbx)
      | (go_at_call 13
         refine (HEN.out _).mono ?_
         rintro e wx ⟨rfl, hbx⟩
         have HD : Hid (Below w7.heap.size w7 wx) := Lib.hid (HD.out.trans (Below.mono ⟨hbx.os, hbx.tape, hbx.output, hbx.size, hbx.block⟩ HD.out.size))
         obtain ⟨⟨x0, x1⟩, y0, y1⟩ := HY.out wx (HB7.out.trans (HD.out.mono HB7.out.size))
         clear hbx))
    all_goals
      go_wp2
      go_meet
      case rel => exact ⟨rfl, HD.out⟩
  case rest =>
    obtain ⟨rfl, hbc⟩ := hcut
    obtain ⟨wc1, rfl⟩ : ∃ x, x = wc := ⟨_, rfl⟩
    have HB87 := Lib.hid hbc
    have HB8 : Hid (Below W5.heap.size W5 wc1) := Lib.hid (HB7.out.trans (hbc.mono HB7.out.size))
    clear hbc hzz hmm hm2 hm3 x0 x1 y0 y1
    obtain ⟨⟨x0, x1⟩, y0, y1⟩ := HY.out wc1 HB8.out
    have hn80 : (n : Int) ≤ 80 := by have := HFW.out.1; rw [← HN.out] at this; exact this
    go_wp2
    go_loopw [9, 10, 11, 12, 56] (fun fv _ _ _ i wr => ∃ (k : Nat) (fb : Bool), k ≤ n ∧ i = .int .i64 (k : Int) ∧ fv = .bool fb ∧ (fb = true ↔ z = 0 ∧ ∃ j : Nat, j < k ∧ f + (j : Int) = a) ∧ Below wc1.heap.size wc1 wr)
      (fun _ _ _ _ i _ => n - (intOf i).toNat)
    case atStart => exact ⟨0, false, Nat.zero_le _, rfl, rfl, by simp, Below.refl _ _⟩
    case round =>
      obtain ⟨k, fb, hk, rfl, rfl, hfb, hb⟩ := hrel
      have HB := Lib.hid hb
      have HFB := Lib.hid hfb
      have HBR : Hid (Below W5.heap.size W5 wr) := Lib.hid (HB8.out.trans (hb.mono HB8.out.size))
      clear hb hfb x0 x1 y0 y1
      obtain ⟨⟨x0, x1⟩, y0, y1⟩ := HY.out wr HBR.out
      by_cases hlt : k < n
      · have hlti : (k : Int) < (n : Int) := by omega
        by_cases hz0 : z = 0
        rotate_left
        · have hzb : ((z : Int) == 0) = false := by simp; omega
          have HN1 : Hid (fb = true ↔ z = 0 ∧ ∃ j : Nat, j < k + 1 ∧ f + (j : Int) = a) := Lib.hid ⟨fun h => absurd (HFB.out.1 h).1 hz0, fun h => absurd h.1 hz0⟩
          go_wp2
          go_roundw
          case rel => exact ⟨k + 1, fb, by omega, by go_num, rfl, HN1.out, HB.out⟩
          case measure => simp [intOf]; omega
        have hzb : ((z : Int) == 0) = true := by simp [hz0]
        have HS0 : Hid (sgC f cs = 0) := Lib.hid (by rw [← HZ.out, hz0])
        have HZ0 := Lib.hid hz0
        clear hz0
        have hf0 := (sgC_zero HS0.out).1
        have hf1 := (sgC_zero HS0.out).2.1
        rw [← HN.out] at hf1
        have hwk : wrap64 (f + (k : Int)) = f + (k : Int) := w64_in (by omega) (by omega)
        have HPL := Lib.hid (sg_place_iff hf0 hf1 HAA.out)
        by_cases hak : f + (k : Int) = a
        rotate_left
        · have hab : (f + (k : Int) == a) = false := by simpa using hak
          have HN1 : Hid (fb = true ↔ z = 0 ∧ ∃ j : Nat, j < k + 1 ∧ f + (j : Int) = a) := Lib.hid (HFB.out.trans ⟨fun ⟨h1, j, h2, h3⟩ => ⟨h1, j, by omega, h3⟩, fun ⟨h1, j, h2, h3⟩ => ⟨h1, j, by
            by_cases hjk : j = k
            · subst hjk; exact absurd h3 hak
            · omega, h3⟩⟩)
          clear hf0 hf1 hak
          go_wp2
          go_roundw
          case rel => exact ⟨k + 1, fb, by omega, by go_num, rfl, HN1.out, HB.out⟩
          case measure => simp [intOf]; omega
        have hab : (f + (k : Int) == a) = true := by simpa using hak
        have HN1 : Hid (z = 0 ∧ ∃ j : Nat, j < k + 1 ∧ f + (j : Int) = a) := Lib.hid ⟨HZ0.out, k, by omega, hak⟩
        have HAT := Lib.hid (sgat_any f a _ cs wr B (HR1.out.old (HB5.out.trans (HBR.out.mono HB5.out.size))) HFW.out.2)
        have hpk : wrap64 (a - f) = (k : Int) := by rw [← hak, show f + (k : Int) - f = (k : Int) by omega]; exact w64_in (by omega) (by omega)
        have HPK := Lib.hid hpk
        have HKN : Hid (k < cs.length) := Lib.hid (by rw [← HN.out]; exact hlt)
        clear hf0 hf1 hpk hak
        go_wp2_with fail
        refine HAT.out.mono ?_
        rintro e w9 ⟨p, kk, v9, d, hp, rfl, hr9, hcd, hb9⟩
        rw [HPK.out] at hp
        subst hp
        have hkn2 := HKN.out
        have hcd2 := hcd ⟨by omega, by omega⟩
        rw [Int.toNat_natCast] at hcd2
        rw [decide_eq_true (⟨by omega, by omega⟩ : (0 : Int) ≤ (k : Int) ∧ (k : Int) < (cs.length : Int))]
        obtain ⟨ao9, cap9, rfl, _, _, _⟩ := hr9.val
        obtain ⟨nd, hnd⟩ : ∃ m, m = d.length := ⟨_, rfl⟩
        rw [← hnd] at hr9 ⊢
        obtain ⟨W10, hW10⟩ : ∃ W, W = w9.alloc (.cells #[.int .i64 kk, .slice ao9 nd cap9] 41) := ⟨_, rfl⟩
        have hb10 : Below w9.heap.size w9 W10 := by rw [hW10]; exact (Below.refl _ _).alloc (Nat.le_refl _) _
        have hx10 : W10.heap[w9.heap.size]? = some (.cells #[.int .i64 kk, .slice ao9 nd cap9] 41 (0, 0)) := by rw [hW10]; exact heap_alloc_new _ _
        have hbr10 : Below wr.heap.size wr W10 := hb9.trans (hb10.mono hb9.size)
        have HB10 : Hid (Below W5.heap.size W5 W10) := Lib.hid (HBR.out.trans (hbr10.mono HBR.out.size))
        have HBC10 : Hid (Below wc1.heap.size wc1 W10) := Lib.hid (HB.out.trans (hbr10.mono HB.out.size))
        obtain ⟨bm, rfl, hbm, c0, c1⟩ := HM5.out.at hkn2
        rw [hcd2] at c0 c1
        simp only at c0 c1
        have hd8 : ∀ y ∈ d, y < 256 := by
          have e : (cs.getD k (0, [])).2 = d := by rw [hcd2]
          intro y hy
          rw [← e] at hy
          exact H8.out _ (by rw [List.getD_eq_getElem?_getD, List.getElem?_eq_getElem hkn2]; exact List.getElem_mem hkn2) y hy
        have hneq := fun W => neq_cells kk kk d d hd8 hd8 W
        rw [same_refl] at hneq
        obtain ⟨s, hs⟩ : ∃ s, s = S8 d := ⟨_, rfl⟩
        rw [← hs] at c1
        simp only [← hs] at hneq
        have HDC : Hid (∀ W, Below W10.heap.size W10 W → Calls Try.prog 15 #[.agg #[.int .i64 kk, .slice ao9 nd cap9]] W fun e w' => e = .returned (.agg #[.int .i64 kk, .string s]) ∧ Below W.heap.size W w') := Lib.hid fun W hb => by
          rw [hs]
          exact document_any kk _ d W ((hr9.new hb10).new hb)
        obtain ⟨q, hq⟩ : ∃ q, q = w9.heap.size := ⟨_, rfl⟩
        rw [← hq] at hx10
        have HZZ : Hid (∀ W, Below W10.heap.size W10 W → (W.cell? ⟨q, 0, none⟩ = some (.int .i64 kk) ∧ W.cell? ⟨q, 1, none⟩ = some (.slice ao9 nd cap9)) ∧ W.cell? ⟨qm, 1, none⟩ = some (.slice (some ⟨bm, 0, none⟩) n cap4) ∧ W.cell? ⟨bm, k * 2, none⟩ = some (.int .i64 kk) ∧ W.cell? ⟨bm, k * 2 + 1, none⟩ = some (.string s)) := Lib.hid fun W hb => by
          have hbw : Below W5.heap.size W5 W := HB10.out.trans (hb.mono HB10.out.size)
          obtain ⟨a0, a1, _, _⟩ := blk2 ((hb.block _ (Array.getElem?_eq_some_iff.1 hx10).1).trans hx10)
          exact ⟨⟨a0, a1⟩, (HY.out W hbw).2.2, (hbw.cell (p := ⟨bm, k * 2, none⟩) hbm).trans c0, (hbw.cell (p := ⟨bm, k * 2 + 1, none⟩) hbm).trans c1⟩
        obtain ⟨⟨e0, e1⟩, e2, e3, e4⟩ := HZZ.out W10 (Below.refl _ _)
        have HQ := Lib.hid hq
        have HW10 := Lib.hid hW10
        rw [HW10.out] at e0 e1 e2 e3 e4
        rw [hq] at e0 e1
        clear hcd hcd2 hb9 hr9 hnd hb10 hx10 hbr10 c0 c1 hd8 hs hq hW10 x0 x1 y0 y1
        have HD : Hid (Below W10.heap.size W10 W10) := Lib.hid (Below.refl _ _)
        go_upto_region 17 with fail
        rw [← HW10.out, ← HQ.out]
        rw [← HW10.out] at e2 e3 e4
        clear e0 e1
        obtain ⟨⟨e0, e1⟩, _⟩ := HZZ.out W10 HD.out
        go_cut [86] from 69 to 86 (fun c wx => c = .bool false ∧ Below W10.heap.size W10 wx)
        case first =>
          go_region_held3 (fun w' => w'.cell? ⟨q, 0, none⟩ = some (.int .i64 kk) ∧ w'.cell? ⟨q, 1, none⟩ = some (.slice ao9 nd cap9) ∧ w'.cell? ⟨qm, 1, none⟩ = some (.slice (some ⟨bm, 0, none⟩) n cap4) ∧ w'.cell? ⟨bm, k * 2, none⟩ = some (.int .i64 kk) ∧ w'.cell? ⟨bm, k * 2 + 1, none⟩ = some (.string s)) (go_keep) (first
            | (go_at_call 15
               refine (HDC.out _ ?hb).mono ?_
               case hb => first | exact HD.out | exact HD.out.drew
               rintro e wx ⟨rfl, hbx⟩
               have HD : Hid (Below W10.heap.size W10 wx) := Lib.hid (HD.out.trans (Below.mono ⟨hbx.os, hbx.tape, hbx.output, hbx.size, hbx.block⟩ HD.out.size))
               obtain ⟨⟨e0, e1⟩, e2, e3, e4⟩ := HZZ.out wx HD.out
               clear hbx))
          all_goals
            go_wp2
            go_meet
            case rel => exact ⟨rfl, HD.out⟩
        case rest =>
          obtain ⟨rfl, hbx⟩ := hcut
          have HBX : Hid (Below wc1.heap.size wc1 wc) := Lib.hid (HBC10.out.trans (hbx.mono HBC10.out.size))
          clear hbx e0 e1 e2 e3 e4 hneq
          go_wp2
          go_roundw
          case rel => exact ⟨k + 1, true, by omega, by go_num, rfl, iff_of_true rfl HN1.out, HBX.out⟩
          case measure => simp [intOf]; omega
      · obtain rfl : k = n := by omega
        have HAT := Lib.hid (sgat_any f a _ cs wr B (HR1.out.old (HB5.out.trans (HBR.out.mono HB5.out.size))) HFW.out.2)
        go_wp2_with fail
        refine HAT.out.mono ?_
        rintro e w9 ⟨p, kk, v9, d, hp, rfl, hr9, hcd, hb9⟩
        obtain ⟨is, his⟩ : ∃ b : Bool, b = decide (0 ≤ p ∧ p < (cs.length : Int)) := ⟨_, rfl⟩
        rw [← his]
        have HIS : Hid (z = 0 → is = fb) := Lib.hid fun h => by
          have hs0 : sgC f cs = 0 := by rw [← HZ.out, h]
          have hq := sg_place_iff (n := cs.length) (sgC_zero hs0).1 (sgC_zero hs0).2.1 HAA.out
          have h2 := HFB.out
          rw [HN.out] at h2
          rw [← hp] at hq
          rw [his, Bool.eq_iff_iff, decide_eq_true_eq, hq, h2]
          exact ⟨fun h3 => ⟨h, h3⟩, fun h3 => h3.2⟩
        have HB9 : Hid (Below W5.heap.size W5 w9) := Lib.hid (HBR.out.trans (hb9.mono HBR.out.size))
        have HB97 : Hid (Below w7.heap.size w7 w9) := Lib.hid ((HB87.out.trans (HB.out.mono HB87.out.size)).trans (hb9.mono (HB87.out.trans (HB.out.mono HB87.out.size)).size))
        obtain ⟨ao9, cap9, rfl, _, _, _⟩ := hr9.val
        obtain ⟨nd, hnd⟩ : ∃ m, m = d.length := ⟨_, rfl⟩
        rw [← hnd]
        obtain ⟨W10, hW10⟩ : ∃ W, W = w9.alloc (.cells #[.int .i64 kk, .slice ao9 nd cap9] 41) := ⟨_, rfl⟩
        have HB10 : Hid (Below W5.heap.size W5 W10) := Lib.hid (by rw [hW10]; exact HB9.out.alloc HB9.out.size _)
        have HB107 : Hid (Below w7.heap.size w7 W10) := Lib.hid (by rw [hW10]; exact HB97.out.alloc HB97.out.size _)
        have HW10 := Lib.hid hW10
        clear hp his hr9 hcd hb9 hnd hW10 x0 x1 y0 y1
        go_upto_region 21 with fail
        rw [← HW10.out]
        go_cut [100] from 57 to 100 (fun c wx => c = .bool false ∧ wx = W10)
        case first =>
          by_cases hz0 : z = 0
          · have hzb : ((z : Int) == 0) = true := by simp [hz0]
            have hif : (is != fb) = false := by rw [HIS.out hz0]; simp
            go_wp2
            go_meet
            case rel => exact ⟨by rw [HIS.out hz0]; cases fb <;> rfl, rfl⟩
          · have hzb : ((z : Int) == 0) = false := by simp; omega
            go_wp2
            go_meet
            case rel => exact ⟨rfl, rfl⟩
        case rest =>
          obtain ⟨rfl, hwc⟩ := hcut
          rw [hwc]
          clear hwc HIS
          obtain ⟨⟨x0, x1⟩, y0, y1⟩ := HY.out W10 HB10.out
          have HCP := Lib.hid (sgcopy_any f _ cs W10 B (HR1.out.old (HB5.out.trans (HB10.out.mono HB5.out.size))) (by rw [← HN.out]; omega) HFW.out.2)
          go_wp2_with fail
          refine HCP.out.mono ?_
          rintro e w11 ⟨v11, rfl, ho11, hb11⟩
          obtain ⟨ao11, cap11, rfl⟩ := ho11.form
          rw [← HN.out] at ho11 ⊢
          obtain ⟨W12, hW12⟩ : ∃ W, W = w11.alloc (.cells #[.int .i64 f, .slice ao11 k cap11] 24) := ⟨_, rfl⟩
          have hb12 : Below w11.heap.size w11 W12 := by rw [hW12]; exact (Below.refl _ _).alloc (Nat.le_refl _) _
          have hx12 : SgB W12 w11.heap.size (.int .i64 f) (.slice ao11 k cap11) := by rw [hW12]; exact sgb_new _ _ _
          have HBA : Hid (Below W10.heap.size W10 W12) := Lib.hid (hb11.trans (hb12.mono hb11.size))
          have HB12 : Hid (Below W5.heap.size W5 W12) := Lib.hid (HB10.out.trans (HBA.out.mono HB10.out.size))
          have HO12 : Hid (OCs W12 W10.heap.size (.slice ao11 k cap11) cs) := Lib.hid (ho11.below hb12)
          obtain ⟨qc, hqc⟩ : ∃ q, q = w11.heap.size := ⟨_, rfl⟩
          have HX12 : Hid (SgB W12 qc (.int .i64 f) (.slice ao11 k cap11)) := Lib.hid (by rw [hqc]; exact hx12)
          have HQC := Lib.hid hqc
          have HQG : Hid (W10.heap.size ≤ qc) := Lib.hid (by rw [hqc]; exact hb11.size)
          have HW12 := Lib.hid hW12
          have HSM := Lib.hid (sgsame_any f f _ _ cs cs W12 _ B HO12.out.cells (HR1.out.old (HB5.out.trans (HB12.out.mono HB5.out.size))) H8.out H8.out)
          rw [sgSame_self] at HSM
          obtain ⟨p0, p1, _, _⟩ := HX12.out.x
          clear ho11 hb11 hb12 hx12 hqc hW12 x0 x1 y0 y1
          obtain ⟨⟨x0, x1⟩, y0, y1⟩ := HY.out W12 HB12.out
          rw [HW12.out] at p0 p1 x0 x1 y0 y1
          rw [HQC.out] at p0 p1
          go_wp2_with fail
          rw [← HW12.out, ← HQC.out]
          clear p0 p1 x0 x1 y0 y1
          refine HSM.out.mono ?_
          rintro e w13 ⟨rfl, hb13⟩
          have HB13 : Hid (Below W10.heap.size W10 w13) := Lib.hid (HBA.out.trans (hb13.mono HBA.out.size))
          have HO13 := Lib.hid (HO12.out.below hb13)
          have HX13 := Lib.hid (HX12.out.old hb13)
          obtain ⟨p0, p1, _, _⟩ := HX13.out.x
          have hk80 : (k : Int) ≤ 80 := hn80
          clear hb13
          go_wp2
          go_loopw [16, 110] (fun _ i wr => ∃ j : Nat, j ≤ k ∧ i = .int .i64 (j : Int) ∧ OCs wr W10.heap.size (.slice ao11 k cap11) (bmpK j cs) ∧ SgB wr qc (.int .i64 f) (.slice ao11 k cap11) ∧ Below W10.heap.size W10 wr)
            (fun _ i _ => k - (intOf i).toNat)
          case atStart => exact ⟨0, Nat.zero_le _, rfl, HO13.out, HX13.out, HB13.out⟩
          case round =>
            obtain ⟨j, hj, rfl, hoj, hxj, hbj⟩ := hrel
            have HOJ := Lib.hid hoj
            have HXJ := Lib.hid hxj
            have HBJ := Lib.hid hbj
            clear hoj hxj hbj p0 p1
            obtain ⟨p0, p1, _, _⟩ := HXJ.out.x
            by_cases hltj : j < k
            · have hjl : j < (bmpK j cs).length := by rw [bmpK_length, ← HN.out]; exact hltj
              have hfz := HOJ.out.at hjl
              obtain ⟨g, rfl, hgb, hgs, c0, hty⟩ := hfz
              have hfr := HOJ.out.frozen (by rw [bmpK_length]; exact HN.out) (j * 2)
              have HBP := Lib.hid (HOJ.out.bump (by rw [bmpK_length]; exact HN.out) j hjl (wrap64 (((bmpK j cs).getD j (0, [])).1 + 1)))
              have HGQ : Hid (qc ≠ g) := Lib.hid fun e => by
                obtain ⟨c, hc⟩ := hty
                have := (e ▸ HXJ.out : SgB _ g _ _)
                have := hc.symm.trans this
                cases this
              have HGB := Lib.hid hgb
              obtain ⟨x, hx⟩ : ∃ x, x = ((bmpK j cs).getD j (0, [])).1 := ⟨_, rfl⟩
              rw [← hx] at c0
              have HXX := Lib.hid hx
              have hji : (j : Int) < (k : Int) := by omega
              clear hjl hty hx
              have HBN : Hid (OCs (wr.setCell ⟨g, j * 2, none⟩ (.int .i64 (wrap64 (x + 1)))) W10.heap.size (.slice (some ⟨g, 0, none⟩) k cap11) (bmpK (j + 1) cs)) := Lib.hid (by
                have := HBP.out
                rw [← HXX.out] at this
                unfold bmpK
                rw [← HXX.out]
                exact this)
              have HXN : Hid (SgB (wr.setCell ⟨g, j * 2, none⟩ (.int .i64 (wrap64 (x + 1)))) qc (.int .i64 f) (.slice (some ⟨g, 0, none⟩) k cap11)) := Lib.hid ((heap_setCell_other _ _ _ _ HGQ.out).trans HXJ.out)
              have HBN2 : Hid (Below W10.heap.size W10 (wr.setCell ⟨g, j * 2, none⟩ (.int .i64 (wrap64 (x + 1))))) := Lib.hid (HBJ.out.setCell HGB.out _)
              go_wp2
              go_roundw
              case rel => exact ⟨j + 1, by omega, by go_num, HBN.out, HXN.out, HBN2.out⟩
              case measure => simp [intOf]; omega
            · obtain rfl : j = k := by omega
              have HBW : Hid (Below W5.heap.size W5 wr) := Lib.hid (HB10.out.trans (HBJ.out.mono HB10.out.size))
              have HDOC : Hid (∀ W, Below W5.heap.size W5 W → Calls Try.prog 8 #[.agg #[.int .i64 f, .slice ao j cap]] W fun e w' => ∃ (o : Option Addr) (c : Nat), e = .returned (.agg #[.int .i64 f, .slice o j c]) ∧ OwnsD w' W.heap.size (.slice o j c) cs ∧ Below W.heap.size W w') := Lib.hid fun W hb => by
                refine (document14_any f _ cs W B (HR1.out.old (HB5.out.trans (hb.mono HB5.out.size))) (by have := HFW.out.1; omega)).mono ?_
                rintro e w' ⟨v', rfl, ho, hb'⟩
                obtain ⟨o, c, rfl⟩ := ho.form
                rw [← HN.out] at ho ⊢
                exact ⟨o, c, rfl, ho, hb'⟩
              have HSD : Hid (∀ (W : World) (o : Option Addr) (c b' : Nat), Below W5.heap.size W5 W → OwnsD W b' (.slice o j c) cs → Calls Try.prog 18 #[.agg #[.int .i64 f, .slice o j c], .agg #[.int .i64 f, .slice ao4 j cap4]] W fun e w' => e = .returned (.bool true) ∧ Below W.heap.size W w') := Lib.hid fun W o c b' hb ho => by
                have := rsgsame_any f f _ _ cs cs W _ _ ho.dc (HM5.out.below hb).dc H8.out H8.out
                rw [sgSame_self] at this
                exact this
              have HSC : Hid (∀ W, Below wr.heap.size wr W → 0 < j → Calls Try.prog 17 #[.agg #[.int .i64 f, .slice ao11 j cap11], .agg #[.int .i64 f, .slice ao j cap]] W fun e w' => e = .returned (.bool false) ∧ Below W.heap.size W w') := Lib.hid fun W hb h0 => by
                have hbw := HBW.out.trans (hb.mono HBW.out.size)
                have := sgsame_any f f _ _ (bmpK j cs) cs W _ B (HOJ.out.below hb).cells (HR1.out.old (HB5.out.trans (hbw.mono HB5.out.size))) (bmpK_bytes j cs H8.out) H8.out
                rw [bmpK_ne j cs h0 (by rw [← HN.out]; exact h0)] at this
                exact this
              have HYY : Hid (∀ W, Below wr.heap.size wr W → ((W.cell? ⟨w.heap.size, 0, none⟩ = some (.int .i64 f) ∧ W.cell? ⟨w.heap.size, 1, none⟩ = some (.slice ao j cap)) ∧ W.cell? ⟨qm, 0, none⟩ = some (.int .i64 f) ∧ W.cell? ⟨qm, 1, none⟩ = some (.slice ao4 j cap4)) ∧ W.cell? ⟨qc, 0, none⟩ = some (.int .i64 f) ∧ W.cell? ⟨qc, 1, none⟩ = some (.slice ao11 j cap11)) := Lib.hid fun W hb => by
                obtain ⟨a0, a1, _, _⟩ := (HXJ.out.old hb).x
                exact ⟨HY.out W (HBW.out.trans (hb.mono HBW.out.size)), a0, a1⟩
              clear p0 p1
              obtain ⟨⟨⟨x0, x1⟩, y0, y1⟩, p0, p1⟩ := HYY.out wr (Below.refl _ _)
              have HD : Hid (Below wr.heap.size wr wr) := Lib.hid (Below.refl _ _)
              go_upto_region 31 with fail
              go_cut [138] from 110 to 138 (fun c wx => c = .bool false ∧ Below wr.heap.size wr wx)
              case first =>
                by_cases h0 : 0 < j
                rotate_left
                · have h0i : decide ((0 : Int) < (j : Int)) = false := decide_eq_false (by omega)
                  have h0n : decide (0 < j) = false := decide_eq_false h0
                  clear h0
                  go_region_with (first
                    | (go_at_call 8
                       refine (HDOC.out _ ?hb).mono ?_
                       case hb => first | exact HBW.out | exact HBW.out.drew
                       rintro e wx ⟨od, cd, rfl, hod, hbx⟩
                       have HD : Hid (Below wr.heap.size wr wx) := Lib.hid (HD.out.trans (Below.mono ⟨hbx.os, hbx.tape, hbx.output, hbx.size, hbx.block⟩ HD.out.size))
                       have HOD := Lib.hid hod
                       obtain ⟨⟨⟨x0, x1⟩, y0, y1⟩, p0, p1⟩ := HYY.out wx HD.out
                       clear hbx hod)
                    | (go_at_call 18
                       refine (HSD.out _ _ _ _ (HBW.out.trans (HD.out.mono HBW.out.size)) HOD.out).mono ?_
                       rintro e wx ⟨rfl, hbx⟩
                       have HD : Hid (Below wr.heap.size wr wx) := Lib.hid (HD.out.trans (Below.mono ⟨hbx.os, hbx.tape, hbx.output, hbx.size, hbx.block⟩ HD.out.size))
                       obtain ⟨⟨⟨x0, x1⟩, y0, y1⟩, p0, p1⟩ := HYY.out wx HD.out
                       clear hbx))
                  all_goals
                    go_wp2
                    go_meet
                    case rel => exact ⟨rfl, HD.out⟩
                · have h0i : decide ((0 : Int) < (j : Int)) = true := decide_eq_true (by omega)
                  have h0n : decide (0 < j) = true := decide_eq_true h0
                  have H0 := Lib.hid h0
                  clear h0
                  go_region_held3 (fun w' => w'.cell? ⟨w.heap.size, 0, none⟩ = some (.int .i64 f) ∧ w'.cell? ⟨w.heap.size, 1, none⟩ = some (.slice ao j cap) ∧ w'.cell? ⟨qm, 0, none⟩ = some (.int .i64 f) ∧ w'.cell? ⟨qm, 1, none⟩ = some (.slice ao4 j cap4) ∧ w'.cell? ⟨qc, 0, none⟩ = some (.int .i64 f) ∧ w'.cell? ⟨qc, 1, none⟩ = some (.slice ao11 j cap11)) (go_keep) (first
                    | (go_at_call 8
                       refine (HDOC.out _ ?hb).mono ?_
                       case hb => first | exact HBW.out | exact HBW.out.drew
                       rintro e wx ⟨od, cd, rfl, hod, hbx⟩
                       have HD : Hid (Below wr.heap.size wr wx) := Lib.hid (HD.out.trans (Below.mono ⟨hbx.os, hbx.tape, hbx.output, hbx.size, hbx.block⟩ HD.out.size))
                       have HOD := Lib.hid hod
                       obtain ⟨⟨⟨x0, x1⟩, y0, y1⟩, p0, p1⟩ := HYY.out wx HD.out
                       clear hbx hod)
                    | (go_at_call 18
                       refine (HSD.out _ _ _ _ (HBW.out.trans (HD.out.mono HBW.out.size)) HOD.out).mono ?_
                       rintro e wx ⟨rfl, hbx⟩
                       have HD : Hid (Below wr.heap.size wr wx) := Lib.hid (HD.out.trans (Below.mono ⟨hbx.os, hbx.tape, hbx.output, hbx.size, hbx.block⟩ HD.out.size))
                       obtain ⟨⟨⟨x0, x1⟩, y0, y1⟩, p0, p1⟩ := HYY.out wx HD.out
                       clear hbx)
                    | (go_at_call 17
                       refine (HSC.out _ HD.out H0.out).mono ?_
                       rintro e wx ⟨rfl, hbx⟩
                       have HD : Hid (Below wr.heap.size wr wx) := Lib.hid (HD.out.trans (Below.mono ⟨hbx.os, hbx.tape, hbx.output, hbx.size, hbx.block⟩ HD.out.size))
                       obtain ⟨⟨⟨x0, x1⟩, y0, y1⟩, p0, p1⟩ := HYY.out wx HD.out
                       clear hbx))
                  all_goals
                    go_wp2
                    go_meet
                    case rel => exact ⟨rfl, HD.out⟩
              case rest =>
                obtain ⟨rfl, hbx⟩ := hcut
                have HBX : Hid (Below W5.heap.size W5 wc) := Lib.hid (HBW.out.trans (hbx.mono HBW.out.size))
                have HFIN : Hid (Below w.heap.size w wc) := Lib.hid (HB1.out.trans ((HB5.out.trans (HBX.out.mono HB5.out.size)).mono HB1.out.size))
                have HO7X : Hid (sgC f cs = 0 → Reads wc .u8 (.slice o7 k7 c7) (fr (sgtext f cs))) := Lib.hid fun h => by
                  have h1 : Below w7.heap.size w7 wr := HB107.out.trans (HBJ.out.mono HB107.out.size)
                  exact (HO7.out h).new (h1.trans (hbx.mono h1.size))
                clear hbx x0 x1 y0 y1 p0 p1
                obtain ⟨⟨x0, x1⟩, y0, y1⟩ := HY.out wc HBX.out
                by_cases hz0 : z = 0
                rotate_left
                · have hzb : ((z : Int) != 0) = true := by simp; omega
                  have hv := HNIL.out hz0
                  cases hv
                  go_wp2
                  go_ret
                  exact ⟨rfl, HFIN.out⟩
                have hzb : ((z : Int) != 0) = false := by simp [hz0]
                have hs0 : sgC f cs = 0 := by rw [← HZ.out, hz0]
                have HPU := Lib.hid (rsgput_any f _ cs wc _ (HM5.out.below HBX.out) hs0 H8.out)
                have HR7 := Lib.hid (HO7X.out hs0)
                have HSB := Lib.hid (seg_bytes hs0 H8.out)
                clear hz0 hs0
                go_wp2_with fail
                refine HPU.out.mono ?_
                rintro e w15 ⟨v15, rfl, ho15, hb15⟩
                have HNB := Lib.hid (numBytes_any _ v15 (fr (sgtext f cs)) (fr (sgtext f cs)) w15 (HR7.out.new hb15) ho15.reads HSB.out.1 HSB.out.1)
                rw [decide_eq_true rfl] at HNB
                obtain ⟨ao15, cap15, hv15, _, _, _⟩ := ho15.reads.val
                obtain ⟨n15, hn15⟩ : ∃ n, n = (fr (sgtext f cs)).length := ⟨_, rfl⟩
                rw [← hn15] at hv15
                subst hv15
                have HB15 := Lib.hid (HFIN.out.trans (hb15.mono HFIN.out.size))
                clear hb15 ho15 hn15
                go_wp2_with fail
                refine HNB.out.mono ?_
                rintro e w16 ⟨rfl, rfl⟩
                go_wp2
                go_ret
                exact ⟨rfl, HB15.out⟩

end Go.Proofs.Ytojndpelilolkaa
