/- UnitMakes, walked. -/
import Derived.Test.YtnhffeppbliabaaUvI
import Derived.Test.YtnhffeppbliabaaUvL
import Derived.Test.YtnhffeppbliabaaUvF
import Derived.Deep.RegionHeld3
namespace Go.Proofs.Ytnhffeppbliabaa
open Go.RowKit

theorem doc_unew2 (w : World) : DocU w (fun _ => False) (.slice none 0 0) unew := recAt_nil _ _ _
theorem trim_other {e low : Int} {l : Im IC} (hl : low < 1048576) : sameUS (utrim ⟨e, low, l⟩ e 1048576).1 ⟨e, low, l⟩ = false := by
  have h0 : ucur ⟨e, low, l⟩ e = 0 := ucur_self ⟨e, low, l⟩
  have h1 : (utrim ⟨e, low, l⟩ e 1048576).1.low = 1048576 := by
    unfold utrim
    rw [if_neg (by omega), if_neg (by rw [h0]; decide)]
    show max low 1048576 = 1048576
    omega
  unfold sameUS
  rw [h1]
  simp only
  rw [decide_eq_false (by omega : ¬ (1048576 : Int) = low)]
  simp

set_option maxHeartbeats 8000000 in
set_option maxRecDepth 100000 in
theorem unitMakes_walk (ep lw : Int) (v : Value) (l : Im IC) (w : World) (hr : EntAt w (fun j => j < w.heap.size) v l) (h8 : ∀ f ∈ l, I64 f.1 ∧ I64 f.2.1 ∧ ∀ y ∈ f.2.2, y < 256) :
    Calls Try.prog 4 #[.int .i64 ep, .int .i64 lw, v] w fun e w' => e = .returned (.bool true) ∧ Below w.heap.size w w' := by
  obtain ⟨ao, cap, rfl, hlc, hcap, _⟩ := hr.val
  have HAL : Hid (l.length ≤ 9223372036854775807) := Lib.hid (Nat.le_trans hlc hcap)
  have HR := Lib.hid hr
  have H8 : Hid (∀ f ∈ l, ∀ y ∈ f.2.2, y < 256) := Lib.hid fun f hf => (h8 f hf).2.2
  clear hr hlc hcap h8
  go_enter Try.func4, Try.ntmps4
  go_wp2_with fail
  refine (alive8_any w).mono ?_
  rintro e w1 ⟨rfl, hb1⟩
  have HB1 := Lib.hid hb1
  clear hb1
  go_wp2_with fail
  refine (long8_any (HR.out.keep (kept_below HB1.out)) HAL.out 60).mono ?_
  rintro e w2 ⟨b2, rfl, hlong, hb2⟩
  have HB2 : Hid (Below w.heap.size w w2) := Lib.hid (HB1.out.trans (hb2.mono HB1.out.size))
  have HLO := Lib.hid hlong
  clear hb2 hlong
  cases b2
  rotate_left
  · go_wp2
    go_ret
    exact ⟨rfl, HB2.out⟩
  have HLN : Hid (l.length ≤ 60) := Lib.hid (by have := (HLO.out rfl).1; omega)
  have HL2 : Hid (l.length ≤ 1048576) := Lib.hid (by have := HLN.out; omega)
  go_wp2_with fail
  refine (uof_any (HR.out.keep (kept_below HB2.out)) H8.out HL2.out ep lw).mono ?_
  rintro e w3 ⟨hb3, hcase⟩
  have HB3 : Hid (Below w.heap.size w w3) := Lib.hid (HB2.out.trans (hb3.mono HB2.out.size))
  have HEN := Lib.hid (lentries_any (HR.out.keep (kept_below HB3.out)) HL2.out)
  obtain ⟨c, hc⟩ : ∃ c, c = ofC ep lw l := ⟨_, rfl⟩
  have HC := Lib.hid hc
  rw [← hc] at hcase
  clear hb3 hc
  rcases hcase with ⟨hz, rfl⟩ | ⟨hz, u, m, B, rfl, hu, hul, hml, hB⟩
  · have HZ := Lib.hid hz
    obtain ⟨er, her⟩ : ∃ er, er = errV c := ⟨_, rfl⟩
    have HNUM : Hid (∀ W, Calls Try.prog 15 #[er] W fun e w' => e = .returned (.int .i64 (c : Int)) ∧ W = w') := Lib.hid fun W => by rw [her]; exact num_any c W
    rw [← her]
    have hzi : ¬ (c : Int) = 0 := by omega
    clear hz her
    go_wp2_with fail
    refine HEN.out.mono ?_
    rintro e w4 ⟨v4, rfl, ho4, hb4⟩
    obtain ⟨ao4, cap4, rfl⟩ := ho4.val
    obtain ⟨W5, hW5⟩ : ∃ W5, W5 = w4.alloc (.cells #[.int .i64 ep, .int .i64 lw, .slice ao4 l.length cap4] 28) := ⟨_, rfl⟩
    have hb5 : Below w4.heap.size w4 W5 := by rw [hW5]; exact (Below.refl _ _).alloc (Nat.le_refl _) _
    have hd5 : DocU W5 (fun j => w3.heap.size ≤ j) (.slice ao4 l.length cap4) ⟨ep, lw, l⟩ := DocU.grown (DocO.at' (U := ⟨ep, lw, l⟩) ho4) hb5
    have hck := rcheckG_any hd5 HL2.out
    simp only [docU, ← HC.out] at hck
    have HCK := Lib.hid hck
    have HB5 : Hid (Below w.heap.size w W5) := Lib.hid ((HB3.out.trans (hb4.mono HB3.out.size)).trans (hb5.mono (Nat.le_trans HB3.out.size hb4.size)))
    have HW5 := Lib.hid hW5
    clear ho4 hb4 hb5 hd5 hck hW5
    go_wp2_with fail
    rw [← HW5.out]
    refine HCK.out.mono ?_
    rintro e w6 ⟨rfl, hb6⟩
    have HB6 : Hid (Below w.heap.size w w6) := Lib.hid (HB5.out.trans (hb6.mono HB5.out.size))
    clear hb6
    go_wp2_with fail
    refine (HNUM.out _).mono ?_
    rintro e w7 ⟨rfl, rfl⟩
    go_wp2_with fail
    refine (new_unit _).mono ?_
    rintro e w8 ⟨rfl, hu8, hb8⟩
    have HB8 : Hid (Below w.heap.size w w8) := Lib.hid (HB6.out.trans (hb8.mono HB6.out.size))
    clear hu8 hb8
    go_wp2_with fail
    refine (usame_nil _ _).mono ?_
    rintro e w9 ⟨rfl, rfl⟩
    go_wp2_with fail
    refine (usame_nils _).mono ?_
    rintro e w9 ⟨rfl, rfl⟩
    go_wp2
    go_ret
    exact ⟨rfl, HB8.out⟩
  · subst hz
    have HU : Hid (UOk ⟨ep, lw, l⟩) := Lib.hid hu.ok
    have HUN := Lib.hid hu
    have HUL : Hid (w.heap.size ≤ u ∧ w.heap.size ≤ m ∧ u < w3.heap.size ∧ m < w3.heap.size) := Lib.hid ⟨by have := HB2.out.size; omega, by have := HB2.out.size; omega, hu.ult, hu.mlt⟩
    clear hu hul hml hB
    go_wp2_with fail
    refine HEN.out.mono ?_
    rintro e w4 ⟨v4, rfl, ho4, hb4⟩
    obtain ⟨ao4, cap4, rfl⟩ := ho4.val
    obtain ⟨W5, hW5⟩ : ∃ W5, W5 = w4.alloc (.cells #[.int .i64 ep, .int .i64 lw, .slice ao4 l.length cap4] 28) := ⟨_, rfl⟩
    have hb5 : Below w4.heap.size w4 W5 := by rw [hW5]; exact (Below.refl _ _).alloc (Nat.le_refl _) _
    have hx5 : W5.heap[w4.heap.size]? = some (.cells #[.int .i64 ep, .int .i64 lw, .slice ao4 l.length cap4] 28 (0, 0)) := by rw [hW5]; exact heap_alloc_new _ _
    have hd5 : DocU W5 (fun j => w3.heap.size ≤ j) (.slice ao4 l.length cap4) ⟨ep, lw, l⟩ := DocU.grown (DocO.at' (U := ⟨ep, lw, l⟩) ho4) hb5
    have hck := rcheckG_any hd5 HL2.out
    simp only [docU, ← HC.out] at hck
    have HCK := Lib.hid hck
    have hb35 : Below w3.heap.size w3 W5 := hb4.trans (hb5.mono hb4.size)
    have HB5 : Hid (Below w.heap.size w W5) := Lib.hid (HB3.out.trans (hb35.mono HB3.out.size))
    have HUN5 := Lib.hid (HUN.out.old hb35)
    obtain ⟨q, hq⟩ : ∃ q, q = w4.heap.size := ⟨_, rfl⟩
    rw [← hq] at hx5
    have HQL : Hid (q < W5.heap.size ∧ w3.heap.size ≤ q) := Lib.hid ⟨(Array.getElem?_eq_some_iff.1 hx5).1, by rw [hq]; exact hb4.size⟩
    have HX5 := Lib.hid hx5
    have HD5 := Lib.hid hd5
    have HW5 := Lib.hid hW5
    have HQ := Lib.hid hq
    clear ho4 hb4 hb5 hd5 hck hW5 hx5 hb35 hq
    go_wp2_with fail
    rw [← HW5.out, ← HQ.out]
    refine HCK.out.mono ?_
    rintro e w6 ⟨rfl, hb6⟩
    have HB6 : Hid (Below w.heap.size w w6) := Lib.hid (HB5.out.trans (hb6.mono HB5.out.size))
    have hx6 := (hb6.block q HQL.out.1).trans HX5.out
    have HX6 : Hid (∀ W, Below w6.heap.size w6 W → W.cell? ⟨q, 0, none⟩ = some (.int .i64 ep) ∧ W.cell? ⟨q, 1, none⟩ = some (.int .i64 lw) ∧ W.cell? ⟨q, 2, none⟩ = some (.slice ao4 l.length cap4)) := Lib.hid fun W hb => by
      obtain ⟨h0, h1, h2, _⟩ := three_cells ((hb.block q (Array.getElem?_eq_some_iff.1 hx6).1).trans hx6)
      exact ⟨h0, h1, h2⟩
    obtain ⟨q0, q1, q2⟩ := HX6.out w6 (Below.refl _ _)
    have HUN6 := Lib.hid (HUN5.out.old hb6)
    have HD6 := Lib.hid (HD5.out.grown hb6)
    have h6d : Below w6.heap.size w6 w6.drew := ⟨rfl, rfl, rfl, Nat.le_refl _, fun _ _ => rfl⟩
    have hdo := documentU_any (HUN6.out.old h6d)
    simp only [docU] at hdo
    have HDO := Lib.hid hdo
    have HRS : Hid (∀ (W : World) (lv : Value) (BX : Nat → Prop), Below w6.heap.size w6 W → DocU W BX lv ⟨ep, lw, l⟩ → Calls Try.prog 17 #[.agg #[.int .i64 ep, .int .i64 lw, lv], .agg #[.int .i64 ep, .int .i64 lw, .slice ao4 l.length cap4]] W fun r w' => r = .returned (.bool true) ∧ Below W.heap.size W w') := Lib.hid fun W lv BX hb hd => by
      have h := rsameG_any hd (HD6.out.grown hb) HU.out.bytes HU.out.bytes HL2.out HL2.out
      rw [sameUS_self] at h
      exact h
    have H6D := Lib.hid h6d
    have HZ0 : Hid (∀ W : World, W.heap.size ≤ W.drew.heap.size) := Lib.hid fun W => Nat.le_refl _
    clear hb6 hx6 hdo h6d
    go_wp2_with fail
    go_region_held3 (fun w' => w'.cell? ⟨q, 0, none⟩ = some (.int .i64 ep) ∧ w'.cell? ⟨q, 1, none⟩ = some (.int .i64 lw) ∧ w'.cell? ⟨q, 2, none⟩ = some (.slice ao4 l.length cap4)) (go_keep) (first
      | (go_at_call 18
         refine HDO.out.mono ?_
         rintro r w7 ⟨lv7, rfl, hd7, hb7⟩
         have hb67 : Below w6.heap.size w6 w7 := H6D.out.trans (hb7.mono H6D.out.size)
         obtain ⟨q0, q1, q2⟩ := HX6.out w7 hb67
         obtain ⟨ao7, cap7, rfl⟩ := hd7.val
         have HR7 := Lib.hid (HRS.out w7 _ _ hb67 hd7)
         have HB7 := Lib.hid hb67
         clear hd7 hb7 hb67)
      | (go_at_call 17
         refine HR7.out.mono ?_
         rintro r w8 ⟨rfl, hb8⟩
         have HB8 := Lib.hid (HB7.out.trans (hb8.mono HB7.out.size))
         obtain ⟨q0, q1, q2⟩ := HX6.out w8 HB8.out
         clear hb8))
    have hu8 := (HUN6.out.old HB8.out).more (C := fun j => B j ∧ j < w8.heap.size) (fun j hj hB => ⟨hB, hj⟩) (fun hc => HUN6.out.nu hc.1) (fun hc => HUN6.out.nm hc.1)
    have HCO := Lib.hid (ucopy_any hu8 fun j hj => hj.2)
    have HU8 := Lib.hid hu8
    clear hu8
    go_wp2_with fail
    refine HCO.out.mono ?_
    rintro r w9 ⟨cu, cm, rfl, hc9, hcu, hcm, hb9⟩
    have HB9 := Lib.hid (HB8.out.trans (hb9.mono HB8.out.size))
    have HU9 := Lib.hid (HU8.out.old hb9)
    have HC9 := Lib.hid hc9
    have HCU : Hid (w6.heap.size ≤ cu ∧ w6.heap.size ≤ cm) := Lib.hid (by have := HB8.out.size; omega)
    have HNE : Hid (¬ u = cu ∧ ¬ m = cu ∧ ¬ u = cm ∧ ¬ m = cm ∧ w.heap.size ≤ cu ∧ w.heap.size ≤ cm) := Lib.hid (by
      have h1 := HU8.out.ult
      have h2 := HU8.out.mlt
      have h3 := HB6.out.size
      have h4 := HB8.out.size
      omega)
    have h9d : Below w9.heap.size w9 w9.drew := ⟨rfl, rfl, rfl, Nat.le_refl _, fun _ _ => rfl⟩
    have hs1 := usame_any (HC9.out.old h9d) (HU9.out.old h9d)
    rw [sameUS_self] at hs1
    have HS1 := Lib.hid hs1
    have H9D : Hid (Below w9.heap.size w9 w9.drew) := Lib.hid h9d
    obtain ⟨sb, hsb⟩ : ∃ b, b = sameUS ⟨ep, lw, l⟩ unew := ⟨_, rfl⟩
    have HSB := Lib.hid hsb
    have hsn : (sb != sb) = false := by simp
    have HRE : Hid (∀ W : World, Below w9.heap.size w9 W → Calls Try.prog 17 #[.agg #[.int .i64 ep, .int .i64 lw, .slice ao4 l.length cap4], .agg #[.int .i64 0, .int .i64 0, .slice none 0 0]] W fun r w' => r = .returned (.bool sb) ∧ Below W.heap.size W w') := Lib.hid fun W hb => by
      have h := rsameG_any ((HD6.out.grown HB9.out).grown hb) (doc_unew2 W) HU.out.bytes unew_ok.bytes HL2.out (by simp [unew])
      rw [← HSB.out] at h
      exact h
    obtain ⟨q0, q1, q2⟩ := HX6.out w9 HB9.out
    clear hc9 hcu hcm hb9 h9d hs1 hsb
    go_wp2_with fail
    go_region_held3 (fun w' => w'.cell? ⟨q, 0, none⟩ = some (.int .i64 ep) ∧ w'.cell? ⟨q, 1, none⟩ = some (.int .i64 lw) ∧ w'.cell? ⟨q, 2, none⟩ = some (.slice ao4 l.length cap4)) (go_keep) (first
      | (go_at_call 16
         with_reducible refine HS1.out.mono ?_
         rintro r w10 ⟨rfl, hb10⟩
         have HB10 := Lib.hid (H9D.out.trans (hb10.mono H9D.out.size))
         obtain ⟨q0, q1, q2⟩ := HX6.out w10 (HB9.out.trans (HB10.out.mono HB9.out.size))
         clear hb10)
      | (go_at_call 9
         refine (new_unit w10).mono ?_
         rintro r w11 ⟨rfl, hn11, hb11⟩
         have HB11 := Lib.hid (HB10.out.trans (hb11.mono HB10.out.size))
         obtain ⟨q0, q1, q2⟩ := HX6.out w11 (HB9.out.trans (HB11.out.mono HB9.out.size))
         have hs2 := usame_any (HU9.out.old HB11.out) hn11
         rw [← HSB.out] at hs2
         have HS2 := Lib.hid hs2
         clear hn11 hb11 hs2)
      | (go_at_call 16
         refine HS2.out.mono ?_
         rintro r w12 ⟨rfl, hb12⟩
         have HB12 := Lib.hid (HB11.out.trans (hb12.mono HB11.out.size))
         obtain ⟨q0, q1, q2⟩ := HX6.out w12 (HB9.out.trans (HB12.out.mono HB9.out.size))
         clear hb12)
      | (go_at_call 17
         refine (HRE.out w12 HB12.out).mono ?_
         rintro r w13 ⟨rfl, hb13⟩
         have HB13 := Lib.hid (HB12.out.trans (hb13.mono HB12.out.size))
         obtain ⟨q0, q1, q2⟩ := HX6.out w13 (HB9.out.trans (HB13.out.mono HB9.out.size))
         clear hb13))
    have HU13 := Lib.hid (HU9.out.old HB13.out)
    have HC13 := Lib.hid (HC9.out.old HB13.out)
    have HBW : Hid (Below w.heap.size w w13) := Lib.hid ((HB6.out.trans (HB9.out.mono HB6.out.size)).trans (HB13.out.mono (Nat.le_trans HB6.out.size HB9.out.size)))
    have HB613 : Hid (Below w6.heap.size w6 w13) := Lib.hid (HB9.out.trans (HB13.out.mono HB9.out.size))
    have HEW := Lib.hid (uentries_any HU13.out)
    clear hsn
    go_wp2_with fail
    refine HEW.out.mono ?_
    rintro r w14 ⟨v14, rfl, ho14, hb14⟩
    obtain ⟨ao5, cap5, hv5⟩ : ∃ ao5 cap5, v14 = .slice ao5 l.length cap5 := ho14.val
    subst hv5
    have HE14 : Hid (EntAt w14 (fun j => w13.heap.size ≤ j) (.slice ao5 l.length cap5) l) := Lib.hid ho14.at'
    have HB14 := Lib.hid hb14
    obtain ⟨n, hn⟩ : ∃ n, n = l.length := ⟨_, rfl⟩
    rw [← hn] at HE14
    rw [← hn]
    have HN := Lib.hid hn
    have HN9 : Hid (n ≤ 9223372036854775807) := Lib.hid (by have := HLN.out; omega)
    have HBWE : Hid (Below w.heap.size w w14) := Lib.hid (HBW.out.trans (hb14.mono HBW.out.size))
    clear ho14 hb14 hn q0 q1 q2
    go_wp2
    go_loopw [83] (fun i wz => ∃ j : Nat, j ≤ n ∧ i = .int .i64 (j : Int) ∧ Below w14.heap.size w14 wz)
      (fun i _ => n - (intOf i).toNat)
    case atStart => exact ⟨0, Nat.zero_le _, rfl, Below.refl _ _⟩
    case round =>
      obtain ⟨j, hj, rfl, hbz⟩ := hrel
      have HBZ := Lib.hid hbz
      have hbw := HBWE.out.trans (hbz.mono HBWE.out.size)
      by_cases hjt : j < n
      · obtain ⟨f, hf⟩ : ∃ f, l[j]? = some f := ⟨_, List.getElem?_eq_getElem (by rw [← HN.out]; exact hjt)⟩
        obtain ⟨b2, off2, dv2, hao2, hb2, _, d0, d1, d2, hat2⟩ := HE14.out.at hf
        obtain ⟨b3, off3, dv3, hao3, hb3, _, p0, p1, p2, hat3⟩ := HR.out.at hf
        obtain ⟨ao2, cap2, rfl, _, _, _⟩ := hat2.reads.val
        obtain ⟨ao3, cap3, rfl, _, _, _⟩ := hat3.reads.val
        subst hao2 hao3
        replace d0 := (hbz.cell (p := ⟨b2, off2 + j * 3, none⟩) hb2).trans d0
        replace d1 := (hbz.cell (p := ⟨b2, off2 + j * 3 + 1, none⟩) hb2).trans d1
        replace d2 := (hbz.cell (p := ⟨b2, off2 + j * 3 + 2, none⟩) hb2).trans d2
        replace p1 := (hbw.cell (p := ⟨b3, off3 + j * 3 + 1, none⟩) hb3).trans p1
        replace p2 := (hbw.cell (p := ⟨b3, off3 + j * 3 + 2, none⟩) hb3).trans p2
        have hjti : (j : Int) < n := by omega
        have HJ := Lib.hid hjt
        have hfb := H8.out f (List.mem_of_getElem? hf)
        obtain ⟨W15, hW15⟩ : ∃ W15, W15 = wr.alloc (.cells #[.int .i64 f.1, .int .i64 f.2.1, .slice ao2 f.2.2.length cap2] 51) := ⟨_, rfl⟩
        have hb15 : Below wr.heap.size wr W15 := by rw [hW15]; exact (Below.refl _ _).alloc (Nat.le_refl _) _
        have hx15 : W15.heap[wr.heap.size]? = some (.cells #[.int .i64 f.1, .int .i64 f.2.1, .slice ao2 f.2.2.length cap2] 51 (0, 0)) := by rw [hW15]; exact heap_alloc_new _ _
        have hsm := same_any f.2.1 f.2.1 (.slice ao2 f.2.2.length cap2) (.slice ao3 f.2.2.length cap3) f.2.2 f.2.2 W15.drew ((hat2.keep (kept_new hbz _)).keep (kept_new hb15 _)).reads ((hat3.keep (kept_below hbw)).keep (kept_new hb15 _)).reads hfb hfb
        rw [same_refl] at hsm
        have HSM := Lib.hid hsm
        have HB15 := Lib.hid (hbz.trans (hb15.mono hbz.size))
        obtain ⟨y0, y1, y2, _⟩ := three_cells hx15
        have p1 := (hb15.cell (p := ⟨b3, off3 + j * 3 + 1, none⟩) (Nat.lt_of_lt_of_le hb3 hbw.size)).trans p1
        have p2 := (hb15.cell (p := ⟨b3, off3 + j * 3 + 2, none⟩) (Nat.lt_of_lt_of_le hb3 hbw.size)).trans p2
        have HW15 := Lib.hid hW15
        have HXL : Hid (wr.heap.size < W15.heap.size ∧ b3 < W15.heap.size) := Lib.hid ⟨(Array.getElem?_eq_some_iff.1 hx15).1, Nat.lt_of_lt_of_le (Nat.lt_of_lt_of_le hb3 hbw.size) hb15.size⟩
        have hg : decide ((j : Int) < (n : Int)) = true := decide_eq_true hjti
        clear hf hb2 hb3 hat2 hat3 hfb hb15 hx15 hsm hbz hbw hW15 p0
        obtain ⟨fa, fk, fd⟩ := f
        simp only at *
        generalize fd.length = n3 at *
        go_wp2_with fail
        rw [← HW15.out]
        go_region_held3 (fun w' => w'.cell? ⟨wr.heap.size, 1, none⟩ = some (.int .i64 fk) ∧ w'.cell? ⟨wr.heap.size, 2, none⟩ = some (.slice ao2 n3 cap2) ∧ w'.cell? ⟨b3, off3 + j * 3 + 1, none⟩ = some (.int .i64 fk) ∧ w'.cell? ⟨b3, off3 + j * 3 + 2, none⟩ = some (.slice ao3 n3 cap3)) (go_keep) (first
          | (go_at_call 21
             refine HSM.out.mono ?_
             rintro r w16 ⟨rfl, hb16⟩
             have HB16 : Hid (Below W15.heap.size W15 w16) := Lib.hid ⟨hb16.os, hb16.tape, hb16.output, hb16.size, hb16.block⟩
             have y1 := (HB16.out.cell (p := ⟨wr.heap.size, 1, none⟩) HXL.out.1).trans y1
             have y2 := (HB16.out.cell (p := ⟨wr.heap.size, 2, none⟩) HXL.out.1).trans y2
             have p1 := (HB16.out.cell (p := ⟨b3, off3 + j * 3 + 1, none⟩) HXL.out.2).trans p1
             have p2 := (HB16.out.cell (p := ⟨b3, off3 + j * 3 + 2, none⟩) HXL.out.2).trans p2
             clear hb16))
        all_goals
          go_wp2
          go_roundw
          case rel => exact ⟨j + 1, HJ.out, (by first | exact uinc_eq HJ.out HN9.out | rfl), HB15.out.trans (HB16.out.mono HB15.out.size)⟩
          case measure => first | exact uinc_meas HJ.out HN9.out | (have := HJ.out; simp [intOf]; omega)
      · obtain rfl : j = n := by omega
        have HUR := Lib.hid ((HU13.out.old HB14.out).old hbz)
        have HCR := Lib.hid ((HC13.out.old HB14.out).old hbz)
        have HBWR := Lib.hid hbw
        have HB6R := Lib.hid ((HB613.out.trans (HB14.out.mono HB613.out.size)).trans (hbz.mono (Nat.le_trans HB613.out.size HB14.out.size)))
        clear hbz hbw
        by_cases hl : lw < 1048576
        rotate_left
        · go_wp2
          go_ret
          exact ⟨rfl, HBWR.out⟩
        by_cases he : ep = 0
        rotate_left
        · have he2 : (ep == 0) = false := beq_eq_false_iff_ne.2 he
          clear he
          go_wp2
          go_ret
          exact ⟨rfl, HBWR.out⟩
        subst he
        have HTR := Lib.hid (utrim_any HCR.out 0 1048576)
        have HOT := Lib.hid (trim_other (e := 0) (l := l) hl)
        go_wp2_with fail
        clear hl
        refine HTR.out.mono ?_
        rintro r w17 ⟨rfl, hp17⟩
        have hlc := HNE.out
        have hs6 := HB6R.out.size
        have hcl : w6.heap.size ≤ cu ∧ w6.heap.size ≤ cm := HCU.out
        have hb617 : Below w6.heap.size w6 w17 := HB6R.out.trans (hp17.2.below hs6 fun j hj e => by omega)
        have HB17 : Hid (Below w.heap.size w w17) := Lib.hid (HB6.out.trans (hb617.mono HB6.out.size))
        have h17d : Below w17.heap.size w17 w17.drew := ⟨rfl, rfl, rfl, Nat.le_refl _, fun _ _ => rfl⟩
        have hsm := usame_any (hp17.1.old h17d) ((HUN6.out.old hb617).old h17d)
        rw [HOT.out] at hsm
        have HSM := Lib.hid hsm
        have hdo : ∀ W, Below w6.heap.size w6 W → _ := fun W hb => documentU_any (HUN6.out.old hb)
        simp only [docU] at hdo
        have HDO := Lib.hid hdo
        have HB617 := Lib.hid hb617
        have H17D := Lib.hid h17d
        obtain ⟨q0, q1, q2⟩ := HX6.out w17 hb617
        rw [HN.out] at *
        clear hlc hs6 hcl hb617 h17d hsm hdo hp17
        go_wp2_with fail
        go_region_held3 (fun w' => w'.cell? ⟨q, 0, none⟩ = some (.int .i64 0) ∧ w'.cell? ⟨q, 1, none⟩ = some (.int .i64 lw) ∧ w'.cell? ⟨q, 2, none⟩ = some (.slice ao4 l.length cap4)) (go_keep) (first
          | (go_at_call 16
             refine HSM.out.mono ?_
             rintro r w18 ⟨rfl, hb18⟩
             have HB18 := Lib.hid (H17D.out.trans (hb18.mono H17D.out.size))
             have HB618 := Lib.hid (HB617.out.trans (HB18.out.mono HB617.out.size))
             obtain ⟨q0, q1, q2⟩ := HX6.out w18 HB618.out
             clear hb18)
          | (go_at_call 18
             refine (HDO.out w18 HB618.out).mono ?_
             rintro r w19 ⟨lv19, rfl, hd19, hb19⟩
             have HB19 := Lib.hid (HB18.out.trans (hb19.mono HB18.out.size))
             have HB619 := Lib.hid (HB618.out.trans (hb19.mono HB618.out.size))
             obtain ⟨q0, q1, q2⟩ := HX6.out w19 HB619.out
             obtain ⟨ao19, cap19, rfl⟩ := hd19.val
             have HR19 := Lib.hid (HRS.out w19 _ _ HB619.out hd19)
             clear hd19 hb19)
          | (go_at_call 17
             refine HR19.out.mono ?_
             rintro r w20 ⟨rfl, hb20⟩
             have HB20 := Lib.hid (HB19.out.trans (hb20.mono HB19.out.size))
             have HB620 := Lib.hid (HB619.out.trans (hb20.mono HB619.out.size))
             obtain ⟨q0, q1, q2⟩ := HX6.out w20 HB620.out
             clear hb20))
        all_goals
          go_wp2
          go_ret
          exact ⟨rfl, HB17.out.trans (HB20.out.mono HB17.out.size)⟩
end Go.Proofs.Ytnhffeppbliabaa
