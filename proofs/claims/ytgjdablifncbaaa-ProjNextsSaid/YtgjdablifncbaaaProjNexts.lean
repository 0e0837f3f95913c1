/- ProjNexts' walk. -/
import Derived.Test.YtgjdablifncbaaaPjR
import Derived.Test.YtgjdablifncbaaaPjO
import Derived.Deep.Cut
namespace Go.Proofs.Ytgjdablifncbaaa
open Go.RowKit

theorem psame_self (e : Int) (a : List (List Int)) : psame e a e a = true := by unfold psame; simp

set_option maxHeartbeats 4000000 in
set_option maxRecDepth 100000 in
theorem projNexts_walk (ep : Int) (v dv sv : Value) (cs : List (List Int)) (dead spares : List Int) (w : World) (B C D : Nat → Prop) (h : Chs w B v cs) (hd : IRow w C dv dead) (hs : IRow w D sv spares) :
    Calls Try.prog 3 #[.agg #[.int .i64 ep, v], dv, sv] w fun e w' => e = .returned (.bool true) ∧ Below w.heap.size w w' := by
  replace h : Chs w (fun _ => True) v cs := h.mono fun _ _ _ => trivial
  replace hd : IRow w (fun _ => True) dv dead := hd.mono fun _ _ _ => trivial
  replace hs : IRow w (fun _ => True) sv spares := hs.mono fun _ _ _ => trivial
  obtain ⟨ao, cap, rfl, l1, m1, _⟩ := h.val
  obtain ⟨aod, capd, hdv, l2, m2, _⟩ := hd.val
  obtain ⟨aos, caps, hsv, l3, m3, _⟩ := hs.val
  obtain ⟨W1, hW1⟩ : ∃ W1, W1 = w.alloc (.cells #[.int .i64 ep, .slice ao cs.length cap] 24) := ⟨_, rfl⟩
  have hb1 : Below w.heap.size w W1 := by rw [hW1]; exact (Below.refl _ _).alloc (Nat.le_refl _) _
  have hx1 : Box2 W1 w.heap.size (.int .i64 ep) (.slice ao cs.length cap) := by rw [hW1]; exact box2_new _ _ _ _
  have HX1 := Lib.hid hx1
  have HB1 := Lib.hid hb1
  have HR := Lib.hid (h.old hb1)
  have HD := Lib.hid (hd.old hb1)
  have HS := Lib.hid (hs.old hb1)
  have HA := Lib.hid (alive11_any W1)
  obtain ⟨dn, hdn⟩ : ∃ n, n = dead.length := ⟨_, rfl⟩
  obtain ⟨sn, hsn⟩ : ∃ n, n = spares.length := ⟨_, rfl⟩
  rw [← hdn] at hdv l2
  rw [← hsn] at hsv l3
  have HSN := Lib.hid hsn
  have HDN := Lib.hid hdn
  unfold maxLen at m2 m3
  subst hdv
  subst hsv
  clear h hd hs hb1 l1 m1 hx1 hdn hsn
  subst hW1
  go_enter Try.func3, Try.ntmps3
  go_wp2_with fail
  refine HA.out.mono ?_
  rintro e w2 ⟨rfl, hb2⟩
  have q2 := HX1.out.old hb2
  have c0 := q2.c0
  have c1 := q2.c1
  have HX2 := Lib.hid q2
  have HB2 : Hid (Below w.heap.size w w2) := Lib.hid (HB1.out.trans (hb2.mono HB1.out.size))
  have HR2 := Lib.hid (HR.out.old hb2)
  have HD2 := Lib.hid (HD.out.old hb2)
  have HS2 := Lib.hid (HS.out.old hb2)
  have HLO := Lib.hid (long11_any ep _ cs w2 _ (HR.out.old hb2))
  clear hb2 q2
  by_cases g1 : longP cs = true
  · rw [g1] at HLO
    clear g1
    go_wp2_with fail
    refine HLO.out.mono ?_
    rintro e w3 ⟨rfl, hb3⟩
    have HB3 : Hid (Below w.heap.size w w3) := Lib.hid (HB2.out.trans (hb3.mono HB2.out.size))
    clear hb3
    go_wp2
    go_ret
    exact ⟨rfl, HB3.out⟩
  have g1 : longP cs = false := Bool.eq_false_iff.2 g1
  have HLL := Lib.hid (longP_iff.1 g1)
  rw [g1] at HLO
  clear g1
  by_cases gd : (dn : Int) > 20
  · go_wp2_with fail
    refine HLO.out.mono ?_
    rintro e w3 ⟨rfl, hb3⟩
    have HB3 : Hid (Below w.heap.size w w3) := Lib.hid (HB2.out.trans (hb3.mono HB2.out.size))
    clear hb3
    go_wp2
    go_ret
    exact ⟨rfl, HB3.out⟩
  by_cases gs : (sn : Int) > 20
  · go_wp2_with fail
    refine HLO.out.mono ?_
    rintro e w3 ⟨rfl, hb3⟩
    have HB3 : Hid (Below w.heap.size w w3) := Lib.hid (HB2.out.trans (hb3.mono HB2.out.size))
    clear hb3
    go_wp2
    go_ret
    exact ⟨rfl, HB3.out⟩
  have HDL : Hid (dead.length ≤ 1000000 ∧ spares.length ≤ 1000000) := Lib.hid ⟨by rw [← HDN.out]; omega, by rw [← HSN.out]; omega⟩
  go_wp2_with fail
  refine HLO.out.mono ?_
  rintro e w3 ⟨rfl, hb3⟩
  have q3 := HX2.out.old hb3
  have c0 := q3.c0
  have c1 := q3.c1
  have HX3 := Lib.hid q3
  have HB3 : Hid (Below w.heap.size w w3) := Lib.hid (HB2.out.trans (hb3.mono HB2.out.size))
  have HR3 := Lib.hid (HR2.out.old hb3)
  have HD3 := Lib.hid (HD2.out.old hb3)
  have HS3 := Lib.hid (HS2.out.old hb3)
  have HCP := Lib.hid (pcopy_any ep _ cs w3 _ (HR2.out.old hb3) (fun c hc => Nat.le_trans (HLL.out.1 c hc) (by decide)) (Nat.le_trans HLL.out.2 (by decide)))
  clear hb3 q3
  go_wp2_with fail
  refine HCP.out.mono ?_
  rintro e w4 ⟨v4, rfl, hr4, hb4⟩
  obtain ⟨ao4, cap4, rfl, _, _, _⟩ := hr4.chs.val
  obtain ⟨W5, hW5⟩ : ∃ W, W = w4.alloc (.cells #[.int .i64 ep, .slice ao4 cs.length cap4] 24) := ⟨_, rfl⟩
  have hb5 : Below w4.heap.size w4 W5 := by rw [hW5]; exact (Below.refl _ _).alloc (Nat.le_refl _) _
  have hb35 : Below w3.heap.size w3 W5 := hb4.trans (hb5.mono hb4.size)
  have hx5 : Box2 W5 w4.heap.size (.int .i64 ep) (.slice ao4 cs.length cap4) := by rw [hW5]; exact box2_new _ _ _ _
  have e0 := hx5.c0
  have e1 := hx5.c1
  rw [hW5] at e0 e1
  have HX5 := Lib.hid hx5
  have HP5 := Lib.hid (HX3.out.old hb35)
  have HB5 : Hid (Below w.heap.size w W5) := Lib.hid (HB3.out.trans (hb35.mono HB3.out.size))
  have HR5 := Lib.hid (HR3.out.old hb35)
  have HD5 := Lib.hid (HD3.out.old hb35)
  have HS5 := Lib.hid (HS3.out.old hb35)
  have HO5 : Hid (Chs W5 (fun _ => True) (.slice ao4 cs.length cap4) cs) := Lib.hid ((hr4.chs.old hb5).mono fun _ _ _ => trivial)
  have HNX := Lib.hid (next_any ep _ _ _ cs dead spares W5 _ HO5.out HD5.out HS5.out HDL.out.1 HDL.out.2)
  have HW5 := Lib.hid hW5
  clear hb4 hr4 hW5 hb5 hb35 hx5
  go_wp2_with fail
  rw [← HW5.out]
  refine HNX.out.mono ?_
  rintro e w6 hpost
  unfold NextPost at hpost
  obtain ⟨v6, rfl, hc6, hb6⟩ := hpost
  obtain ⟨nc, hnc⟩ : ∃ n, n = nchk ep cs dead spares := ⟨_, rfl⟩
  rw [← hnc] at hc6 ⊢
  obtain ⟨E6, hE6⟩ : ∃ x, x = (if nc = 0 then ep + 1 else 0) := ⟨_, rfl⟩
  obtain ⟨L6, hL6⟩ : ∃ x, x = (if nc = 0 then nextL cs dead spares else []) := ⟨_, rfl⟩
  obtain ⟨er, her⟩ : ∃ x, x = errV nc := ⟨_, rfl⟩
  rw [← hE6, ← her]
  rw [← hL6] at hc6
  have HNC := Lib.hid hnc
  have HE6 := Lib.hid hE6
  have HL6 := Lib.hid hL6
  have HNUM : Hid (∀ W, Calls Try.prog 12 #[er] W fun e w' => e = .returned (.int .i64 (nc : Int)) ∧ W = w') := Lib.hid fun W => by rw [her]; exact num_any nc W
  obtain ⟨ao6, cap6, rfl, _, _, _⟩ := hc6.val
  obtain ⟨n6, hn6⟩ : ∃ n, n = L6.length := ⟨_, rfl⟩
  rw [← hn6] at hc6 ⊢
  obtain ⟨W7, hW7⟩ : ∃ W, W = w6.alloc (.cells #[.int .i64 E6, .slice ao6 n6 cap6] 24) := ⟨_, rfl⟩
  have hb7 : Below w6.heap.size w6 W7 := by rw [hW7]; exact (Below.refl _ _).alloc (Nat.le_refl _) _
  have hb57 : Below W5.heap.size W5 W7 := hb6.trans (hb7.mono hb6.size)
  have hx7 : Box2 W7 w6.heap.size (.int .i64 E6) (.slice ao6 n6 cap6) := by rw [hW7]; exact box2_new _ _ _ _
  have hp7 := HP5.out.old hb57
  have e0 := hp7.c0
  have e1 := hp7.c1
  rw [hW7] at e0 e1
  have HX7 := Lib.hid hx7
  have HP7 := Lib.hid hp7
  have HO7 := Lib.hid (HX5.out.old hb57)
  have HB7 : Hid (Below w.heap.size w W7) := Lib.hid (HB5.out.trans (hb57.mono HB5.out.size))
  have HR7 := Lib.hid (HR5.out.old hb57)
  have HD7 := Lib.hid (HD5.out.old hb57)
  have HS7 := Lib.hid (HS5.out.old hb57)
  have HOC7 := Lib.hid (HO5.out.old hb57)
  have HN7 : Hid (Chs W7 (fun _ => True) (.slice ao6 n6 cap6) L6) := Lib.hid ((hc6.old hb7).mono fun _ _ _ => trivial)
  have HDO := Lib.hid (document11_any ep ao cs.length cap W7)
  have HW7 := Lib.hid hW7
  clear hb6 hc6 hW7 hb7 hb57 hx7 hp7 hnc hE6 hL6 her hn6
  go_wp2_with fail
  rw [← HW7.out]
  refine HDO.out.mono ?_
  rintro e w8 ⟨rfl, hb8⟩
  have HP8 := Lib.hid (HP7.out.old hb8)
  have HX8 := Lib.hid (HX7.out.old hb8)
  have HO8 := Lib.hid (HO7.out.old hb8)
  have HR8 := Lib.hid (HR7.out.old hb8)
  have HOC8 := Lib.hid (HOC7.out.old hb8)
  have HN8 := Lib.hid (HN7.out.old hb8)
  have HB8 : Hid (Below w.heap.size w w8) := Lib.hid (HB7.out.trans (hb8.mono HB7.out.size))
  have HRN := Lib.hid (rnext_any ep _ _ _ cs dead spares w8 _ HR8.out (HD7.out.old hb8) (HS7.out.old hb8) HDL.out.1 HDL.out.2)
  clear hb8
  go_wp2_with fail
  refine HRN.out.mono ?_
  rintro e w9 hpost
  unfold RNextPost at hpost
  obtain ⟨v9, rfl, hc9, hb9⟩ := hpost
  rw [← HNC.out, ← HL6.out] at hc9
  rw [← HNC.out, ← HE6.out]
  obtain ⟨ao9, cap9, rfl, _, _, _⟩ := hc9.val
  obtain ⟨n9, hn9⟩ : ∃ n, n = L6.length := ⟨_, rfl⟩
  rw [← hn9] at hc9 ⊢
  obtain ⟨W10, hW10⟩ : ∃ W, W = w9.alloc (.cells #[.int .i64 E6, .slice ao9 n9 cap9] 33) := ⟨_, rfl⟩
  have hb10 : Below w9.heap.size w9 W10 := by rw [hW10]; exact (Below.refl _ _).alloc (Nat.le_refl _) _
  have hb810 : Below w8.heap.size w8 W10 := hb9.trans (hb10.mono hb9.size)
  have hx10 : Box2 W10 w9.heap.size (.int .i64 E6) (.slice ao9 n9 cap9) := by rw [hW10]; exact box2_new _ _ _ _
  have hp10 := HP8.out.old hb810
  have hn10 := HX8.out.old hb810
  have ho10 := HO8.out.old hb810
  have HRR := Lib.hid (HR8.out.old hb810)
  have HOC := Lib.hid (HOC8.out.old hb810)
  have HNN := Lib.hid (HN8.out.old hb810)
  have HMM : Hid (Chs W10 (fun _ => True) (.slice ao9 n9 cap9) L6) := Lib.hid ((hc9.old hb10).mono fun _ _ _ => trivial)
  have HB10 : Hid (Below w.heap.size w W10) := Lib.hid (HB8.out.trans (hb810.mono HB8.out.size))
  obtain ⟨b6, hb6e⟩ : ∃ b, b = w6.heap.size := ⟨_, rfl⟩
  obtain ⟨b9, hb9e⟩ : ∃ b, b = w9.heap.size := ⟨_, rfl⟩
  obtain ⟨b4, hb4e⟩ : ∃ b, b = w4.heap.size := ⟨_, rfl⟩
  obtain ⟨b0, hb0e⟩ : ∃ b, b = w.heap.size := ⟨_, rfl⟩
  rw [← hb6e] at hn10
  rw [← hb9e] at hx10
  rw [← hb4e] at ho10
  rw [← hb0e] at hp10
  have HXX : Hid (∀ W, Below W10.heap.size W10 W → (W.cell? ⟨b0, 0, none⟩ = some (.int .i64 ep) ∧ W.cell? ⟨b0, 1, none⟩ = some (.slice ao cs.length cap)) ∧ (W.cell? ⟨b4, 0, none⟩ = some (.int .i64 ep) ∧ W.cell? ⟨b4, 1, none⟩ = some (.slice ao4 cs.length cap4)) ∧
      (W.cell? ⟨b6, 0, none⟩ = some (.int .i64 E6) ∧ W.cell? ⟨b6, 1, none⟩ = some (.slice ao6 n6 cap6)) ∧ W.cell? ⟨b9, 0, none⟩ = some (.int .i64 E6) ∧ W.cell? ⟨b9, 1, none⟩ = some (.slice ao9 n9 cap9)) := Lib.hid fun W hb =>
    ⟨⟨(hp10.old hb).c0, (hp10.old hb).c1⟩, ⟨(ho10.old hb).c0, (ho10.old hb).c1⟩, ⟨(hn10.old hb).c0, (hn10.old hb).c1⟩, (hx10.old hb).c0, (hx10.old hb).c1⟩
  have HDOC : Hid (∀ W, Below W10.heap.size W10 W → Calls Try.prog 10 #[.agg #[.int .i64 E6, .slice ao6 n6 cap6]] W fun r w' => r = .returned (.agg #[.int .i64 E6, .slice ao6 n6 cap6]) ∧ Below W10.heap.size W10 w') := Lib.hid fun W hb => (document11_any E6 ao6 n6 cap6 W).mono fun _ _ ⟨a, b⟩ => ⟨a, hb.trans (b.mono hb.size)⟩
  have HRSM : Hid (∀ W, Below W10.heap.size W10 W → Calls Try.prog 11 #[.agg #[.int .i64 E6, .slice ao6 n6 cap6], .agg #[.int .i64 E6, .slice ao9 n9 cap9]] W fun r w' => r = .returned (.bool true) ∧ Below W10.heap.size W10 w') := Lib.hid fun W hb =>
    (rpsame_any E6 E6 _ _ L6 L6 W _ _ (HNN.out.old hb) (HMM.out.old hb)).mono fun _ _ ⟨a, b⟩ => ⟨by rw [a, psame_self], hb.trans (b.mono hb.size)⟩
  have HPSM : Hid (∀ W, Below W10.heap.size W10 W → Calls Try.prog 13 #[.agg #[.int .i64 ep, .slice ao4 cs.length cap4], .agg #[.int .i64 ep, .slice ao cs.length cap]] W fun r w' => r = .returned (.bool true) ∧ Below W10.heap.size W10 w') := Lib.hid fun W hb =>
    (psame_any ep ep _ _ cs cs W _ _ (HOC.out.old hb) (HRR.out.old hb)).mono fun _ _ ⟨a, b⟩ => ⟨by rw [a, psame_self], hb.trans (b.mono hb.size)⟩
  obtain ⟨⟨x0, x1⟩, ⟨x2, x3⟩, ⟨x4, x5⟩, x6, x7⟩ := HXX.out W10 (Below.refl _ _)
  have HSELF : Hid (Below W10.heap.size W10 W10) := Lib.hid (Below.refl _ _)
  have hcc : ((nc : Int) == (nc : Int)) = true := beq_self_eq_true _
  have HW10 := Lib.hid hW10
  have HB0 := Lib.hid hb0e
  have HB4E := Lib.hid hb4e
  have HB6E := Lib.hid hb6e
  have HB9E := Lib.hid hb9e
  clear hb9 hc9 hW10 hb10 hb810 hx10 hp10 hn10 ho10 hn9 hb0e hb4e hb6e hb9e e0 e1
  go_upto_region 8 with fail
  rw [← HW10.out, ← HB0.out, ← HB4E.out, ← HB6E.out, ← HB9E.out]
  go_region_held3 (fun w' => (w'.cell? ⟨b0, 0, none⟩ = some (.int .i64 ep) ∧ w'.cell? ⟨b0, 1, none⟩ = some (.slice ao cs.length cap)) ∧ (w'.cell? ⟨b4, 0, none⟩ = some (.int .i64 ep) ∧ w'.cell? ⟨b4, 1, none⟩ = some (.slice ao4 cs.length cap4)) ∧
      (w'.cell? ⟨b6, 0, none⟩ = some (.int .i64 E6) ∧ w'.cell? ⟨b6, 1, none⟩ = some (.slice ao6 n6 cap6)) ∧ w'.cell? ⟨b9, 0, none⟩ = some (.int .i64 E6) ∧ w'.cell? ⟨b9, 1, none⟩ = some (.slice ao9 n9 cap9)) (go_keep) (first
    | (go_at_call 13
       refine (HPSM.out _ ?hbd).mono ?_
       case hbd => first | exact HBS.out | exact ⟨HBS.out.os, HBS.out.tape, HBS.out.output, HBS.out.size, HBS.out.block⟩
       rintro r w13 ⟨rfl, hb13⟩
       have HBZ := Lib.hid hb13
       obtain ⟨⟨x0, x1⟩, ⟨x2, x3⟩, ⟨x4, x5⟩, x6, x7⟩ := HXX.out w13 hb13
       clear hb13)
    | (go_at_call 12
       refine (HNUM.out _).mono ?_
       rintro r w9 ⟨rfl, rfl⟩)
    | (go_at_call 11
       refine (HRSM.out _ ?hbd).mono ?_
       case hbd => first | exact HBD.out | exact ⟨HBD.out.os, HBD.out.tape, HBD.out.output, HBD.out.size, HBD.out.block⟩
       rintro r w12 ⟨rfl, hb12⟩
       have HBS := Lib.hid hb12
       obtain ⟨⟨x0, x1⟩, ⟨x2, x3⟩, ⟨x4, x5⟩, x6, x7⟩ := HXX.out w12 hb12
       clear hb12)
    | (go_at_call 10
       refine (HDOC.out _ ?hbd).mono ?_
       case hbd => first | exact HSELF.out | exact ⟨rfl, rfl, rfl, Nat.le_refl _, fun _ _ => rfl⟩
       rintro r w11 ⟨rfl, hb11⟩
       have HBD := Lib.hid hb11
       obtain ⟨⟨x0, x1⟩, ⟨x2, x3⟩, ⟨x4, x5⟩, x6, x7⟩ := HXX.out w11 hb11
       clear hb11))
  all_goals (
    have HEND : Hid (Below w.heap.size w w13) := Lib.hid (HB10.out.trans (HBZ.out.mono HB10.out.size))
    go_wp2
    go_ret
    exact ⟨rfl, HEND.out⟩)

end Go.Proofs.Ytgjdablifncbaaa
