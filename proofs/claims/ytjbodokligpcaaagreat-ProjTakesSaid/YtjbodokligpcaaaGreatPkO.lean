/- ProjTakes' walk. -/
import Derived.Test.YtjbodokligpcaaaGreatPkH
import Derived.Test.YtjbodokligpcaaaGreatPjQ
import Derived.Test.YtjbodokligpcaaaGreatPjO
import Derived.ProofKit
import Derived.Deep.Slices
import Derived.Deep.Cut
namespace Go.Proofs.YtjbodokligpcaaaGreat
open Go.RowKit Go.ChangeShapes Go.WideShapes Go.Deep

/-- Bytes that came in. -/
theorem pbytes_of_trod {H : Type} {enc : TypeId × Value → H} {W : World} {base : Nat} {held : Bool} {a : Option Addr} {len cap : Nat} {d : DataW H} {p : List MemPlace}
    (h : DataW.Trod enc Tryz.prog W base (fun _ => true) held 22 (.slice a len cap) d p) :
    ∃ l : List Nat, l.length = len ∧ Reads W .u8 (.slice a len cap) l ∧ ∀ y ∈ l, y < 256 := by
  obtain ⟨fuel, hf⟩ := h
  rcases open_ints Tryz.underlying22 Tryz.underlying5 (by kernel_rfl) hf with ⟨hv, _⟩ | ⟨x2, l2, c2, zs, hv, _, hl2, hm2, hz, _, hcell, hwz⟩
  · simp [Value.cells] at hv
    obtain ⟨rfl, rfl, rfl⟩ := hv
    exact ⟨[], rfl, ⟨none, 0, rfl, by simp, by simp [maxLen], fun _ => rfl, .inl rfl⟩, by simp⟩
  · simp [Value.cells] at hv
    obtain ⟨rfl, rfl, rfl⟩ := hv
    obtain ⟨l3, hl3, hr3, hw3⟩ := reads_of_row (w := W) (k := .u8) (a := some x2) (len := len) (cap := cap) (zs := zs) (.inr ⟨x2, rfl, hl2, hm2, by simpa using hz, hcell, hwz⟩) (fun n h => (wf_u8 h).1)
    exact ⟨l3, hl3, hr3, fun y hy => by have := wf_u8 (hw3 y hy); omega⟩
theorem psame_selfT (e : Int) (a : List (List Int)) : psame e a e a = true := by unfold psame; simp
/-- Both answers side by side. -/
theorem takes_both {b : List Nat} {ep ep' : Int} {cs cs' : List (List Int)} {c c' : Nat} (h : RProj b ep cs c) (h' : RProj b ep' cs' c') : c = c' ∧ (c = 0 → ep = ep' ∧ cs = cs') := h.unique h'

set_option maxHeartbeats 8000000 in
set_option maxRecDepth 100000 in
theorem projTakes_walk (bv : Value) (b : List Nat) (ep1 ep2 : Int) (v1 v2 : Value) (cs1 cs2 : List (List Int)) (w : World) (B C : Nat → Prop) (hb : Reads w .u8 bv b) (h8 : ∀ y ∈ b, y < 256) (h1 : Chs w B v1 cs1) (h2 : Chs w C v2 cs2) :
    Calls Tryz.prog 3 #[bv, .agg #[.int .i64 ep1, v1], .agg #[.int .i64 ep2, v2]] w fun e w' => e = .returned (.bool true) ∧ Below w.heap.size w w' := by
  replace h1 : Chs w (fun _ => True) v1 cs1 := h1.mono fun _ _ _ => trivial
  replace h2 : Chs w (fun _ => True) v2 cs2 := h2.mono fun _ _ _ => trivial
  obtain ⟨aob, capb, hbv, _, _, _⟩ := hb.val
  obtain ⟨ao1, cap1, rfl, l1, m1, _⟩ := h1.val
  obtain ⟨ao2, cap2, rfl, l2, m2, _⟩ := h2.val
  obtain ⟨W1, hW1⟩ : ∃ W1, W1 = (w.alloc (.cells #[.int .i64 ep1, .slice ao1 cs1.length cap1] 25)).alloc (.cells #[.int .i64 ep2, .slice ao2 cs2.length cap2] 25) := ⟨_, rfl⟩
  have hb1 : Below w.heap.size w W1 := by rw [hW1]; exact ((Below.refl _ _).alloc (Nat.le_refl _) _).alloc (by simp) _
  have hx1 : Box2 W1 w.heap.size (.int .i64 ep1) (.slice ao1 cs1.length cap1) := by rw [hW1]; exact (box2_new _ _ _ _).old ((Below.refl _ _).alloc (Nat.le_refl _) _)
  have hy1 : Box2 W1 (w.heap.size + 1) (.int .i64 ep2) (.slice ao2 cs2.length cap2) := by
    have := box2_new (w.alloc (.cells #[.int .i64 ep1, .slice ao1 cs1.length cap1] 25)) (.int .i64 ep2) (.slice ao2 cs2.length cap2) 25
    rw [hW1]; simpa using this
  have HX1 := Lib.hid hx1
  have HY1 := Lib.hid hy1
  have HB1 := Lib.hid hb1
  have HP1 := Lib.hid (h1.old hb1)
  have HQ1 := Lib.hid (h2.old hb1)
  have HBY1 := Lib.hid (hb.new hb1)
  have H8 := Lib.hid h8
  have HA := Lib.hid (alive11_any W1)
  obtain ⟨nb, hnb⟩ : ∃ n, n = b.length := ⟨_, rfl⟩
  obtain ⟨n1, hn1⟩ : ∃ n, n = cs1.length := ⟨_, rfl⟩
  obtain ⟨n2, hn2⟩ : ∃ n, n = cs2.length := ⟨_, rfl⟩
  rw [← hnb] at hbv
  rw [← hn1] at HX1 HP1 hW1 ⊢
  rw [← hn2] at HY1 HQ1 hW1 ⊢
  have HNB := Lib.hid hnb
  subst hbv
  have HW1 := Lib.hid hW1
  clear hb h8 h1 h2 l1 m1 l2 m2 hb1 hx1 hy1 hnb hn1 hn2 hW1
  go_enter Tryz.func3, Tryz.ntmps3
  go_wp2_with fail
  rw [← HW1.out]
  refine HA.out.mono ?_
  rintro e w2 ⟨rfl, hb2⟩
  have q2 := HX1.out.old hb2
  have r2 := HY1.out.old hb2
  have c0 := q2.c0
  have c1 := q2.c1
  have d0 := r2.c0
  have d1 := r2.c1
  have HX2 := Lib.hid q2
  have HY2 := Lib.hid r2
  have HB2 : Hid (Below w.heap.size w w2) := Lib.hid (HB1.out.trans (hb2.mono HB1.out.size))
  have HP2 := Lib.hid (HP1.out.old hb2)
  have HQ2 := Lib.hid (HQ1.out.old hb2)
  have HBY2 := Lib.hid (HBY1.out.new hb2)
  have HLP := Lib.hid (long11_any ep1 _ cs1 w2 _ (HP1.out.old hb2))
  clear hb2 q2 r2
  by_cases g0 : (nb : Int) > 500
  · go_wp2
    go_ret
    exact ⟨rfl, HB2.out⟩
  by_cases g1 : longP cs1 = true
  · rw [g1] at HLP
    clear g1
    go_wp2_with fail
    refine HLP.out.mono ?_
    rintro e w3 ⟨rfl, hb3⟩
    have HB3 : Hid (Below w.heap.size w w3) := Lib.hid (HB2.out.trans (hb3.mono HB2.out.size))
    clear hb3
    go_wp2
    go_ret
    exact ⟨rfl, HB3.out⟩
  have g1 : longP cs1 = false := Bool.eq_false_iff.2 g1
  rw [g1] at HLP
  clear g1
  go_wp2_with fail
  refine HLP.out.mono ?_
  rintro e w3 ⟨rfl, hb3⟩
  have q3 := HX2.out.old hb3
  have r3 := HY2.out.old hb3
  have c0 := q3.c0
  have c1 := q3.c1
  have d0 := r3.c0
  have d1 := r3.c1
  have HX3 := Lib.hid q3
  have HY3 := Lib.hid r3
  have HB3 : Hid (Below w.heap.size w w3) := Lib.hid (HB2.out.trans (hb3.mono HB2.out.size))
  have HP3 := Lib.hid (HP2.out.old hb3)
  have HQ3 := Lib.hid (HQ2.out.old hb3)
  have HBY3 := Lib.hid (HBY2.out.new hb3)
  have HLQ := Lib.hid (long11_any ep2 _ cs2 w3 _ (HQ2.out.old hb3))
  clear hb3 q3 r3
  by_cases g2 : longP cs2 = true
  · rw [g2] at HLQ
    clear g2
    go_wp2_with fail
    refine HLQ.out.mono ?_
    rintro e w4 ⟨rfl, hb4⟩
    have HB4 : Hid (Below w.heap.size w w4) := Lib.hid (HB3.out.trans (hb4.mono HB3.out.size))
    clear hb4
    go_wp2
    go_ret
    exact ⟨rfl, HB4.out⟩
  have g2 : longP cs2 = false := Bool.eq_false_iff.2 g2
  rw [g2] at HLQ
  clear g2
  go_wp2_with fail
  refine HLQ.out.mono ?_
  rintro e w4 ⟨rfl, hb4⟩
  have HX4 := Lib.hid (HX3.out.old hb4)
  have HY4 := Lib.hid (HY3.out.old hb4)
  have HB4 : Hid (Below w.heap.size w w4) := Lib.hid (HB3.out.trans (hb4.mono HB3.out.size))
  have HP4 := Lib.hid (HP3.out.old hb4)
  have HQ4 := Lib.hid (HQ3.out.old hb4)
  have HBY4 := Lib.hid (HBY3.out.new hb4)
  have HTK := Lib.hid (ptake_any _ b w4 (HBY3.out.new hb4) H8.out (by rw [← HNB.out]; omega))
  clear hb4
  go_wp2_with fail
  refine HTK.out.mono ?_
  rintro e w5 ⟨hb5, epx, csx, cx, hrx, hex⟩
  clear g0
  obtain ⟨E, v5, L, er, he5, hce5, hE, hL, her⟩ : ∃ (E : Int) (v5 : Value) (L : List (List Int)) (er : Value), e = .returned (.tuple #[.agg #[.int .i64 E, v5], er]) ∧ Chs w5 (fun _ => True) v5 L ∧ E = (if cx = 0 then epx else 0) ∧ L = (if cx = 0 then csx else []) ∧ er = errV cx := by
    rcases hex with ⟨hz, rfl⟩ | ⟨hz, v, rfl, hc⟩
    · exact ⟨0, _, [], _, rfl, chs_nil _ _, by rw [if_neg hz], by rw [if_neg hz], rfl⟩
    · exact ⟨epx, v, csx, _, rfl, hc.mono fun _ _ _ => trivial, by rw [if_pos hz], by rw [if_pos hz], by rw [hz]; rfl⟩
  subst he5
  have HNUM : Hid (∀ W, Calls Tryz.prog 11 #[er] W fun e w' => e = .returned (.int .i64 (cx : Int)) ∧ W = w') := Lib.hid fun W => by rw [her]; exact num_any cx W
  have HRX := Lib.hid hrx
  have HE := Lib.hid hE
  have HL := Lib.hid hL
  obtain ⟨ao5, cap5, rfl, _, _, _⟩ := hce5.val
  obtain ⟨n5, hn5⟩ : ∃ n, n = L.length := ⟨_, rfl⟩
  rw [← hn5] at hce5 ⊢
  obtain ⟨W6, hW6⟩ : ∃ W, W = w5.alloc (.cells #[.int .i64 E, .slice ao5 n5 cap5] 25) := ⟨_, rfl⟩
  have hb6 : Below w5.heap.size w5 W6 := by rw [hW6]; exact (Below.refl _ _).alloc (Nat.le_refl _) _
  have hb46 : Below w4.heap.size w4 W6 := hb5.trans (hb6.mono hb5.size)
  have HZ6 : Hid (Box2 W6 w5.heap.size (.int .i64 E) (.slice ao5 n5 cap5)) := Lib.hid (by rw [hW6]; exact box2_new _ _ _ _)
  have HX6 := Lib.hid (HX4.out.old hb46)
  have HY6 := Lib.hid (HY4.out.old hb46)
  have HB6 : Hid (Below w.heap.size w W6) := Lib.hid (HB4.out.trans (hb46.mono HB4.out.size))
  have HP6 := Lib.hid (HP4.out.old hb46)
  have HQ6 := Lib.hid (HQ4.out.old hb46)
  have HC6 := Lib.hid (hce5.old hb6)
  have HTD := Lib.hid (rptake_any _ b W6 (HBY4.out.new hb46) H8.out)
  have HW6 := Lib.hid hW6
  clear hb5 hrx hex hE hL her hce5 hn5 hb6 hb46 hW6
  go_wp2_with fail
  rw [← HW6.out]
  refine HTD.out.mono ?_
  rintro e w7 ⟨hb7, epy, csy, cy, hry, hey⟩
  obtain ⟨hcc, hee⟩ := takes_both HRX.out hry
  subst hcc
  obtain ⟨v7, he7, hce7⟩ : ∃ (v7 : Value), e = .returned (.tuple #[.agg #[.int .i64 E, v7], .int .i64 (cx : Int)]) ∧ Chs w7 (fun _ => True) v7 L := by
    rcases hey with ⟨hz, rfl⟩ | ⟨hz, v, rfl, hc⟩
    · have e1 := HE.out
      have e2 := HL.out
      rw [if_neg hz] at e1 e2
      rw [e1, e2]
      exact ⟨_, rfl, chs_nil _ _⟩
    · have e1 := HE.out
      have e2 := HL.out
      rw [if_pos hz] at e1 e2
      obtain ⟨rfl, rfl⟩ := hee hz
      rw [e1, e2]
      exact ⟨v, by rw [hz]; rfl, hc.mono fun _ _ _ => trivial⟩
  subst he7
  obtain ⟨ao7, cap7, rfl, _, _, _⟩ := hce7.val
  obtain ⟨n7, hn7⟩ : ∃ n, n = L.length := ⟨_, rfl⟩
  rw [← hn7] at hce7 ⊢
  obtain ⟨W8, hW8⟩ : ∃ W, W = w7.alloc (.cells #[.int .i64 E, .slice ao7 n7 cap7] 32) := ⟨_, rfl⟩
  have hb8 : Below w7.heap.size w7 W8 := by rw [hW8]; exact (Below.refl _ _).alloc (Nat.le_refl _) _
  have hb68 : Below W6.heap.size W6 W8 := hb7.trans (hb8.mono hb7.size)
  have hu8 : Box2 W8 w7.heap.size (.int .i64 E) (.slice ao7 n7 cap7) := by rw [hW8]; exact box2_new _ _ _ _
  have hz8 := HZ6.out.old hb68
  have hx8 := HX6.out.old hb68
  have hy8 := HY6.out.old hb68
  have HB8 : Hid (Below w.heap.size w W8) := Lib.hid (HB6.out.trans (hb68.mono HB6.out.size))
  have HP8 := Lib.hid (HP6.out.old hb68)
  have HQ8 := Lib.hid (HQ6.out.old hb68)
  have HC8 := Lib.hid (HC6.out.old hb68)
  have HD8 := Lib.hid (hce7.old hb8)
  obtain ⟨b5, hb5e⟩ : ∃ b, b = w5.heap.size := ⟨_, rfl⟩
  obtain ⟨b7, hb7e⟩ : ∃ b, b = w7.heap.size := ⟨_, rfl⟩
  obtain ⟨b0, hb0e⟩ : ∃ b, b = w.heap.size := ⟨_, rfl⟩
  rw [← hb5e] at hz8
  rw [← hb7e] at hu8
  rw [← hb0e] at hx8 hy8
  have HXX : Hid (∀ W, Below W8.heap.size W8 W → (W.cell? ⟨b0, 0, none⟩ = some (.int .i64 ep1) ∧ W.cell? ⟨b0, 1, none⟩ = some (.slice ao1 n1 cap1)) ∧ (W.cell? ⟨b0 + 1, 0, none⟩ = some (.int .i64 ep2) ∧ W.cell? ⟨b0 + 1, 1, none⟩ = some (.slice ao2 n2 cap2)) ∧
      (W.cell? ⟨b5, 0, none⟩ = some (.int .i64 E) ∧ W.cell? ⟨b5, 1, none⟩ = some (.slice ao5 n5 cap5)) ∧ W.cell? ⟨b7, 0, none⟩ = some (.int .i64 E) ∧ W.cell? ⟨b7, 1, none⟩ = some (.slice ao7 n7 cap7)) := Lib.hid fun W hb =>
    ⟨⟨(hx8.old hb).c0, (hx8.old hb).c1⟩, ⟨(hy8.old hb).c0, (hy8.old hb).c1⟩, ⟨(hz8.old hb).c0, (hz8.old hb).c1⟩, (hu8.old hb).c0, (hu8.old hb).c1⟩
  have HDO : Hid (∀ (E : Int) (ao : Option Addr) (n cap : Nat) W, Below W8.heap.size W8 W → Calls Tryz.prog 10 #[.agg #[.int .i64 E, .slice ao n cap]] W fun r w' => r = .returned (.agg #[.int .i64 E, .slice ao n cap]) ∧ Below W8.heap.size W8 w') := Lib.hid fun E ao n cap W hb => (document11_any E ao n cap W).mono fun _ _ ⟨a, b⟩ => ⟨a, hb.trans (b.mono hb.size)⟩
  have HRS : Hid (∀ W, Below W8.heap.size W8 W → Calls Tryz.prog 9 #[.agg #[.int .i64 E, .slice ao5 n5 cap5], .agg #[.int .i64 E, .slice ao7 n7 cap7]] W fun r w' => r = .returned (.bool true) ∧ Below W8.heap.size W8 w') := Lib.hid fun W hb =>
    (rpsame_any E E _ _ L L W _ _ (HC8.out.old hb) (HD8.out.old hb)).mono fun _ _ ⟨a, b⟩ => ⟨by rw [a, psame_selfT], hb.trans (b.mono hb.size)⟩
  obtain ⟨s, hs⟩ : ∃ s, s = psame ep1 cs1 ep2 cs2 := ⟨_, rfl⟩
  have HPS : Hid (∀ W, Below W8.heap.size W8 W → Calls Tryz.prog 12 #[.agg #[.int .i64 ep1, .slice ao1 n1 cap1], .agg #[.int .i64 ep2, .slice ao2 n2 cap2]] W fun r w' => r = .returned (.bool s) ∧ Below W8.heap.size W8 w') := Lib.hid fun W hb =>
    (psame_any ep1 ep2 _ _ cs1 cs2 W _ _ (HP8.out.old hb) (HQ8.out.old hb)).mono fun _ _ ⟨a, b⟩ => ⟨by rw [a, hs], hb.trans (b.mono hb.size)⟩
  have HRT : Hid (∀ W, Below W8.heap.size W8 W → Calls Tryz.prog 9 #[.agg #[.int .i64 ep1, .slice ao1 n1 cap1], .agg #[.int .i64 ep2, .slice ao2 n2 cap2]] W fun r w' => r = .returned (.bool s) ∧ Below W8.heap.size W8 w') := Lib.hid fun W hb =>
    (rpsame_any ep1 ep2 _ _ cs1 cs2 W _ _ (HP8.out.old hb) (HQ8.out.old hb)).mono fun _ _ ⟨a, b⟩ => ⟨by rw [a, hs], hb.trans (b.mono hb.size)⟩
  obtain ⟨⟨x0, x1⟩, ⟨x2, x3⟩, ⟨x4, x5⟩, x6, x7⟩ := HXX.out W8 (Below.refl _ _)
  have HSELF : Hid (Below W8.heap.size W8 W8) := Lib.hid (Below.refl _ _)
  have hcc : ((cx : Int) == (cx : Int)) = true := beq_self_eq_true _
  have hss : (s == s) = true := beq_self_eq_true _
  have HW8 := Lib.hid hW8
  have HB0E := Lib.hid hb0e
  have HB5E := Lib.hid hb5e
  have HB7E := Lib.hid hb7e
  clear hb7 hry hey hee hce7 hn7 hb8 hb68 hu8 hz8 hx8 hy8 hW8 hb0e hb5e hb7e hs
  go_upto_region 7 with fail
  rw [← HW8.out, ← HB0E.out, ← HB5E.out, ← HB7E.out]
  go_region_held3 (fun w' => (w'.cell? ⟨b0, 0, none⟩ = some (.int .i64 ep1) ∧ w'.cell? ⟨b0, 1, none⟩ = some (.slice ao1 n1 cap1)) ∧ (w'.cell? ⟨b0 + 1, 0, none⟩ = some (.int .i64 ep2) ∧ w'.cell? ⟨b0 + 1, 1, none⟩ = some (.slice ao2 n2 cap2)) ∧
      (w'.cell? ⟨b5, 0, none⟩ = some (.int .i64 E) ∧ w'.cell? ⟨b5, 1, none⟩ = some (.slice ao5 n5 cap5)) ∧ w'.cell? ⟨b7, 0, none⟩ = some (.int .i64 E) ∧ w'.cell? ⟨b7, 1, none⟩ = some (.slice ao7 n7 cap7)) (go_keep) (first
    | (go_at_call 9
       with_reducible refine (HRT.out _ ?hbd).mono ?_
       case hbd => first | exact HBK6.out | exact ⟨HBK6.out.os, HBK6.out.tape, HBK6.out.output, HBK6.out.size, HBK6.out.block⟩
       rintro r w16 ⟨rfl, hb16⟩
       have HBK7 := Lib.hid hb16
       obtain ⟨⟨x0, x1⟩, ⟨x2, x3⟩, ⟨x4, x5⟩, x6, x7⟩ := HXX.out w16 hb16
       clear hb16)
    | (go_at_call 10
       with_reducible refine (HDO.out ep2 ao2 n2 cap2 _ ?hbd).mono ?_
       case hbd => first | exact HBK5.out | exact ⟨HBK5.out.os, HBK5.out.tape, HBK5.out.output, HBK5.out.size, HBK5.out.block⟩
       rintro r w15 ⟨rfl, hb15⟩
       have HBK6 := Lib.hid hb15
       obtain ⟨⟨x0, x1⟩, ⟨x2, x3⟩, ⟨x4, x5⟩, x6, x7⟩ := HXX.out w15 hb15
       clear hb15)
    | (go_at_call 10
       with_reducible refine (HDO.out ep1 ao1 n1 cap1 _ ?hbd).mono ?_
       case hbd => first | exact HBK4.out | exact ⟨HBK4.out.os, HBK4.out.tape, HBK4.out.output, HBK4.out.size, HBK4.out.block⟩
       rintro r w14 ⟨rfl, hb14⟩
       have HBK5 := Lib.hid hb14
       obtain ⟨⟨x0, x1⟩, ⟨x2, x3⟩, ⟨x4, x5⟩, x6, x7⟩ := HXX.out w14 hb14
       clear hb14)
    | (go_at_call 12
       with_reducible refine (HPS.out _ ?hbd).mono ?_
       case hbd => first | exact HBK2.out | exact ⟨HBK2.out.os, HBK2.out.tape, HBK2.out.output, HBK2.out.size, HBK2.out.block⟩
       rintro r w13 ⟨rfl, hb13⟩
       have HBK4 := Lib.hid hb13
       obtain ⟨⟨x0, x1⟩, ⟨x2, x3⟩, ⟨x4, x5⟩, x6, x7⟩ := HXX.out w13 hb13
       clear hb13)
    | (go_at_call 11
       refine (HNUM.out _).mono ?_
       rintro r w9 ⟨rfl, rfl⟩)
    | (go_at_call 9
       with_reducible refine (HRS.out _ ?hbd).mono ?_
       case hbd => first | exact HBK1.out | exact ⟨HBK1.out.os, HBK1.out.tape, HBK1.out.output, HBK1.out.size, HBK1.out.block⟩
       rintro r w12 ⟨rfl, hb12⟩
       have HBK2 := Lib.hid hb12
       obtain ⟨⟨x0, x1⟩, ⟨x2, x3⟩, ⟨x4, x5⟩, x6, x7⟩ := HXX.out w12 hb12
       clear hb12)
    | (go_at_call 10
       with_reducible refine (HDO.out E ao5 n5 cap5 _ ?hbd).mono ?_
       case hbd => first | exact HSELF.out | exact ⟨rfl, rfl, rfl, Nat.le_refl _, fun _ _ => rfl⟩
       rintro r w11 ⟨rfl, hb11⟩
       have HBK1 := Lib.hid hb11
       obtain ⟨⟨x0, x1⟩, ⟨x2, x3⟩, ⟨x4, x5⟩, x6, x7⟩ := HXX.out w11 hb11
       clear hb11))
  all_goals (
    have HEND : Hid (Below w.heap.size w w16) := Lib.hid (HB8.out.trans (HBK7.out.mono HB8.out.size))
    go_wp2
    go_ret
    exact ⟨rfl, HEND.out⟩)

end Go.Proofs.YtjbodokligpcaaaGreat
