/- ProjChecks' walk. -/
import Derived.Test.YtgjdablifncbaaaGreatPkC
import Derived.Test.YtgjdablifncbaaaGreatPjO
import Derived.Test.YtgjdablifncbaaaGreatPjU
import Derived.Test.YtgjdablifncbaaaGreatIsA
import Derived.Deep.Cut
import Derived.Deep.RegionHeld3
namespace Go.Proofs.YtgjdablifncbaaaGreat
open Go.RowKit

theorem psame_selfC (e : Int) (a : List (List Int)) : psame e a e a = true := by unfold psame; simp
theorem psame_set {e : Int} {ls : List (List Int)} {y : Int} (h0 : 0 < ls.length) (hne : ls.getD 0 [] ≠ []) (hy : y ≠ (ls.getD 0 []).getD 0 0) : psame e (ls.set 0 ((ls.getD 0 []).set 0 y)) e ls = false := by
  unfold psame
  rw [decide_eq_true rfl, Bool.true_and]
  refine decide_eq_false fun h => hy ?_
  cases ls with
  | nil => simp at h0
  | cons c r =>
    cases c with
    | nil => simp at hne
    | cons x t =>
      simp at h
      simpa using h
theorem Rows1.bump {w : World} {base : Nat} {v : Value} {ls : List (List Int)} (h : Rows1 w base v ls) (h0 : 0 < ls.length) (hne : ls.getD 0 [] ≠ []) :
    ∃ og capo g n capg, v = .slice (some ⟨og, 0, none⟩) ls.length capo ∧ w.cell? ⟨og, 0, none⟩ = some (.slice (some ⟨g, 0, none⟩) n capg) ∧ w.cell? ⟨g, 0, none⟩ = some (.int .i64 ((ls.getD 0 []).getD 0 0)) ∧ w.frozen? ⟨g, 0, none⟩ = false ∧
      base ≤ g ∧ g < w.heap.size ∧ n = (ls.getD 0 []).length ∧ ∀ y, Chs (w.setCell ⟨g, 0, none⟩ (.int .i64 y)) (fun j => base ≤ j) v (ls.set 0 ((ls.getD 0 []).set 0 y)) := by
  obtain ⟨us, h1, h2, h3, h4⟩ := h
  obtain ⟨g, capg, hug, hg1, hg2, _, _⟩ := (h3 0 h0).form hne
  have hI := h3 0 h0
  rw [hug] at hI
  have hpos : 0 < (ls.getD 0 []).length := List.length_pos_iff.2 hne
  have hog := iown_ne (h3 0 h0) h2
  rcases h2.2 with ⟨_, e0⟩ | ⟨og, capo, cur, hv, ho1, ho2, r⟩
  · omega
  have hgo : og ≠ g := by
    intro e
    rw [hug, hv] at hog
    rcases hog with hog | hog
    · cases hog
    · exact hog (by simp [Value.ownBlock, e])
  refine ⟨og, capo, g, _, capg, by rw [hv, h1], ?_, hI.cell rfl hpos, hI.free rfl 0, hg1, hg2, rfl, fun y => ?_⟩
  · rw [← hug]
    have h2v := h2
    rw [hv] at h2v
    rw [World.ownsRow.cellAt h2v 0 (by omega), List.getD_eq_getElem?_getD, List.getElem?_eq_getElem (by omega)]
    rfl
  · have hk : ∀ j, j ≠ g → (w.setCell ⟨g, 0, none⟩ (.int .i64 y)).heap[j]? = w.heap[j]? := fun j hj => heap_setCell_other _ ⟨g, 0, none⟩ j _ hj
    have hR : Rows1 w base v ls := ⟨us, h1, h2, h3, h4⟩
    have h2' : (w.setCell ⟨g, 0, none⟩ (.int .i64 y)).ownsRow base 40 1 v us.length us := ⟨h2.1, .inr ⟨og, capo, cur, hv, ho1, (hk og hgo).trans ho2, r⟩⟩
    have h3' : ∀ i, i < (ls.set 0 ((ls.getD 0 []).set 0 y)).length → IOwn (w.setCell ⟨g, 0, none⟩ (.int .i64 y)) base (us.getD i .nilIface) ((ls.set 0 ((ls.getD 0 []).set 0 y)).getD i []) := by
      intro i hi
      rw [List.length_set] at hi
      by_cases hi0 : i = 0
      · subst hi0
        rw [getD_setL _ _ _ _ _ h0, if_pos rfl, hug]
        exact hI.set rfl 0 y
      · rw [getD_setL _ _ _ _ _ h0, if_neg hi0]
        have hne2 := h4 0 i (by omega) hi g (by rw [hug]; rfl)
        have hJ := h3 i hi
        refine ⟨hJ.1, ?_⟩
        rcases hJ.2 with h5 | ⟨g2, cap2, cur2, e1, e2, e3, r2⟩
        · exact .inl h5
        · refine .inr ⟨g2, cap2, cur2, e1, e2, (hk g2 fun e => hne2 ?_).trans e3, r2⟩
          rw [e1, e]; rfl
    exact ⟨us, by rw [List.length_set]; exact h1, (owned_row h2').mono fun j _ hj => hj.1, Rows1.one (by rw [List.length_set]; exact h1) h3', fun i hi => (h3' i hi).row.mono fun j _ hj => hj.1⟩

theorem ptext_ok {ep : Int} {cs : List (List Int)} (h : pchk ep cs = 0) : (ptext ep cs).length ≤ 300 ∧ ∀ y ∈ ptext ep cs, y < 256 := by
  obtain ⟨⟨en, rfl, hen⟩, ⟨n1, n4⟩, hcs⟩ := pright h
  obtain ⟨a1, a2⟩ := phead_len hen n4
  obtain ⟨b1, b2⟩ := cflat_len (l := cs) fun c hc => ⟨(hcs c hc).1.2, (hcs c hc).2⟩
  unfold ptext
  rw [Int.toNat_natCast]
  exact ⟨by rw [List.length_append]; omega, app_byte a2 b2⟩

set_option maxHeartbeats 4000000 in
set_option maxRecDepth 100000 in
theorem projChecks_walk (ep : Int) (v : Value) (cs : List (List Int)) (a : Int) (w : World) (B : Nat → Prop) (h : Chs w B v cs) :
    Calls Tryz.prog 3 #[.agg #[.int .i64 ep, v], .int .i64 a] w fun e w' => e = .returned (.bool true) ∧ Below w.heap.size w w' := by
  obtain ⟨ao, cap, rfl, l1, m1, _⟩ := h.val
  obtain ⟨W1, hW1⟩ : ∃ W1, W1 = w.alloc (.cells #[.int .i64 ep, .slice ao cs.length cap] 24) := ⟨_, rfl⟩
  have hb1 : Below w.heap.size w W1 := by rw [hW1]; exact (Below.refl _ _).alloc (Nat.le_refl _) _
  have hx1 : Box2 W1 w.heap.size (.int .i64 ep) (.slice ao cs.length cap) := by rw [hW1]; exact box2_new _ _ _ _
  have HX1 := Lib.hid hx1
  have HB1 := Lib.hid hb1
  have HR := Lib.hid (h.old hb1)
  have HA := Lib.hid (alive11_any W1)
  clear h hb1 l1 m1 hx1
  subst hW1
  go_enter Tryz.func3, Tryz.ntmps3
  go_wp2_with fail
  refine HA.out.mono ?_
  rintro e w2 ⟨rfl, hb2⟩
  have q2 := HX1.out.old hb2
  have c0 := q2.c0
  have c1 := q2.c1
  have HX2 := Lib.hid q2
  have HB2 : Hid (Below w.heap.size w w2) := Lib.hid (HB1.out.trans (hb2.mono HB1.out.size))
  have HR2 := Lib.hid (HR.out.old hb2)
  have HLO := Lib.hid (long11_any ep _ cs w2 _ (HR.out.old hb2))
  clear hb2 q2
  by_cases g1 : longP cs = true
  · rw [g1] at HLO
    clear g1
    go_wp2_with fail
    refine HLO.out.mono ?_
    rintro e w3 ⟨rfl, hb3⟩
    have HB3 : Hid (Below w.heap.size w w3) := Lib.hid (HB2.out.trans (hb3.mono HB2.out.size))
    clear hb3
    go_wp2
    go_ret
    exact ⟨rfl, HB3.out⟩
  have g1 : longP cs = false := Bool.eq_false_iff.2 g1
  have HLL := Lib.hid (longP_iff.1 g1)
  have HFL : Hid (cs.flatten.length ≤ 1000) := Lib.hid (by
    have h1 := flatten_le (n := 12) HLL.out.1
    have := HLL.out.2
    omega)
  rw [g1] at HLO
  clear g1
  go_wp2_with fail
  refine HLO.out.mono ?_
  rintro e w3 ⟨rfl, hb3⟩
  have q3 := HX2.out.old hb3
  have c0 := q3.c0
  have c1 := q3.c1
  have HX3 := Lib.hid q3
  have HB3 : Hid (Below w.heap.size w w3) := Lib.hid (HB2.out.trans (hb3.mono HB2.out.size))
  have HR3 := Lib.hid (HR2.out.old hb3)
  have HDO := Lib.hid (document11_any ep ao cs.length cap w3)
  clear hb3 q3
  go_wp2_with fail
  refine HDO.out.mono ?_
  rintro e w4 ⟨rfl, hb4⟩
  obtain ⟨W5, hW5⟩ : ∃ W, W = w4.alloc (.cells #[.int .i64 ep, .slice ao cs.length cap] 27) := ⟨_, rfl⟩
  have hb5 : Below w4.heap.size w4 W5 := by rw [hW5]; exact (Below.refl _ _).alloc (Nat.le_refl _) _
  have hb35 : Below w3.heap.size w3 W5 := hb4.trans (hb5.mono hb4.size)
  have hx5 : Box2 W5 w4.heap.size (.int .i64 ep) (.slice ao cs.length cap) := by rw [hW5]; exact box2_new _ _ _ _
  have e0 := hx5.c0
  have e1 := hx5.c1
  rw [hW5] at e0 e1
  have HX5 := Lib.hid hx5
  have HP5 := Lib.hid (HX3.out.old hb35)
  have HB5 : Hid (Below w.heap.size w W5) := Lib.hid (HB3.out.trans (hb35.mono HB3.out.size))
  have HR5 := Lib.hid (HR3.out.old hb35)
  have HRC := Lib.hid (rpcheck_any ep _ cs W5 _ (HR3.out.old hb35))
  have HW5 := Lib.hid hW5
  clear hb4 hW5 hb5 hb35 hx5
  go_wp2_with fail
  rw [← HW5.out]
  refine HRC.out.mono ?_
  rintro e w6 ⟨rfl, hb6⟩
  have q6 := HP5.out.old hb6
  have c0 := q6.c0
  have c1 := q6.c1
  have HP6 := Lib.hid q6
  have HX6 := Lib.hid (HX5.out.old hb6)
  have HB6 : Hid (Below w.heap.size w w6) := Lib.hid (HB5.out.trans (hb6.mono HB5.out.size))
  have HR6 := Lib.hid (HR5.out.old hb6)
  have HHO := Lib.hid (home_any ep _ cs a w6 _ (HR5.out.old hb6))
  clear hb6 q6 e0 e1
  go_wp2_with fail
  refine HHO.out.mono ?_
  rintro e w7 ⟨rfl, hb7⟩
  obtain ⟨hr, hhr⟩ : ∃ x, x = homeR ep cs a := ⟨_, rfl⟩
  obtain ⟨eh, heh⟩ : ∃ x, x = errV (homeC ep cs a) := ⟨_, rfl⟩
  rw [← hhr, ← heh]
  have HHR := Lib.hid hhr
  have HEH := Lib.hid heh
  have q7 := HP6.out.old hb7
  have c0 := q7.c0
  have c1 := q7.c1
  have HP7 := Lib.hid q7
  have HX7 := Lib.hid (HX6.out.old hb7)
  have HB7 : Hid (Below w.heap.size w w7) := Lib.hid (HB6.out.trans (hb7.mono HB6.out.size))
  have HR7 := Lib.hid (HR6.out.old hb7)
  have HPU : Hid (Calls Tryz.prog 11 #[.agg #[.int .i64 ep, .slice ao cs.length cap]] w7 fun e w' => Below w7.heap.size w7 w' ∧ ∃ aob nb capb, e = .returned (.tuple #[.slice aob nb capb, errV (pchk ep cs)]) ∧
      (pchk ep cs ≠ 0 → nb = 0) ∧ (pchk ep cs = 0 → Reads w' .u8 (.slice aob nb capb) (fr (ptext ep cs)))) := Lib.hid ((pput_any ep _ cs w7 _ (HR6.out.old hb7)).mono fun e w' ⟨hb, hc⟩ => ⟨hb, by
    rcases hc with ⟨hz, v', rfl, ho⟩ | ⟨hz, rfl⟩
    · obtain ⟨aob, capb, rfl, _, _, _⟩ := ho.reads.val
      exact ⟨_, _, _, by rw [hz], fun h => absurd hz h, fun _ => ho.reads⟩
    · exact ⟨_, _, _, rfl, fun _ => rfl, fun h => absurd h hz⟩⟩)
  clear hb7 q7 hhr heh
  go_wp2_with fail
  refine HPU.out.mono ?_
  rintro e w8 ⟨hb8, aob, nb, capb, rfl, hnb, hrb⟩
  obtain ⟨c, hc⟩ : ∃ c, c = pchk ep cs := ⟨_, rfl⟩
  obtain ⟨er, her⟩ : ∃ x, x = errV c := ⟨_, rfl⟩
  rw [← hc] at hnb hrb ⊢
  rw [← her]
  have HCP := Lib.hid hc
  have HER := Lib.hid her
  have HNB := Lib.hid hnb
  have HRB := Lib.hid hrb
  have HB8 : Hid (Below w.heap.size w w8) := Lib.hid (HB7.out.trans (hb8.mono HB7.out.size))
  have HR8 := Lib.hid (HR7.out.old hb8)
  have hp8 := HP7.out.old hb8
  have hm8 := HX7.out.old hb8
  obtain ⟨b4, hb4e⟩ : ∃ b, b = w4.heap.size := ⟨_, rfl⟩
  obtain ⟨b0, hb0e⟩ : ∃ b, b = w.heap.size := ⟨_, rfl⟩
  rw [← hb4e] at hm8
  rw [← hb0e] at hp8
  have HXX : Hid (∀ W, Below w8.heap.size w8 W → (W.cell? ⟨b0, 0, none⟩ = some (.int .i64 ep) ∧ W.cell? ⟨b0, 1, none⟩ = some (.slice ao cs.length cap)) ∧ W.cell? ⟨b4, 0, none⟩ = some (.int .i64 ep) ∧ W.cell? ⟨b4, 1, none⟩ = some (.slice ao cs.length cap)) := Lib.hid fun W hb =>
    ⟨⟨(hp8.old hb).c0, (hp8.old hb).c1⟩, (hm8.old hb).c0, (hm8.old hb).c1⟩
  have HPB := Lib.hid hp8
  have HMB := Lib.hid hm8
  have HNUM : Hid (∀ W, Calls Tryz.prog 12 #[er] W fun e w' => e = .returned (.int .i64 (c : Int)) ∧ W = w') := Lib.hid fun W => by rw [her]; exact num_any c W
  have HINT : Hid (∀ (W : World) (v1 v2 : Value), IRow W (fun _ => True) v1 (unitsL cs.flatten) → IRow W (fun _ => True) v2 (unitsL cs.flatten) → Calls Tryz.prog 14 #[v1, v2] W fun e w' => e = .returned (.bool true) ∧ ∃ n, w' = W.drewN n) := Lib.hid fun W v1 v2 h1 h2 =>
    (numInts_any v1 v2 _ _ W _ _ h1 h2).mono fun _ _ ⟨x, y⟩ => ⟨by rw [x]; simp, y⟩
  have HCK : Hid (∀ W, Below w8.heap.size w8 W → Calls Tryz.prog 13 #[.agg #[.int .i64 ep, .slice ao cs.length cap]] W fun r w' => r = .returned er ∧ Below w8.heap.size w8 w') := Lib.hid fun W hb =>
    (pcheck_any ep _ cs W _ (HR8.out.old hb)).mono fun _ _ ⟨x, y⟩ => ⟨by rw [x, her, hc], hb.trans (y.mono hb.size)⟩
  have HUN : Hid (∀ W, Below w8.heap.size w8 W → Calls Tryz.prog 15 #[.agg #[.int .i64 ep, .slice ao cs.length cap]] W fun r w' => ∃ v', r = .returned v' ∧ IRow w' (fun _ => True) v' (unitsL cs.flatten) ∧ Below w8.heap.size w8 w') := Lib.hid fun W hb =>
    (units_any ep _ cs W _ (HR8.out.old hb) (by have := HFL.out; omega) (by have := HLL.out.2; omega)).mono fun _ _ ⟨v', x, y, z⟩ => ⟨v', x, y.row.mono fun _ _ _ => trivial, hb.trans (z.mono hb.size)⟩
  have HRU : Hid (∀ W, Below w8.heap.size w8 W → Calls Tryz.prog 16 #[.agg #[.int .i64 ep, .slice ao cs.length cap]] W fun r w' => ∃ v', r = .returned v' ∧ IRow w' (fun _ => True) v' (unitsL cs.flatten) ∧ Below W.heap.size W w' ∧ Below w8.heap.size w8 w') := Lib.hid fun W hb =>
    (runits_any ep _ cs W _ (HR8.out.old hb) (by have := HFL.out; omega) (by have := HLL.out.2; omega)).mono fun _ _ ⟨v', x, y, z⟩ => ⟨v', x, y.row.mono fun _ _ _ => trivial, z, hb.trans (z.mono hb.size)⟩
  obtain ⟨⟨x0, x1⟩, x2, x3⟩ := HXX.out w8 (Below.refl _ _)
  have HSELF : Hid (Below w8.heap.size w8 w8) := Lib.hid (Below.refl _ _)
  have hcc : ((c : Int) != (c : Int)) = false := by simp
  have HB0 := Lib.hid hb0e
  have HB4E := Lib.hid hb4e
  clear hb8 hnb hrb hc her hp8 hm8 hb0e hb4e c0 c1
  go_upto_region 9 with fail
  try rw [← HB0.out]
  try rw [← HB4E.out]
  go_region_held3 (fun w' => (w'.cell? ⟨b0, 0, none⟩ = some (.int .i64 ep) ∧ w'.cell? ⟨b0, 1, none⟩ = some (.slice ao cs.length cap)) ∧ w'.cell? ⟨b4, 0, none⟩ = some (.int .i64 ep) ∧ w'.cell? ⟨b4, 1, none⟩ = some (.slice ao cs.length cap)) (go_keep) (first
    | (go_at_call 14
       refine (HINT.out _ _ _ ?hi1 ?hi2).mono ?_
       case hi1 => exact HI1.out
       case hi2 => exact HI2.out
       rintro r w13 ⟨rfl, nq, rfl⟩
       have HEND := Lib.hid (below_draws HBU.out nq))
    | (go_at_call 12
       refine (HNUM.out _).mono ?_
       rintro r w9 ⟨rfl, rfl⟩)
    | (go_at_call 16
       refine (HRU.out _ ?hbd).mono ?_
       case hbd => first | exact HBN.out | exact ⟨HBN.out.os, HBN.out.tape, HBN.out.output, HBN.out.size, HBN.out.block⟩
       rintro r w12 ⟨v12, rfl, hi12, hbl, hb12⟩
       have HBU := Lib.hid hb12
       have HI2 := Lib.hid hi12
       have HI1 := Lib.hid (HIA.out.old (show Below w11.heap.size w11 w12 from ⟨hbl.os, hbl.tape, hbl.output, hbl.size, hbl.block⟩))
       obtain ⟨⟨x0, x1⟩, x2, x3⟩ := HXX.out w12 hb12
       clear hb12 hi12 hbl)
    | (go_at_call 15
       refine (HUN.out _ ?hbd).mono ?_
       case hbd => first | exact HBK.out | exact ⟨HBK.out.os, HBK.out.tape, HBK.out.output, HBK.out.size, HBK.out.block⟩
       rintro r w11 ⟨v11, rfl, hi11, hb11⟩
       have HBN := Lib.hid hb11
       have HIA := Lib.hid hi11
       obtain ⟨⟨x0, x1⟩, x2, x3⟩ := HXX.out w11 hb11
       clear hb11 hi11)
    | (go_at_call 13
       refine (HCK.out _ ?hbd).mono ?_
       case hbd => first | exact HSELF.out | exact ⟨rfl, rfl, rfl, Nat.le_refl _, fun _ _ => rfl⟩
       rintro r w10 ⟨rfl, hb10⟩
       have HBK := Lib.hid hb10
       obtain ⟨⟨x0, x1⟩, x2, x3⟩ := HXX.out w10 hb10
       clear hb10))
  obtain ⟨w14, hw14⟩ : ∃ x, x = w12.drewN nq := ⟨_, rfl⟩
  rw [← hw14] at HEND ⊢
  have HR14 := Lib.hid (HR8.out.old HEND.out)
  have HCPY := Lib.hid (pcopy_any ep _ cs w14 _ (HR8.out.old HEND.out) (fun c hc => Nat.le_trans (HLL.out.1 c hc) (by decide)) (Nat.le_trans HLL.out.2 (by decide)))
  clear x0 x1 x2 x3
  obtain ⟨⟨x0, x1⟩, x2, x3⟩ := HXX.out w14 HEND.out
  clear hw14 hcc
  go_wp2_with fail
  refine HCPY.out.mono ?_
  rintro e w15 ⟨v15, rfl, hr15, hb15⟩
  obtain ⟨ao15, cap15, rfl, _, _, _⟩ := hr15.chs.val
  obtain ⟨W16, hW16⟩ : ∃ W, W = w15.alloc (.cells #[.int .i64 ep, .slice ao15 cs.length cap15] 24) := ⟨_, rfl⟩
  have hb16 : Below w15.heap.size w15 W16 := by rw [hW16]; exact (Below.refl _ _).alloc (Nat.le_refl _) _
  have hx16 : Box2 W16 w15.heap.size (.int .i64 ep) (.slice ao15 cs.length cap15) := by rw [hW16]; exact box2_new _ _ _ _
  have HB816 : Hid (Below w8.heap.size w8 W16) := Lib.hid ((HEND.out.trans (hb15.mono HEND.out.size)).trans (hb16.mono (by have := HEND.out.size; have := hb15.size; omega)))
  clear x0 x1 x2 x3
  obtain ⟨⟨x0, x1⟩, x2, x3⟩ := HXX.out W16 HB816.out
  have e0 := hx16.c0
  have e1 := hx16.c1
  rw [hW16] at x0 x1 x2 x3 e0 e1
  have HX16 := Lib.hid hx16
  have HR15 := Lib.hid hr15
  have HB1516 := Lib.hid hb16
  have HSZ := Lib.hid (show w8.heap.size ≤ w14.heap.size from HEND.out.size)
  have HSM := Lib.hid ((psame_any ep ep _ _ cs cs W16 _ _ (hr15.chs.old hb16) (HR8.out.old HB816.out)).mono fun _ _ ⟨x, y⟩ => (show _ ∧ Below W16.heap.size W16 _ from ⟨x, y⟩))
  rw [psame_selfC] at HSM
  have HW16 := Lib.hid hW16
  clear hr15 hb15 hW16 hb16 hx16
  go_wp2_with fail
  rw [← HW16.out]
  refine HSM.out.mono ?_
  rintro e w17 ⟨rfl, hb17⟩
  have HB17 := Lib.hid hb17
  have HB817 : Hid (Below w8.heap.size w8 w17) := Lib.hid (HB816.out.trans (hb17.mono HB816.out.size))
  have HX17 := Lib.hid (HX16.out.old hb17)
  have hcc2 : ((c : Int) == (c : Int)) = true := beq_self_eq_true _
  clear hb17 x0 x1 x2 x3 e0 e1
  by_cases hc0 : c = 0
  rotate_left
  · have hcn : ((c : Int) != 0) = true := by rw [bne_iff_ne]; omega
    have hhc : homeC ep cs a = c := by unfold homeC; rw [if_pos (by rw [← HCP.out]; exact hc0), HCP.out]
    have h1 : hr = 0 := by rw [HHR.out]; unfold homeR; rw [if_neg (by rw [hhc]; exact hc0)]
    have h2 : eh = er := by rw [HEH.out, HER.out, hhc]
    have h3 : nb = 0 := HNB.out hc0
    have HBZ : Hid (Below w.heap.size w w17) := Lib.hid (HB8.out.trans (HB817.out.mono HB8.out.size))
    subst h1 h2 h3
    clear hhc hc0
    go_wp2_with fail
    refine (HNUM.out _).mono ?_
    rintro e w18 ⟨rfl, rfl⟩
    go_wp2
    go_ret
    exact ⟨rfl, HBZ.out⟩
  subst hc0
  obtain ⟨_, ⟨n1, n4⟩, hcs⟩ := pright HCP.out.symm
  have hm0 := hcs _ (getD_memC 0 n1)
  have hne0 : cs.getD 0 [] ≠ [] := List.length_pos_iff.1 hm0.1.1
  have hy7 := unitB_iff.1 (hm0.2 _ (getD_memI 0 hm0.1.1))
  have hb1517 : Below w15.heap.size w15 w17 := HB1516.out.trans (HB17.out.mono HB1516.out.size)
  obtain ⟨og1, capo1, g1, n1', capg1, hv1, hk1, _, _, _, hg1, _, _⟩ := HR15.out.bump n1 hne0
  obtain ⟨og, capo, g, n, capg, hv, hk, hcy, hfy, hgb, hgl, hng, hset⟩ := (HR15.out.below hb1517).bump n1 hne0
  have hgg : g = g1 := by
    rw [hv] at hv1
    simp only [Value.slice.injEq, Option.some.injEq, Addr.mk.injEq, and_true] at hv1
    rw [← hv1.1] at hk1
    have h1 := (hb1517.cell (p := ⟨og, 0, none⟩) (World.block_lt_of_cell? w15 _ hk1)).trans hk1
    rw [hk] at h1
    simp only [Option.some.injEq, Value.slice.injEq, Addr.mk.injEq, and_true] at h1
    exact h1.1
  rw [← hgg] at hg1
  simp only [Value.slice.injEq] at hv
  obtain ⟨hao, _, hcap⟩ := hv
  subst hao
  subst hcap
  obtain ⟨y, hy⟩ : ∃ y, y = (cs.getD 0 []).getD 0 0 := ⟨_, rfl⟩
  rw [← hy] at hcy hy7
  obtain ⟨y0, y1⟩ := hy7
  have hwy : wrap64 (y + 1) = y + 1 := by simp only [wrap64]; omega
  have hps := psame_set (e := ep) (y := y + 1) n1 hne0 (by rw [← hy]; omega)
  have HCH := Lib.hid (hset (y + 1))
  have hb18 : Below w8.heap.size w8 (w17.setCell ⟨g, 0, none⟩ (.int .i64 (y + 1))) := HB817.out.setCell (show w8.heap.size ≤ g by have := HSZ.out; omega) _
  have HB18 := Lib.hid hb18
  have HSM2 := Lib.hid ((psame_any ep ep _ _ _ cs _ _ _ HCH.out (HR8.out.old hb18)).mono fun _ _ ⟨x, z⟩ => (show _ ∧ Below (w17.setCell ⟨g, 0, none⟩ (.int .i64 (y + 1))).heap.size (w17.setCell ⟨g, 0, none⟩ (.int .i64 (y + 1))) _ from ⟨x, z⟩))
  rw [hps] at HSM2
  have q17 := HX17.out
  have e0 := q17.c0
  have e1 := q17.c1
  have hgne : g ≠ w15.heap.size := by omega
  have k0 := (World.cell?_setCell_other w17 ⟨g, 0, none⟩ ⟨w15.heap.size, 0, none⟩ (.int .i64 (y + 1)) (fun e => hgne (by simpa using congrArg Addr.block e))).trans e0
  have k1 := (World.cell?_setCell_other w17 ⟨g, 0, none⟩ ⟨w15.heap.size, 1, none⟩ (.int .i64 (y + 1)) (fun e => hgne (by simpa using congrArg Addr.block e))).trans e1
  obtain ⟨⟨x0, x1⟩, x2, x3⟩ := HXX.out _ hb18
  have hn0 : (0 : Int) < (n : Int) := by rw [hng]; have := hm0.1.1; omega
  have hcl0 : (0 : Int) < (cs.length : Int) := by omega
  have hcl4 : (cs.length : Int) ≤ 4 := by omega
  have HRP := Lib.hid (fun (W : World) (hb : Below w8.heap.size w8 W) => rpput_any ep _ cs W _ (HR8.out.old hb) HCP.out.symm)
  have HPO := Lib.hid (ptext_ok HCP.out.symm)
  have hby : ∀ z ∈ fr (ptext ep cs), z < 256 := fr_byte HPO.out.2 (u64_of_le (by have := HPO.out.1; omega))
  have HBY := Lib.hid hby
  have HER0 : Hid (er = .nilIface) := Lib.hid (by rw [HER.out, errV_zero])
  clear hcs hm0 hne0 hb1517 hv1 hk1 hgb hgl hng hset hgg hg1 hy hps hb18 q17 hgne hby n1 n4
  go_wp2_with fail
  refine HSM2.out.mono ?_
  rintro e w19 ⟨rfl, hb19⟩
  have HB19 : Hid (Below w8.heap.size w8 w19) := Lib.hid (HB18.out.trans (hb19.mono HB18.out.size))
  obtain ⟨⟨x0, x1⟩, x2, x3⟩ := HXX.out w19 HB19.out
  have HRP19 := Lib.hid (HRP.out w19 HB19.out)
  clear hb19
  go_wp2_with fail
  refine HRP19.out.mono ?_
  rintro e w20 ⟨v20, rfl, ho20, hb20⟩
  have HB20 : Hid (Below w8.heap.size w8 w20) := Lib.hid (HB19.out.trans (hb20.mono HB19.out.size))
  obtain ⟨⟨x0, x1⟩, x2, x3⟩ := HXX.out w20 HB20.out
  obtain ⟨ao20, cap20, rfl, _, _, _⟩ := ho20.reads.val
  obtain ⟨n20, hn20⟩ : ∃ z, z = (fr (ptext ep cs)).length := ⟨_, rfl⟩
  have HNB2 : Hid (Calls Tryz.prog 19 #[.slice aob nb capb, .slice ao20 n20 cap20] w20 fun e w' => e = .returned (.bool true) ∧ w20 = w') := Lib.hid (by
    rw [hn20]
    exact (numBytes_any _ _ _ _ w20 ((HRB.out (by trivial)).new HB20.out) ho20.reads HBY.out HBY.out).mono fun _ _ ⟨x, z⟩ => ⟨by rw [x, decide_eq_true rfl], z⟩)
  rw [← hn20]
  have HBZ : Hid (Below w.heap.size w w20) := Lib.hid (HB8.out.trans (HB20.out.mono HB8.out.size))
  clear ho20 hb20 hn20
  by_cases ha : addrB a = true
  · obtain ⟨a0, a1⟩ := addrB_iff.1 ha
    have hhc : homeC ep cs a = 0 := by unfold homeC; rw [if_neg (by rw [← HCP.out]; simp), if_neg (by rw [ha]; simp)]
    have h1 : hr = a % (cs.length : Int) := by rw [HHR.out]; unfold homeR; rw [if_pos hhc]
    have h2 : eh = .nilIface := by rw [HEH.out, hhc, errV_zero]
    have htm : Int.tmod a (cs.length : Int) = hr := by rw [h1]; exact Int.tmod_eq_emod_of_nonneg a0
    have hl0 : ((cs.length : Int) == 0) = false := by rw [beq_eq_false_iff_ne]; omega
    have hxx : (hr == hr) = true := beq_self_eq_true _
    have na0 : ¬ a < 0 := by omega
    have na1 : ¬ a > 1048575 := by omega
    subst h2
    clear h1 hhc ha
    go_wp2_with fail
    refine HNB2.out.mono ?_
    rintro e w21 ⟨rfl, rfl⟩
    go_wp2
    go_ret
    exact ⟨rfl, HBZ.out⟩
  · have haf : addrB a = false := Bool.eq_false_iff.2 ha
    have hhc : homeC ep cs a = 1 := by unfold homeC; rw [if_neg (by rw [← HCP.out]; simp), if_pos haf]
    have h1 : hr = 0 := by rw [HHR.out]; unfold homeR; rw [if_neg (by rw [hhc]; decide)]
    have HIS : Hid (∀ W, Calls Tryz.prog 21 #[eh, .int .i64 1] W fun e w' => e = .returned (.bool true) ∧ W = w') := Lib.hid fun W => by rw [HEH.out, hhc]; exact is_any 1 W
    subst h1
    by_cases na0 : a < 0
    · clear hhc ha haf
      go_wp2_with fail
      refine HNB2.out.mono ?_
      rintro e w21 ⟨rfl, rfl⟩
      go_wp2_with fail
      refine (HIS.out _).mono ?_
      rintro e w22 ⟨rfl, rfl⟩
      go_wp2
      go_ret
      exact ⟨rfl, HBZ.out⟩
    · have na1 : a > 1048575 := by
        refine Classical.byContradiction fun hn => ha (addrB_iff.2 ⟨by omega, by omega⟩)
      clear hhc ha haf
      go_wp2_with fail
      refine HNB2.out.mono ?_
      rintro e w21 ⟨rfl, rfl⟩
      go_wp2_with fail
      refine (HIS.out _).mono ?_
      rintro e w22 ⟨rfl, rfl⟩
      go_wp2
      go_ret
      exact ⟨rfl, HBZ.out⟩

end Go.Proofs.YtgjdablifncbaaaGreat
