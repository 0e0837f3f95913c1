/- ProjBack's walk. -/
import Derived.Test.YtjbodokligpcaaaGreatPkG
import Derived.Test.YtjbodokligpcaaaGreatPkM
import Derived.Test.YtjbodokligpcaaaGreatPjO
namespace Go.Proofs.YtjbodokligpcaaaGreat
open Go.RowKit

theorem psame_selfB (e : Int) (a : List (List Int)) : psame e a e a = true := by unfold psame; simp
theorem ptext_bytes {ep : Int} {cs : List (List Int)} (h : pchk ep cs = 0) : (∀ y ∈ fr (ptext ep cs), y < 256) ∧ (fr (ptext ep cs)).length ≤ 1000 := by
  obtain ⟨h1, h2⟩ := ptext_len h
  have h3 : U64 (ptext ep cs).length := by unfold U64; omega
  refine ⟨fr_byte h2 h3, ?_⟩
  rw [fr_length]
  unfold fsize
  have := enc_len10 h3
  omega
/-- How many of the first ones aren't dead. -/
def leftN (dead c : List Int) (q : Nat) : Nat := (dropL (inB dead) (c.take q)).length

set_option maxHeartbeats 8000000 in
set_option maxRecDepth 100000 in
theorem projBack_walk (ep : Int) (v dv sv : Value) (cs : List (List Int)) (dead spares : List Int) (w : World) (B C D : Nat → Prop) (h : Chs w B v cs) (hd : IRow w C dv dead) (hs : IRow w D sv spares) :
    Calls Tryz.prog 4 #[.agg #[.int .i64 ep, v], dv, sv] w fun e w' => e = .returned (.bool true) ∧ Below w.heap.size w w' := by
  replace h : Chs w (fun _ => True) v cs := h.mono fun _ _ _ => trivial
  replace hd : IRow w (fun _ => True) dv dead := hd.mono fun _ _ _ => trivial
  replace hs : IRow w (fun _ => True) sv spares := hs.mono fun _ _ _ => trivial
  obtain ⟨ao, cap, rfl, l1, m1, _⟩ := h.val
  obtain ⟨aod, capd, hdv, l2, m2, _⟩ := hd.val
  obtain ⟨aos, caps, hsv, l3, m3, _⟩ := hs.val
  obtain ⟨W1, hW1⟩ : ∃ W1, W1 = w.alloc (.cells #[.int .i64 ep, .slice ao cs.length cap] 25) := ⟨_, rfl⟩
  have hb1 : Below w.heap.size w W1 := by rw [hW1]; exact (Below.refl _ _).alloc (Nat.le_refl _) _
  have hx1 : Box2 W1 w.heap.size (.int .i64 ep) (.slice ao cs.length cap) := by rw [hW1]; exact box2_new _ _ _ _
  have HX1 := Lib.hid hx1
  have HB1 := Lib.hid hb1
  have HR := Lib.hid (h.old hb1)
  have HD := Lib.hid (hd.old hb1)
  have HS := Lib.hid (hs.old hb1)
  have HA := Lib.hid (alive11_any W1)
  obtain ⟨dn, hdn⟩ : ∃ n, n = dead.length := ⟨_, rfl⟩
  obtain ⟨sn, hsn⟩ : ∃ n, n = spares.length := ⟨_, rfl⟩
  obtain ⟨cn, hcn⟩ : ∃ n, n = cs.length := ⟨_, rfl⟩
  rw [← hdn] at hdv
  rw [← hsn] at hsv
  rw [← hcn] at HX1 HR hW1 ⊢
  have HSN := Lib.hid hsn
  have HDN := Lib.hid hdn
  have HCN := Lib.hid hcn
  subst hdv
  subst hsv
  have HW1 := Lib.hid hW1
  clear h hd hs hb1 l1 m1 l2 m2 l3 m3 hx1 hdn hsn hcn hW1
  go_enter Tryz.func4, Tryz.ntmps4
  go_wp2_with fail
  rw [← HW1.out]
  refine HA.out.mono ?_
  rintro e w2 ⟨rfl, hb2⟩
  have q2 := HX1.out.old hb2
  have c0 := q2.c0
  have c1 := q2.c1
  have HX2 := Lib.hid q2
  have HB2 : Hid (Below w.heap.size w w2) := Lib.hid (HB1.out.trans (hb2.mono HB1.out.size))
  have HR2 := Lib.hid (HR.out.old hb2)
  have HD2 := Lib.hid (HD.out.old hb2)
  have HS2 := Lib.hid (HS.out.old hb2)
  have HLO := Lib.hid (long11_any ep _ cs w2 _ (HR.out.old hb2))
  clear hb2 q2
  by_cases g1 : longP cs = true
  · rw [g1] at HLO
    clear g1
    go_wp2_with fail
    refine HLO.out.mono ?_
    rintro e w3 ⟨rfl, hb3⟩
    have HB3 : Hid (Below w.heap.size w w3) := Lib.hid (HB2.out.trans (hb3.mono HB2.out.size))
    clear hb3
    go_wp2
    go_ret
    exact ⟨rfl, HB3.out⟩
  have g1 : longP cs = false := Bool.eq_false_iff.2 g1
  rw [g1] at HLO
  clear g1
  go_wp2_with fail
  refine HLO.out.mono ?_
  rintro e w3 ⟨rfl, hb3⟩
  have q3 := HX2.out.old hb3
  have c0 := q3.c0
  have c1 := q3.c1
  have HX3 := Lib.hid q3
  have HB3 : Hid (Below w.heap.size w w3) := Lib.hid (HB2.out.trans (hb3.mono HB2.out.size))
  have HR3 := Lib.hid (HR2.out.old hb3)
  have HD3 := Lib.hid (HD2.out.old hb3)
  have HS3 := Lib.hid (HS2.out.old hb3)
  clear hb3 q3
  by_cases gd : (dn : Int) > 20
  · go_wp2
    go_ret
    exact ⟨rfl, HB3.out⟩
  by_cases gs : (sn : Int) > 20
  · go_wp2
    go_ret
    exact ⟨rfl, HB3.out⟩
  have HNX := Lib.hid (next_any ep _ _ _ cs dead spares w3 _ HR3.out HD3.out HS3.out (by rw [← HDN.out]; omega) (by rw [← HSN.out]; omega))
  go_wp2_with fail
  refine HNX.out.mono ?_
  rintro e w4 hpost
  unfold NextPost at hpost
  obtain ⟨v4, rfl, hc4, hb4⟩ := hpost
  have hdn20 : (dn : Int) ≤ 20 := by omega
  clear gd gs
  by_cases gz : nchk ep cs dead spares = 0
  rotate_left
  · rw [if_neg gz] at hc4
    rw [if_neg gz, errV_pos gz]
    obtain ⟨ao4, cap4, rfl, _, _, _⟩ := hc4.val
    have HB4 : Hid (Below w.heap.size w w4) := Lib.hid (HB3.out.trans (hb4.mono HB3.out.size))
    clear hc4 hb4 gz
    go_wp2
    go_ret
    exact ⟨rfl, HB4.out.alloc HB4.out.size _⟩
  rw [if_pos gz] at hc4
  rw [if_pos gz, gz, errV_zero]
  obtain ⟨hr1, hr2⟩ := next_right gz
  have hepb := epochB_iff.1 (pchk_zero.1 hr1).1
  have hepn : ep ≠ 1099511627776 := by
    intro he
    unfold nchk at gz
    rw [if_neg (by simp [hr1])] at gz
    split at gz
    · cases gz
    · first | (rw [if_pos he] at gz; cases gz) | cases gz
  have hsum : wrap64 (ep + 1) = ep + 1 := by simp only [wrap64]; omega
  have HGZ := Lib.hid gz
  have HR1 := Lib.hid hr1
  have HR2c := Lib.hid hr2
  have hnl : (nextL cs dead spares).length = cs.length := by unfold nextL; exact deal_length _ _ _ (leftL_length cs dead).symm
  obtain ⟨ao4, cap4, rfl, _, _, _⟩ := hc4.val
  rw [hnl, ← HCN.out] at hc4 ⊢
  obtain ⟨W5, hW5⟩ : ∃ W, W = w4.alloc (.cells #[.int .i64 (ep + 1), .slice ao4 cn cap4] 25) := ⟨_, rfl⟩
  have hb5 : Below w4.heap.size w4 W5 := by rw [hW5]; exact (Below.refl _ _).alloc (Nat.le_refl _) _
  have hb35 : Below w3.heap.size w3 W5 := hb4.trans (hb5.mono hb4.size)
  have hy5 : Box2 W5 w4.heap.size (.int .i64 (ep + 1)) (.slice ao4 cn cap4) := by rw [hW5]; exact box2_new _ _ _ _
  have HX5 := Lib.hid (HX3.out.old hb35)
  have HY5 := Lib.hid hy5
  have HB5 : Hid (Below w.heap.size w W5) := Lib.hid (HB3.out.trans (hb35.mono HB3.out.size))
  have HRC5 := Lib.hid (HR3.out.old hb35)
  have HD5 := Lib.hid (HD3.out.old hb35)
  have HN5 : Hid (Chs W5 (fun _ => True) (.slice ao4 cn cap4) (nextL cs dead spares)) := Lib.hid ((hc4.old hb5).mono fun _ _ _ => trivial)
  have HPU := Lib.hid (pput_any (ep + 1) _ (nextL cs dead spares) W5 _ HN5.out)
  have HW5 := Lib.hid hW5
  obtain ⟨bq, hbq⟩ : ∃ b, b = w4.heap.size := ⟨_, rfl⟩
  rw [← hbq] at HY5
  have HBQ := Lib.hid hbq
  clear hc4 hb4 gz hr1 hr2 hepb hepn hnl hb5 hb35 hy5 hW5 hbq
  go_wp2_with fail
  rw [← HW5.out, ← HBQ.out]
  refine HPU.out.mono ?_
  rintro e w6 ⟨hb6, hput⟩
  rcases hput with ⟨_, v6, rfl, ho6⟩ | ⟨hbad, _⟩
  rotate_left
  · exact absurd HR2c.out hbad
  rw [errV_zero]
  have HX6 := Lib.hid (HX5.out.old hb6)
  have HY6 := Lib.hid (HY5.out.old hb6)
  have HB6 : Hid (Below w.heap.size w w6) := Lib.hid (HB5.out.trans (hb6.mono HB5.out.size))
  have HRC6 := Lib.hid (HRC5.out.old hb6)
  have HD6 := Lib.hid (HD5.out.old hb6)
  have HN6 := Lib.hid (HN5.out.old hb6)
  obtain ⟨ao6, cap6, rfl, _, _, _⟩ := ho6.reads.val
  have HTK := Lib.hid (ptake_any _ (fr (ptext (ep + 1) (nextL cs dead spares))) w6 ho6.reads (ptext_bytes HR2c.out).1 (by have := (ptext_bytes HR2c.out).2; omega))
  obtain ⟨n6, hn6⟩ : ∃ n, n = (fr (ptext (ep + 1) (nextL cs dead spares))).length := ⟨_, rfl⟩
  rw [← hn6] at HTK ⊢
  clear hb6 ho6 hn6
  go_wp2_with fail
  refine HTK.out.mono ?_
  rintro e w7 ⟨hb7, epx, csx, cx, hrx, hex⟩
  obtain ⟨hcx, heq⟩ := hrx.unique (rproj_put HR2c.out)
  obtain ⟨v7, he7, hc7⟩ : ∃ v7, e = .returned (.tuple #[.agg #[.int .i64 (ep + 1), v7], .nilIface]) ∧ Chs w7 (fun _ => True) v7 (nextL cs dead spares) := by
    rcases hex with ⟨hz, _⟩ | ⟨hz, v, rfl, hc⟩
    · exact absurd hcx hz
    · obtain ⟨rfl, rfl⟩ := heq hz
      exact ⟨v, rfl, hc.mono fun _ _ _ => trivial⟩
  subst he7
  obtain ⟨ao7, cap7, rfl, _, _, _⟩ := hc7.val
  have hnl : (nextL cs dead spares).length = cs.length := by unfold nextL; exact deal_length _ _ _ (leftL_length cs dead).symm
  rw [hnl, ← HCN.out] at hc7 ⊢
  obtain ⟨W8, hW8⟩ : ∃ W, W = w7.alloc (.cells #[.int .i64 (ep + 1), .slice ao7 cn cap7] 25) := ⟨_, rfl⟩
  have hb8 : Below w7.heap.size w7 W8 := by rw [hW8]; exact (Below.refl _ _).alloc (Nat.le_refl _) _
  have hb68 : Below w6.heap.size w6 W8 := hb7.trans (hb8.mono hb7.size)
  have hz8 : Box2 W8 w7.heap.size (.int .i64 (ep + 1)) (.slice ao7 cn cap7) := by rw [hW8]; exact box2_new _ _ _ _
  have HX8 := Lib.hid (HX6.out.old hb68)
  have HY8 := Lib.hid (HY6.out.old hb68)
  have HZ8 := Lib.hid hz8
  have HB8 : Hid (Below w.heap.size w W8) := Lib.hid (HB6.out.trans (hb68.mono HB6.out.size))
  have HRC8 := Lib.hid (HRC6.out.old hb68)
  have HD8 := Lib.hid (HD6.out.old hb68)
  have HN8 := Lib.hid (HN6.out.old hb68)
  have HM8 := Lib.hid (hc7.old hb8)
  have hck := pcheck_any (ep + 1) _ (nextL cs dead spares) W8 _ HN8.out
  rw [HR2c.out, errV_zero] at hck
  have HCK := Lib.hid hck
  obtain ⟨y0, y1⟩ : W8.cell? ⟨bq, 0, none⟩ = some (.int .i64 (ep + 1)) ∧ W8.cell? ⟨bq, 1, none⟩ = some (.slice ao4 cn cap4) := ⟨HY8.out.c0, HY8.out.c1⟩
  rw [hW8] at y0 y1
  have HW8 := Lib.hid hW8
  obtain ⟨bx, hbx⟩ : ∃ b, b = w7.heap.size := ⟨_, rfl⟩
  rw [← hbx] at HZ8
  have HBX := Lib.hid hbx
  clear hb7 hrx hex hcx heq hc7 hnl hb8 hb68 hz8 hck hW8 hbx
  go_wp2_with fail
  rw [← HW8.out, ← HBX.out]
  refine HCK.out.mono ?_
  rintro e w9 ⟨rfl, hb9⟩
  have hx9 := HX8.out.old hb9
  have hy9 := HY8.out.old hb9
  have hz9 := HZ8.out.old hb9
  have HX9 := Lib.hid hx9
  have HY9 := Lib.hid hy9
  have HB9 : Hid (Below w.heap.size w w9) := Lib.hid (HB8.out.trans (hb9.mono HB8.out.size))
  have HRC9 := Lib.hid (HRC8.out.old hb9)
  have HD9 := Lib.hid (HD8.out.old hb9)
  have HN9 := Lib.hid (HN8.out.old hb9)
  have hsm := psame_any (ep + 1) (ep + 1) _ _ (nextL cs dead spares) (nextL cs dead spares) w9 _ _ (HM8.out.old hb9) (HN8.out.old hb9)
  rw [psame_selfB] at hsm
  have HSM := Lib.hid hsm
  have x0 := hx9.c0
  have x1 := hx9.c1
  have y0 := hy9.c0
  have y1 := hy9.c1
  have z0 := hz9.c0
  have z1 := hz9.c1
  clear hb9 hx9 hy9 hz9 hsm
  go_wp2_with fail
  refine HSM.out.mono ?_
  rintro e wz ⟨rfl, hbz⟩
  have hxz := HX9.out.old hbz
  have hyz := HY9.out.old hbz
  have HBZ : Hid (Below w.heap.size w wz) := Lib.hid (HB9.out.trans (hbz.mono HB9.out.size))
  have HRZ := Lib.hid (HRC9.out.old hbz)
  have HDZ := Lib.hid (HD9.out.old hbz)
  have HNZ := Lib.hid (HN9.out.old hbz)
  have x0 := hxz.c0
  have x1 := hxz.c1
  have y0 := hyz.c0
  have y1 := hyz.c1
  have hee : (ep + 1 != ep + 1) = false := by simp
  have hen : ((cn : Int) != (cn : Int)) = false := by simp
  have HNL : Hid ((nextL cs dead spares).length = cs.length) := Lib.hid (by unfold nextL; exact deal_length _ _ _ (leftL_length cs dead).symm)
  have hcn4 : (cn : Int) ≤ 4 := by have := (pright HR1.out).2.1.2; have := HCN.out; omega
  have HF4 : Hid (∀ c ∈ cs, c.length ≤ 4) := Lib.hid fun c hc => ((pright HR1.out).2.2 c hc).1.2
  clear hbz hxz hyz
  go_wp2_with fail
  go_loop [6, 12, 13, 14, 16, 17, 19, 99] (fun _ _ _ _ _ _ _ i => ∃ k : Nat, k ≤ cn ∧ i = .int .i64 (k : Int)) (fun _ _ _ _ _ _ _ i => cn - (intOf i).toNat)
  case atStart => exact ⟨0, Nat.zero_le _, rfl⟩
  case round =>
    obtain ⟨k, hk, rfl⟩ := hrel
    by_cases hlt : k < cn
    rotate_left
    · go_wp2
      go_ret
      exact ⟨rfl, HBZ.out⟩
    have hltc : k < cs.length := by rw [← HCN.out]; exact hlt
    have hltn : k < (nextL cs dead spares).length := by rw [HNL.out]; exact hltc
    obtain ⟨b, off, u, hb, _, _, hc, hu⟩ := HRZ.out.at hltc
    obtain ⟨b2, off2, u2, hb2, _, _, hc2, hu2⟩ := HNZ.out.at hltn
    obtain ⟨aoc, capc, rfl, lc1, _, _⟩ := hu.val
    obtain ⟨aon, capn, rfl, ln1, _, _⟩ := hu2.val
    have HM := Lib.hid (getD_memC k hltc)
    have HSH := Lib.hid (next_short cs dead spares hltc)
    have HKE : Hid (∀ q, q < (cs.getD k []).length → inB dead ((cs.getD k []).getD q 0) = false → (leftN dead (cs.getD k []) q < ((nextL cs dead spares).getD k []).length ∧ ((nextL cs dead spares).getD k []).getD (leftN dead (cs.getD k []) q) 0 = (cs.getD k []).getD q 0)) := Lib.hid fun q hq hy => next_keeps cs dead spares hltc hq hy
    subst hb
    subst hb2
    have hlti : (k : Int) < (cn : Int) := by omega
    generalize cs.getD k [] = c at hc hu HM HSH HKE lc1
    generalize (nextL cs dead spares).getD k [] = nc at hc2 hu2 HSH HKE ln1
    have hc4 := HF4.out c HM.out
    obtain ⟨cl, hcl⟩ : ∃ n, n = c.length := ⟨_, rfl⟩
    obtain ⟨nl, hnl⟩ : ∃ n, n = nc.length := ⟨_, rfl⟩
    rw [← hcl] at hc hu lc1 hc4 HSH HKE
    rw [← hnl] at hc2 hu2 ln1 HSH HKE
    have HCL := Lib.hid hcl
    have HNLN := Lib.hid hnl
    have HU := Lib.hid hu
    have HU2 := Lib.hid hu2
    have hsh : ¬ (nl : Int) > (cl : Int) := by have := HSH.out; omega
    clear hltc hltn hu hu2 hcl hnl lc1 ln1
    go_wp2
    go_loop [6, 14, 16, 17, 19, 106] (fun _ kv _ _ _ i => ∃ q : Nat, q ≤ cl ∧ i = .int .i64 (q : Int) ∧ kv = .int .i64 ((leftN dead c q : Nat) : Int)) (fun _ _ _ _ _ i => cl - (intOf i).toNat)
    case atStart => exact ⟨0, Nat.zero_le _, rfl, by unfold leftN; rw [List.take_zero]; rfl⟩
    case round =>
      obtain ⟨q, hq, rfl, rfl⟩ := hrel
      by_cases hlq : q < cl
      rotate_left
      · go_wp2
        refine ⟨⟨_, _, _, _, _, _, _, _, ⟨k + 1, by omega, rfl⟩, rfl, rfl, rfl, rfl, rfl, rfl, rfl, congrArg (Value.int .i64) (by omega)⟩, ?_⟩
        show cn - ((k : Int) + 1).toNat < cn - ((k : Int)).toNat
        omega
      have hlqc : q < c.length := by rw [← HCL.out]; exact hlq
      obtain ⟨b3, off3, hb3, _, _, hc3⟩ := (HCL.out ▸ HU.out : IRow wz _ (.slice aoc c.length capc) c).at hlqc
      have hcc := hc3 q hlqc
      have HKQ := Lib.hid (HKE.out q hlq)
      have hdn := drop_next (g := inB dead) hlqc
      have HDN2 : Hid (leftN dead c (q + 1) = leftN dead c q + if inB dead (c.getD q 0) = true then 0 else 1) := Lib.hid hdn
      have HLE : Hid (leftN dead c q ≤ q) := Lib.hid (drop_take_le _ _ _)
      subst hb3
      have hlqi : (q : Int) < (cl : Int) := by omega
      generalize c.getD q 0 = y at hcc HKQ HDN2
      clear hc3 hlqc hdn
      go_wp2
      go_loop [17, 19, 112] (fun gv _ i => ∃ j : Nat, j ≤ dn ∧ i = .int .i64 (j : Int) ∧ gv = .bool (inB (dead.take j) y)) (fun _ _ i => dn - (intOf i).toNat)
      case atStart => exact ⟨0, Nat.zero_le _, rfl, by rw [List.take_zero]; rfl⟩
      case round =>
        obtain ⟨j, hj, rfl, rfl⟩ := hrel
        by_cases hlj : j < dn
        · have hljd : j < dead.length := by rw [← HDN.out]; exact hlj
          obtain ⟨b4, off4, hb4, _, _, hc5⟩ := (HDN.out ▸ HDZ.out : IRow wz _ (.slice aod dead.length capd) dead).at hljd
          have hcd := hc5 j hljd
          have HIT := Lib.hid (inB_take (u := y) hljd)
          subst hb4
          have hlji : (j : Int) < (dn : Int) := by omega
          generalize dead.getD j 0 = z at hcd HIT
          obtain ⟨bo, hbo⟩ : ∃ x, x = inB (dead.take j) y := ⟨_, rfl⟩
          rw [← hbo] at HIT ⊢
          clear hc5 hljd hbo
          cases bo
          · go_wp2
            go_round
            case rel => exact ⟨j + 1, by omega, by go_num, by rw [HIT.out]; simp⟩
            case measure => simp [intOf]; omega
          · go_wp2
            go_round
            case rel => exact ⟨j + 1, by omega, by go_num, by rw [HIT.out]; simp⟩
            case measure => simp [intOf]; omega
        · obtain rfl : j = dn := by omega
          have htk : dead.take j = dead := by rw [HDN.out, List.take_length]
          rw [htk]
          clear htk
          by_cases hy : inB dead y = true
          · have HL1 : Hid (leftN dead c (q + 1) = leftN dead c q) := Lib.hid (by rw [HDN2.out, if_pos hy, Nat.add_zero])
            rw [hy]
            clear hy
            go_wp2
            go_round
            case rel => exact ⟨q + 1, by omega, by go_num, by rw [HL1.out]⟩
            case measure => simp [intOf]; omega
          · have hy : inB dead y = false := Bool.eq_false_iff.2 hy
            have HL1 : Hid (leftN dead c (q + 1) = leftN dead c q + 1) := Lib.hid (by rw [HDN2.out, hy]; rfl)
            obtain ⟨hk1, hk2⟩ := HKQ.out hy
            obtain ⟨K, hK⟩ : ∃ K, K = leftN dead c q := ⟨_, rfl⟩
            rw [← hK] at hk1 hk2 HLE HL1 ⊢
            have hkn : K < nc.length := by rw [← HNLN.out]; exact hk1
            obtain ⟨b5, off5, hb5, _, _, hc6⟩ := (HNLN.out ▸ HU2.out : IRow wz _ (.slice aon nc.length capn) nc).at hkn
            have hck := hc6 K hkn
            rw [hk2] at hck
            subst hb5
            have hki : (K : Int) < (nl : Int) := by omega
            have hkk : ¬ (K : Int) ≥ (nl : Int) := by omega
            have hyy : (y != y) = false := by simp
            have hK4 : (K : Int) ≤ 4 := by have := HLE.out; omega
            have hw1 : wrap64 ((K : Int) + 1) = (K : Int) + 1 := by simp only [wrap64]; omega
            rw [hy]
            clear hy hK hkn hc6 hk1 hk2
            go_wp2
            go_round
            case rel => exact ⟨q + 1, by omega, by go_num, by rw [HL1.out]; first | rfl | (rw [hw1]; rfl) | exact congrArg (Value.int .i64) (by omega)⟩
            case measure => simp [intOf]; omega

end Go.Proofs.YtjbodokligpcaaaGreat
