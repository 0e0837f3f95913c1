/- Package proj's Next. -/
import Derived.Test.YtjbodokligpcaaaGreatPjL
namespace Go.Proofs.YtjbodokligpcaaaGreat
open Go.RowKit

theorem bcellP {W w1 : World} (hb : Below W.heap.size W w1) : (∀ b o, b < W.heap.size → w1.cell? ⟨b, o, none⟩ = W.cell? ⟨b, o, none⟩) ∧ (∀ b o, b < W.heap.size → w1.frozen? ⟨b, o, none⟩ = W.frozen? ⟨b, o, none⟩) :=
  ⟨fun b o h => hb.cell (p := ⟨b, o, none⟩) h, fun b o h => hb.frozen (p := ⟨b, o, none⟩) h⟩
def NextPost (ep : Int) (cs : List (List Int)) (dead spares : List Int) (w : World) (e : Ending) (w' : World) : Prop :=
  ∃ v', e = .returned (.tuple #[.agg #[.int .i64 (if nchk ep cs dead spares = 0 then ep + 1 else 0), v'], errV (nchk ep cs dead spares)]) ∧
    Chs w' (fun j => w.heap.size ≤ j) v' (if nchk ep cs dead spares = 0 then nextL cs dead spares else []) ∧ Below w.heap.size w w'
theorem nextPost_bad {ep : Int} {cs : List (List Int)} {dead spares : List Int} {w w' : World} {c : Nat} (hc : nchk ep cs dead spares = c) (h0 : c ≠ 0) (hb : Below w.heap.size w w') :
    NextPost ep cs dead spares w (.returned (.tuple #[.agg #[.int .i64 0, .slice none 0 0], errV c])) w' := by
  unfold NextPost
  rw [hc, if_neg h0, if_neg h0]
  exact ⟨_, rfl, chs_nil _ _, hb⟩

set_option maxHeartbeats 4000000 in
set_option maxRecDepth 100000 in
theorem next_any (ep : Int) (v dv sv : Value) (cs : List (List Int)) (dead spares : List Int) (w : World) (B : Nat → Prop) (h : Chs w B v cs) (hd : IRow w B dv dead) (hs : IRow w B sv spares) (hdl : dead.length ≤ 1000000) (hsl : spares.length ≤ 1000000) :
    Calls Tryz.prog 13 #[.agg #[.int .i64 ep, v], dv, sv] w (NextPost ep cs dead spares w) := by
  obtain ⟨ao, cap, rfl, l1, m1, _⟩ := h.val
  obtain ⟨aod, capd, hdv, l2, m2, _⟩ := hd.val
  obtain ⟨aos, caps, hsv, l3, m3, _⟩ := hs.val
  obtain ⟨W1, hW1⟩ : ∃ W1, W1 = (w.alloc (.cells #[.int .i64 ep, .slice ao cs.length cap] 25)).alloc (.cells #[.int .i64 0, .slice none 0 0] 25) := ⟨_, rfl⟩
  have hb1 : Below w.heap.size w W1 := by rw [hW1]; exact ((Below.refl _ _).alloc (Nat.le_refl _) _).alloc (by simp) _
  have hx1 : Box2 W1 w.heap.size (.int .i64 ep) (.slice ao cs.length cap) := by rw [hW1]; exact (box2_new _ _ _ _).old ((Below.refl _ _).alloc (Nat.le_refl _) _)
  have hx2 : Box2 W1 (w.heap.size + 1) (.int .i64 0) (.slice none 0 0) := by
    have := box2_new (w.alloc (.cells #[.int .i64 ep, .slice ao cs.length cap] 25)) (.int .i64 0) (.slice none 0 0) 25
    rw [hW1]; simpa using this
  have hsz : w.heap.size + 2 ≤ W1.heap.size := by rw [hW1]; simp
  have hrb : W1.heap[w.heap.size]? = some (.cells #[.int .i64 ep, .slice ao cs.length cap] 25 (0, 0)) := by
    rw [hW1, heap_alloc_old _ _ (by simp)]
    exact heap_alloc_new w _
  have HX1 := Lib.hid hx1
  have HRB := Lib.hid hrb
  have HX2 := Lib.hid hx2
  have HB1 := Lib.hid hb1
  have HSZ := Lib.hid hsz
  have HD := Lib.hid (hd.old hb1)
  have HS := Lib.hid (hs.old hb1)
  have HR := Lib.hid (h.old hb1)
  have HCH := Lib.hid (pcheck_any ep _ cs W1 B (h.old hb1))
  have HLN : Hid (dead.length ≤ 1000000 ∧ spares.length ≤ 1000000) := Lib.hid ⟨hdl, hsl⟩
  obtain ⟨dn, hdn⟩ : ∃ n, n = dead.length := ⟨_, rfl⟩
  obtain ⟨sn, hsn⟩ : ∃ n, n = spares.length := ⟨_, rfl⟩
  rw [← hdn] at hdv
  rw [← hsn] at hsv
  have HSN := Lib.hid hsn
  subst hdv
  subst hsv
  clear h hd hs hb1 l1 m1 l2 m2 l3 m3 hx1 hx2 hsz hrb hdl hsl hdn hsn
  by_cases g1 : pchk ep cs = 0
  rotate_left
  · have HP : Hid (nchk ep cs dead spares = pchk ep cs ∧ pchk ep cs ≠ 0) := Lib.hid ⟨by unfold nchk; rw [if_pos g1], g1⟩
    obtain ⟨c, hc⟩ : ∃ c, c = pchk ep cs := ⟨_, rfl⟩
    rw [← hc] at HP HCH g1
    rw [errV_pos g1] at HCH
    have HE : Hid (errV c = .iface 68 (.int .i64 (c : Int))) := Lib.hid (errV_pos g1)
    clear g1 hc
    subst hW1
    go_enter Tryz.func13, Tryz.ntmps13
    go_wp2_with fail
    refine HCH.out.mono ?_
    rintro e w1 ⟨rfl, hb2⟩
    have q2 := HX2.out.old hb2
    have d0 := q2.c0
    have d1 := q2.c1
    have f0 := q2.f0
    have f1 := q2.f1
    have HB2 : Hid (Below w.heap.size w w1) := Lib.hid (HB1.out.trans (hb2.mono HB1.out.size))
    clear hb2 q2
    go_wp2
    refine bodyPost_ret (v := .tuple #[.agg #[.int .i64 0, .slice none 0 0], errV c]) (by simp [results, Tryz.results13, go_sem, d0, d1, HE.out]) rfl (nextPost_bad HP.out.1 HP.out.2 ?_)
    exact (HB2.out.setCell (by simp) _).setCell (by simp) _
  have HNC : Hid (nchk ep cs dead spares = if dead.all unitB = false ∨ spares.all unitB = false then 1 else if ep = 1099511627776 then 5 else if (leftL cs dead).all (fun c => !c.isEmpty) = false then 13 else 0) := Lib.hid (by unfold nchk; rw [if_neg (by simp [g1])])
  have HPZ := Lib.hid (pchk_zero.1 g1)
  rw [g1] at HCH
  clear g1
  subst hW1
  go_enter Tryz.func13, Tryz.ntmps13
  go_wp2_with fail
  refine HCH.out.mono ?_
  rintro e w1 ⟨rfl, hb2⟩
  rw [errV_zero]
  have q1 := HX1.out.old hb2
  have c0 := q1.c0
  have c1 := q1.c1
  have HQ1 := Lib.hid q1
  have q2 := HX2.out.old hb2
  have d0 := q2.c0
  have d1 := q2.c1
  have f0 := q2.f0
  have f1 := q2.f1
  have HQ2 := Lib.hid q2
  have HB2 : Hid (Below w.heap.size w w1) := Lib.hid (HB1.out.trans (hb2.mono HB1.out.size))
  have HSZ2 : Hid (w.heap.size + 2 ≤ w1.heap.size) := Lib.hid (Nat.le_trans HSZ.out hb2.size)
  have HD2 := Lib.hid (HD.out.old hb2)
  have HS2 := Lib.hid (HS.out.old hb2)
  have HR2 := Lib.hid (HR.out.old hb2)
  have HRB2 : Hid (w1.heap[w.heap.size]? = some (.cells #[.int .i64 ep, .slice ao cs.length cap] 25 (0, 0))) := Lib.hid ((hb2.block _ (by have := HSZ.out; omega)).trans HRB.out)
  have HUD := Lib.hid (areUnits_any _ dead w1 B HD2.out)
  have HUS := Lib.hid (areUnits_any _ spares w1 B HS2.out)
  clear hb2 q1 q2
  by_cases g2 : dead.all unitB = true
  rotate_left
  · have g2 : dead.all unitB = false := Bool.eq_false_iff.2 g2
    have HP : Hid (nchk ep cs dead spares = 1) := Lib.hid (by rw [HNC.out, if_pos (.inl g2)])
    rw [g2] at HUD
    clear g2
    go_wp2_with fail
    refine HUD.out.mono ?_
    rintro e w2 ⟨rfl, rfl⟩
    go_wp2
    refine bodyPost_ret (v := .tuple #[.agg #[.int .i64 0, .slice none 0 0], errV 1]) (by simp [results, Tryz.results13, go_sem, d0, d1]; rfl) rfl (nextPost_bad HP.out (by decide) ?_)
    exact (HB2.out.setCell (by simp) _).setCell (by simp) _
  by_cases g3 : spares.all unitB = true
  rotate_left
  · have g3 : spares.all unitB = false := Bool.eq_false_iff.2 g3
    have HP : Hid (nchk ep cs dead spares = 1) := Lib.hid (by rw [HNC.out, if_pos (.inr g3)])
    rw [g2] at HUD
    rw [g3] at HUS
    clear g2 g3
    go_wp2_with fail
    refine HUD.out.mono ?_
    rintro e w2 ⟨rfl, rfl⟩
    go_wp2_with fail
    refine HUS.out.mono ?_
    rintro e w2 ⟨rfl, rfl⟩
    go_wp2
    refine bodyPost_ret (v := .tuple #[.agg #[.int .i64 0, .slice none 0 0], errV 1]) (by simp [results, Tryz.results13, go_sem, d0, d1]; rfl) rfl (nextPost_bad HP.out (by decide) ?_)
    exact (HB2.out.setCell (by simp) _).setCell (by simp) _
  have HNC2 : Hid (nchk ep cs dead spares = if ep = 1099511627776 then 5 else if (leftL cs dead).all (fun c => !c.isEmpty) = false then 13 else 0) := Lib.hid (by rw [HNC.out, if_neg (by rintro (h | h) <;> simp_all)])
  have HU2 : Hid (dead.all unitB = true ∧ spares.all unitB = true) := Lib.hid ⟨g2, g3⟩
  rw [g2] at HUD
  rw [g3] at HUS
  clear g2 g3
  go_wp2_with fail
  refine HUD.out.mono ?_
  rintro e w2 ⟨rfl, rfl⟩
  go_wp2_with fail
  refine HUS.out.mono ?_
  rintro e w2 ⟨rfl, rfl⟩
  by_cases g4 : ep = 1099511627776
  · have HP : Hid (nchk ep cs dead spares = 5) := Lib.hid (by rw [HNC2.out, if_pos g4])
    have g4b : (ep == 1099511627776) = true := by rw [beq_iff_eq]; exact g4
    clear g4
    go_wp2
    refine bodyPost_ret (v := .tuple #[.agg #[.int .i64 0, .slice none 0 0], errV 5]) (by simp [results, Tryz.results13, go_sem, d0, d1]; rfl) rfl (nextPost_bad HP.out (by decide) ?_)
    exact (HB2.out.setCell (by simp) _).setCell (by simp) _
  have HNC3 : Hid (nchk ep cs dead spares = if (leftL cs dead).all (fun c => !c.isEmpty) = false then 13 else 0) := Lib.hid (by rw [HNC2.out, if_neg g4])
  have g4b : (ep == 1099511627776) = false := by rw [beq_eq_false_iff_ne]; exact g4
  have HEP : Hid (ep ≠ 1099511627776) := Lib.hid g4
  clear g4
  have few := formed_few HPZ.out.2.1
  have HAD : Hid (∀ W, Below w1.heap.size w1 W → Calls Tryz.prog 32 #[.slice aod dn capd] W fun e w' => ∃ t, e = .returned (.func (.func 61) #[] #[.pointer (some ⟨t, 0, none⟩)]) ∧ Amg w' t dead ∧ Below W.heap.size W w' ∧ Below w1.heap.size w1 w') := Lib.hid fun W hW => (among_any _ dead W B (HD2.out.old hW) HU2.out.1).mono fun e w' ⟨a, b, c⟩ => ⟨_, a, b, c, hW.trans (c.mono hW.size)⟩
  have HUN : Hid (∀ W, Below w1.heap.size w1 W → Calls Tryz.prog 33 #[.agg #[.int .i64 ep, .slice ao cs.length cap]] W fun e w' => ∃ (a : Option Addr) (n c b : Nat), e = .returned (.slice a n c) ∧ IOwn w' b (.slice a n c) (unitsL cs.flatten) ∧ Below W.heap.size W w' ∧ Below w1.heap.size w1 w') := Lib.hid fun W hW => (units_any ep _ cs W B (HR2.out.old hW) (by omega) (by omega)).mono fun e w' ⟨v', a, b, c⟩ => by
    obtain ⟨ao', cap', rfl⟩ := slice_val b
    exact ⟨_, _, _, _, a, b, c, hW.trans (c.mono hW.size)⟩
  have HAU : Hid (∀ (a : Option Addr) (n c b : Nat) (W0 W : World), IOwn W0 b (.slice a n c) (unitsL cs.flatten) → Below W0.heap.size W0 W → Below w1.heap.size w1 W → Calls Tryz.prog 32 #[.slice a n c] W fun e w' => ∃ t, e = .returned (.func (.func 61) #[] #[.pointer (some ⟨t, 0, none⟩)]) ∧ Amg w' t (unitsL cs.flatten) ∧ Below W.heap.size W w' ∧ Below w1.heap.size w1 w') := Lib.hid fun a n c b W0 W hW hb hb1 => (among_any _ _ W _ (hW.row.old hb) (List.all_eq_true.2 fun u hu => List.all_eq_true.1 HPZ.out.2.2.1 u (mem_unitsL.1 hu))).mono fun e w' ⟨a, b, c⟩ => ⟨_, a, b, c, hb1.trans (c.mono hb1.size)⟩
  clear few
  have HMX : Hid (Tryz.prog.follows .mixedOrders = true) := Lib.hid (by kernel_rfl)
  go_wp2_with fail
  refine wp_region_told [9, 10, 37, 38, 39, 40, 41] HMX.out (by kernel_rfl) (Rg8 w1 dead (unitsL cs.flatten) (.slice aod dn capd) (.agg #[.int .i64 ep, .slice ao cs.length cap])) ?_ ?_ ?_
  · refine ⟨(Below.refl _ _).drew, ?_, ?_, ?_, ?_, ?_, ?_, ?_, ?_, ?_, ?_⟩ <;> (intro h; cases h)
  · intro d f wz hI i o ho hi hdep d' hd'
    have hi9 : i < 9 := (Array.getElem?_eq_some_iff.1 ho).1
    have hc : i = 0 ∨ i = 1 ∨ i = 2 ∨ i = 3 ∨ i = 4 ∨ i = 5 ∨ i = 6 ∨ i = 7 ∨ i = 8 := by omega
    clear hi9
    rcases hc with rfl | rfl | rfl | rfl | rfl | rfl | rfl | rfl | rfl
    · obtain rfl := Option.some.inj ho
      exact wpOp_val ho rfl (exec_move rfl (eval_off rfl rfl)) ⟨_, put_told rfl _, hI.put hd' hi (.inl ⟨rfl, rfl⟩) _ (fun _ => rfl) (fun h => by cases h) (fun h => by cases h) (fun h => by cases h) (fun h => by cases h)⟩
    · obtain rfl := Option.some.inj ho
      refine wpOp_call ho rfl (exec_call1 rfl rfl (eval_on rfl (by simp) (hI.h0 (hdep { on := 0, ground := .data } (by simp) rfl))) (enters_of Tryz.func32 (by kernel_rfl) rfl)) ((HAD.out wz hI.bel).mono ?_)
      rintro e w' ⟨t, rfl, hA, hb, _⟩
      exact ⟨_, rfl, _, put_told rfl _, (hI.later hb).put hd' hi (.inr (.inl ⟨rfl, rfl⟩)) _ (fun h => by cases h) (fun _ => ⟨t, rfl, hA⟩) (fun h => by cases h) (fun h => by cases h) (fun h => by cases h)⟩
    · obtain rfl := Option.some.inj ho
      refine wpOp_val ho rfl (exec_load_row rfl (eval_off rfl rfl) ((hI.bel.block w.heap.size (by have := HSZ2.out; omega)).trans HRB2.out) Tryz.underlying25 rfl (by kernel_rfl)) ⟨_, put_told rfl _, hI.put hd' hi (.inr (.inr (.inl ⟨rfl, rfl⟩))) _ (fun h => by cases h) (fun h => by cases h) (fun _ => rfl) (fun h => by cases h) (fun h => by cases h)⟩
    · obtain rfl := Option.some.inj ho
      refine wpOp_call ho rfl (exec_call1 rfl rfl (eval_on rfl (by simp) (hI.h2 (hdep { on := 2, ground := .data } (by simp) rfl))) (enters_of Tryz.func33 (by kernel_rfl) rfl)) ((HUN.out wz hI.bel).mono ?_)
      rintro e w' ⟨ua, un, uc, ub, rfl, ho3, hb, _⟩
      exact ⟨_, rfl, _, put_told rfl _, (hI.later hb).put hd' hi (.inr (.inr (.inr (.inl ⟨rfl, rfl⟩)))) _ (fun h => by cases h) (fun h => by cases h) (fun h => by cases h) (fun _ => ⟨ua, un, uc, ub, rfl, ho3⟩) (fun h => by cases h)⟩
    · obtain rfl := Option.some.inj ho
      obtain ⟨ua, un, uc, ub, k1, k2⟩ := hI.h3 (hdep { on := 3, ground := .data } (by simp) rfl)
      refine wpOp_call ho rfl (exec_call1 rfl rfl (eval_on rfl (by simp) k1) (enters_of Tryz.func32 (by kernel_rfl) rfl)) ((HAU.out ua un uc ub wz wz k2 (Below.refl _ _) hI.bel).mono ?_)
      rintro e w' ⟨t, rfl, hA, hb, _⟩
      exact ⟨_, rfl, _, put_told rfl _, (hI.later hb).put hd' hi (.inr (.inr (.inr (.inr ⟨rfl, rfl⟩)))) _ (fun h => by cases h) (fun h => by cases h) (fun h => by cases h) (fun h => by cases h) (fun _ => ⟨t, rfl, hA⟩)⟩
    · obtain rfl := Option.some.inj ho
      exact wpOp_val ho rfl (makeF rfl) ⟨_, put_told rfl _, hI.box hd' hi (.inl ⟨rfl, rfl⟩) _⟩
    · obtain rfl := Option.some.inj ho
      exact wpOp_val ho rfl (makeF rfl) ⟨_, put_told rfl _, hI.box hd' hi (.inr ⟨rfl, rfl⟩) _⟩
    · obtain rfl := Option.some.inj ho
      obtain ⟨t, k1, _⟩ := hI.h1 (hdep { on := 1, ground := .data } (by simp) rfl)
      obtain ⟨b, x, k2, k3, k4⟩ := hI.fill7 hd' (hdep { on := 1, ground := .data } (by simp) rfl) (hdep { on := 5, ground := .data } (by simp) rfl)
      rw [k1] at k4
      exact wpOp_skip ho rfl rfl (exec_storeF rfl (eval_on rfl (by simp) k2) (eval_on rfl (by simp) k1) k3) ⟨_, rfl, k4⟩
    · obtain rfl := Option.some.inj ho
      obtain ⟨t, k1, _⟩ := hI.h4 (hdep { on := 4, ground := .data } (by simp) rfl)
      obtain ⟨b, x, k2, k3, k4⟩ := hI.fill8 hd' (hdep { on := 4, ground := .data } (by simp) rfl) (hdep { on := 6, ground := .data } (by simp) rfl)
      rw [k1] at k4
      exact wpOp_skip ho rfl rfl (exec_storeF rfl (eval_on rfl (by simp) k2) (eval_on rfl (by simp) k1) k3) ⟨_, rfl, k4⟩
  · intro d f wz hI hall
    obtain ⟨t1, j1, ha1⟩ := hI.h1 (hall 1 (by decide))
    obtain ⟨t2, j2, ha2⟩ := hI.h4 (hall 4 (by decide))
    obtain ⟨b1, x1, j3, hf1, _, e1⟩ := hI.h5 (hall 5 (by decide))
    obtain ⟨b2, x2, j4, hf2, _, e2⟩ := hI.h6 (hall 6 (by decide))
    have e1 := e1 (hall 7 (by decide))
    have e2 := e2 (hall 8 (by decide))
    rw [j1] at e1
    rw [j2] at e2
    subst e1
    subst e2
    have HB3 := Lib.hid hI.bel
    simp only [updF, List.foldr_cons, List.foldr_nil, List.setIfInBounds_toArray, List.set_cons_succ, List.set_cons_zero, j3, j4]
    generalize f 37 = y37
    generalize f 38 = y38
    generalize f 39 = y39
    generalize f 40 = y40
    generalize f 41 = y41
    clear hI hall j1 j2 j3 j4
    have hszz := HB3.out.size
    have HSZ3 : Hid (w.heap.size + 2 ≤ wz.heap.size) := Lib.hid (by have := HSZ2.out; omega)
    have q1 := HQ1.out.low HB3.out (by have := HSZ2.out; omega)
    have q2 := HQ2.out.low HB3.out (by have := HSZ2.out; omega)
    have HBZ : Hid (Below w.heap.size w wz) := Lib.hid (HB2.out.trans (HB3.out.mono HB2.out.size))
    have HRZ := Lib.hid (HR2.out.old HB3.out)
    have HSZV := Lib.hid (HS2.out.old HB3.out)
    have few := formed_few HPZ.out.2.1
    have hall4 : ∀ c ∈ cs, c.length ≤ 1000000 := fun c hc => by have := (formedB_iff.1 HPZ.out.2.1).2 c hc; omega
    have HWO := Lib.hid (without_any 61 #[.pointer (some ⟨t1, 0, none⟩)] (inB dead) (fun u => unitB u = true) wz (gone_among ha1) _ cs B HRZ.out (fun c hc x hx => flatten_all.1 HPZ.out.2.2.1 c hc x hx) hall4 (by omega))
    have HA1 := Lib.hid ha1
    have HA2 := Lib.hid ha2
    have HF1 := Lib.hid hf1
    have HF2 := Lib.hid hf2
    have HQZ1 := Lib.hid q1
    have HQZ2 := Lib.hid q2
    have HFEW := Lib.hid few
    have c0 := q1.c0
    have c1 := q1.c1
    have hcb1 := hf1.cell
    unfold amgF at hcb1
    clear ha1 ha2 hf1 hf2 q1 q2 few hall4 hszz d0 d1 f0 f1
    go_wp2_with fail
    refine HWO.out.mono ?_
    rintro e w3 ⟨v3, rfl, hr3, hb3⟩
    have hL : cs.map (dropL (inB dead)) = leftL cs dead := rfl
    rw [hL] at hr3
    have HR3 := Lib.hid hr3
    have HB33 := Lib.hid hb3
    have HB3W : Hid (Below w.heap.size w w3) := Lib.hid (HBZ.out.trans (hb3.mono HBZ.out.size))
    have HNO := Lib.hid (hasNone_any v3 _ w3 _ hr3.chs)
    rw [any_none] at HNO
    have HLL := Lib.hid (leftL_length cs dead)
    obtain ⟨us3, e1, e2, _, _⟩ := hr3
    have few := HFEW.out
    have hne : us3.length ≠ 0 := by rw [e1, HLL.out]; omega
    obtain ⟨og, cap3, hv3⟩ : ∃ og cap3, v3 = .slice (some ⟨og, 0, none⟩) cs.length cap3 := by
      rcases e2.2 with ⟨_, h0⟩ | ⟨g, cap3, cur, hv, _⟩
      · exact absurd h0 hne
      · exact ⟨g, cap3, by rw [hv, e1, HLL.out]⟩
    have HQ31 := Lib.hid (HQZ1.out.low hb3 (by have := HSZ3.out; omega))
    have q2 := HQZ2.out.low hb3 (by have := HSZ3.out; omega)
    have d0 := q2.c0
    have d1 := q2.c1
    have f0 := q2.f0
    have f1 := q2.f1
    have HQ32 := Lib.hid q2
    subst hv3
    have hlen0 : (cs.length : Int) ≤ 4 := by omega
    clear hb3 hL e1 e2 hne q2 few c0 c1 hcb1
    by_cases g5 : (leftL cs dead).all (fun c => !c.isEmpty) = true
    rotate_left
    · have g5 : (leftL cs dead).all (fun c => !c.isEmpty) = false := Bool.eq_false_iff.2 g5
      have HP : Hid (nchk ep cs dead spares = 13) := Lib.hid (by rw [HNC3.out, if_pos g5])
      rw [g5] at HNO
      clear g5
      go_wp2_with fail
      refine HNO.out.mono ?_
      rintro e w4 ⟨rfl, rfl⟩
      go_wp2
      refine bodyPost_ret (v := .tuple #[.agg #[.int .i64 0, .slice none 0 0], errV 13]) (by simp [results, Tryz.results13, go_sem, d0, d1]; rfl) rfl (nextPost_bad HP.out (by decide) ?_)
      exact (HB3W.out.setCell (by simp) _).setCell (by simp) _
    have HP : Hid (nchk ep cs dead spares = 0) := Lib.hid (by rw [HNC3.out, if_neg (by rw [g5]; decide)])
    have HNE : Hid (∀ k, k < cs.length → (leftL cs dead).getD k [] ≠ []) := Lib.hid fun k hk h0 => by
      have := List.all_eq_true.1 g5 _ (getD_memC (l := leftL cs dead) k (by rw [leftL_length]; exact hk))
      rw [h0] at this
      cases this
    rw [g5] at HNO
    clear g5
    have hk1 := HF1.out.old HB33.out |>.cell
    have hk2 := HF2.out.old HB33.out |>.cell
    have HEO := Lib.hid (eachOnce_any 38 #[.pointer (some ⟨b1, 0, none⟩), .pointer (some ⟨b2, 0, none⟩)] (fun u => !inB dead u && !inB (unitsL cs.flatten) u) (fun u => unitB u = true) w3 (fits_gone (HA1.out.old HB33.out) (HA2.out.old HB33.out) hk1 hk2) _ spares B (HSZV.out.old HB33.out) (fun x hx => List.all_eq_true.1 HU2.out.2 x hx) HLN.out.2)
    clear hk1 hk2
    go_wp2_with fail
    refine HNO.out.mono ?_
    rintro e w4 ⟨rfl, rfl⟩
    go_wp2_with fail
    refine HEO.out.mono ?_
    rintro e w5 ⟨v5, rfl, ho5, hb5⟩
    have HFL := Lib.hid (onceL_facts (fun u => !inB dead u && !inB (unitsL cs.flatten) u) spares).2.2
    have HDL := Lib.hid (dlt_start HR3.out hb5 ho5 (p := w.heap.size) (by have := HSZ3.out; omega) (by have := HSZ3.out; have := HB33.out.size; omega))
    have HBZ5 : Hid (Below wz.heap.size wz w5) := Lib.hid (HB33.out.trans (hb5.mono HB33.out.size))
    obtain ⟨ao5, cap5, hv5⟩ := slice_val ho5
    have hF : onceL (fun u => !inB dead u && !inB (unitsL cs.flatten) u) spares = freeL cs dead spares := rfl
    rw [hF] at HFL HDL hv5
    obtain ⟨F, hFF⟩ : ∃ F, F = freeL cs dead spares := ⟨_, rfl⟩
    obtain ⟨L, hLL⟩ : ∃ L, L = leftL cs dead := ⟨_, rfl⟩
    have HNX : Hid (nextL cs dead spares = deal cs L F) := Lib.hid (by rw [hFF, hLL]; rfl)
    rw [← hFF] at HFL HDL hv5
    rw [← hLL] at HDL HNE HLL
    have HLE := Lib.hid hLL
    obtain ⟨fn, hfn⟩ : ∃ n, n = F.length := ⟨_, rfl⟩
    rw [← hfn] at hv5
    have HFN := Lib.hid hfn
    subst hv5
    clear ho5 hb5 hF hFF hLL hfn d0 d1 f0 f1
    go_wp2
    go_loopw [12, 13, 14, 15, 55] (fun fv _ _ _ iv wr => ∃ k : Nat, k ≤ cs.length ∧ iv = .int .i64 (k : Int) ∧ Dlt wr wz.heap.size (.slice (some ⟨og, 0, none⟩) cs.length cap3) ((deal cs L F).take k ++ L.drop k) fv (F.drop (dealt cs L k)) ∧ Below wz.heap.size wz wr)
      (fun _ _ _ _ iv _ => cs.length - (intOf iv).toNat)
    case atStart => exact ⟨0, Nat.zero_le _, rfl, by rw [dealt_zero]; exact HDL.out, HBZ5.out⟩
    case round =>
      obtain ⟨k, hk, rfl, hd, hb⟩ := hrel
      have HBR := Lib.hid hb
      have HBRW : Hid (Below w.heap.size w wr) := Lib.hid (HBZ.out.trans (hb.mono HBZ.out.size))
      by_cases hlt : k < cs.length
      · obtain ⟨us, fb, e1, e2, e3, e4, e5, e6, e7, e8⟩ := hd
        have hDL : (deal cs L F).length = cs.length := deal_length cs L F HLL.out.symm
        have hlk : ((deal cs L F).take k ++ L.drop k).length = cs.length := by
          rw [List.length_append, List.length_take, List.length_drop, hDL, HLL.out]; omega
        have hgk : ((deal cs L F).take k ++ L.drop k).getD k [] = L.getD k [] := getD_dealt (by rw [HLL.out]; exact hlt) (by rw [hDL, HLL.out])
        have hok := e3 k (by rw [hlk]; exact hlt)
        rw [hgk] at hok
        obtain ⟨g, capg, hug, hg1, hg2, hg3, hg4⟩ := hok.form (HNE.out k hlt)
        obtain ⟨bo, ofo, xo, rfl, hbo, _, hco, hxo⟩ := (HRZ.out.old HBR.out).at hlt
        obtain ⟨aox, capx, hxv, _⟩ := hxo.val
        subst hxv
        have hul : us.length = cs.length := by rw [e1, hlk]
        have e2c : wr.ownsRow wz.heap.size 40 1 (.slice (some ⟨og, 0, none⟩) cs.length cap3) cs.length us := by
          have := e2
          rw [hul] at this
          exact this
        have hcu : wr.cell? ⟨og, k, none⟩ = some (.slice (some ⟨g, 0, none⟩) (L.getD k []).length capg) := by
          rw [World.ownsRow.cellAt e2c k (by omega), ← hug, List.getD_eq_getElem?_getD, List.getElem?_eq_getElem (by rw [e1, hlk]; exact hlt)]
          rfl
        have hq1 := HQZ1.out.low HBR.out (by have := HSZ3.out; omega)
        have c1 := hq1.c1
        obtain ⟨aof, capf, hfv, hf1, hf2, hf3⟩ := e8.val
        obtain ⟨fn2, hfn2⟩ : ∃ n, n = (F.drop (dealt cs L k)).length := ⟨_, rfl⟩
        rw [← hfn2] at hfv
        subst hfv
        have hget := deal_get cs L F k HLL.out.symm hlt
        have hsuc := dealt_succ cs L k HLL.out.symm hlt
        have hdr := dropL_le (inB dead) (cs.getD k [])
        have hLk : L.getD k [] = dropL (inB dead) (cs.getD k []) := by rw [HLE.out]; exact leftL_get cs dead k hlt
        rw [← hLk] at hdr
        have hck := (formedB_iff.1 HPZ.out.2.1).2 _ (getD_memC k hlt)
        have hfl : (F.drop (dealt cs L k)).length ≤ 1000000 := by
          rw [List.length_drop]; have := HFL.out; have := HLN.out.2; omega
        obtain ⟨cl, hcl⟩ : ∃ n, n = (cs.getD k []).length := ⟨_, rfl⟩
        obtain ⟨ll, hll⟩ : ∃ n, n = (L.getD k []).length := ⟨_, rfl⟩
        obtain ⟨fl, hfle⟩ : ∃ l, l = F.drop (dealt cs L k) := ⟨_, rfl⟩
        obtain ⟨row, hrow⟩ : ∃ l, l = L.getD k [] := ⟨_, rfl⟩
        obtain ⟨d, hd⟩ : ∃ n, n = cl - ll := ⟨_, rfl⟩
        obtain ⟨m, hm⟩ : ∃ n, n = min d fl.length := ⟨_, rfl⟩
        rw [← hcl, ← hll] at hdr hget hsuc
        rw [← hcl] at hck hco
        rw [← hll] at hug hg3 hcu
        rw [← hrow] at hok hll hget
        rw [← hfle] at hfl hget e8 hf1 hfn2
        rw [← hd] at hget hsuc
        have hmf : m ≤ fl.length := by omega
        have hml : m ≤ 1000000 := by omega
        have hapf : fl.take m = fl.take d := by
          rw [hm]
          by_cases h : d ≤ fl.length
          · rw [Nat.min_eq_left h]
          · rw [Nat.min_eq_right (by omega), List.take_length, List.take_of_length_le (by omega)]
        have hdrf : fl.drop m = F.drop (dealt cs L (k + 1)) := by
          rw [hsuc, ← List.drop_drop, ← hfle, hm]
          by_cases h : d ≤ fl.length
          · rw [Nat.min_eq_left h]
          · rw [Nat.min_eq_right (by omega), List.drop_length, List.drop_eq_nil_of_le (by omega)]
        have hset : ((deal cs L F).take k ++ L.drop k).set k (row ++ fl.take m) = (deal cs L F).take (k + 1) ++ L.drop (k + 1) := by
          rw [hapf, ← hget]
          exact set_dealt (by rw [HLL.out]; exact hlt) (by rw [hDL, HLL.out])
        have hfm : m ≤ capf := by omega
        have hsh := fun W => slice_headI W aof fn2 capf m hfm
        have hst := fun W => slice_tailI W aof fn2 capf m (by rw [hfn2]; exact hmf)
        have hsub : (cl : Int) - (ll : Int) = (d : Int) := by omega
        have hmi : min (d : Int) (fn2 : Int) = (m : Int) := by omega
        have hklt : (k : Int) < cs.length := by omega
        have hd0 : (d : Int) ≤ 4 := by omega
        have HROW : Hid (IOwn wr wz.heap.size (.slice (some ⟨g, 0, none⟩) ll capg) row) := Lib.hid (by rw [← hug]; exact hok)
        have HFR : Hid (IRow wr (fun j => j = fb) (.slice aof m capf) (fl.take m)) := Lib.hid (e8.head hmf)
        have hog : og ≠ g := by
          have hx := iown_ne (e3 k (by rw [hlk]; exact hlt)) e2
          rw [hug] at hx
          rcases hx with hx | hx
          · cases hx
          · intro e; apply hx; rw [e]; rfl
        have HOG := Lib.hid hog
        have HCU := Lib.hid hcu
        have HFU : Hid (wr.frozen? ⟨og, k, none⟩ = false) := Lib.hid (World.ownsRow.frozenAt e2c k)
        have HGB : Hid (wz.heap.size ≤ g ∧ wz.heap.size ≤ og) := Lib.hid ⟨hg1, (World.ownsRow.lt e2 og rfl).1⟩
        have HE1 := Lib.hid e1
        have HE2 := Lib.hid e2
        have HE3 := Lib.hid e3
        have HE4 := Lib.hid e4
        have HE5 := Lib.hid e5
        have HE6 := Lib.hid e6
        have HE7 := Lib.hid e7
        have HE8 := Lib.hid e8
        have HUG := Lib.hid hug
        have HGK := Lib.hid (hgk.trans hrow.symm)
        have HLK := Lib.hid hlk
        have HSET := Lib.hid hset
        have HDRF := Lib.hid hdrf
        have HLLN := Lib.hid (show ll = row.length by rw [hll])
        have HMF : Hid (m ≤ fl.length ∧ row.length + (fl.take m).length ≤ 1000000000) := Lib.hid ⟨hmf, by rw [List.length_take]; omega⟩
        have HGW := Lib.hid hg2
        have HFM : Hid ((fl.take m).length = m) := Lib.hid (by rw [List.length_take]; omega)
        have HFN2 := Lib.hid hfn2
        clear e1 e2 e2c e3 e4 e5 e6 e7 e8 hug hgk hlk hset hdrf hll hok hcl hfle hrow hm hmf hml hapf hDL hul hget hsuc hdr hLk hck hfl hf1 hf2 hf3 hg1 hg2 hg3 hg4 hog hbo hxo hq1 hb hd
        clear hfn2
        go_wp2_with (at_builtin; go_must (refine wpList_appB wr rfl _ _ rfl wz.heap.size g ll capg row HLLN.out rfl HROW.out _ _ (fl.take m) rfl HFR.out HMF.out.2 HBR.out.size ?_))
        intro go2 capg2 g2 w6 hgo2 ho6 hg6 hgg
        subst hgo2
        have hcu6 : w6.cell? ⟨og, k, none⟩ = some (.slice (some ⟨g, 0, none⟩) ll capg) := (World.cell?_of_block (a := ⟨og, k, none⟩) (hg6.block og (World.block_lt_of_cell? wr _ HCU.out) (fun e => HOG.out (Option.some.inj e)))).trans HCU.out
        have hfu6 : w6.frozen? ⟨og, k, none⟩ = false := (World.frozen?_of_block (a := ⟨og, k, none⟩) (hg6.block og (World.block_lt_of_cell? wr _ HCU.out) (fun e => HOG.out (Option.some.inj e)))).trans HFU.out
        have HO6 := Lib.hid ho6
        have HG6 := Lib.hid hg6
        have HGG := Lib.hid hgg
        clear ho6 hg6 hgg
        go_wp2
        have hD := dlt_step (k := k) (w1 := w6) (og := og) (g := g) (n := ll) (cap := capg) (nv := cs.length) (capv := cap3) (g' := g2) (cap' := capg2) (add := fl.take m) (by rw [HLK.out]; exact hlt) HE1.out HE2.out HE3.out HE4.out HE5.out (fun e => HE6.out (by rw [← e]; rfl)) HE7.out HE8.out HUG.out (by rw [HGK.out, List.length_take]; exact HO6.out) HG6.out HGG.out
        rw [HGK.out, HSET.out, HFM.out] at hD
        have hD2 := hD.tail (m := m) HMF.out.1
        rw [HDRF.out] at hD2
        have HD2X := Lib.hid hD2
        have HBB : Hid (Below wz.heap.size wz (w6.setCell ⟨og, k, none⟩ (.slice (some ⟨g2, 0, none⟩) (row.length + m) capg2))) := Lib.hid ((HBR.out.grown HG6.out HBR.out.size (fun j hj => by cases hj; exact HGB.out.1)).setCell HGB.out.2 _)
        have HMM : Hid (min m fl.length = m) := Lib.hid (Nat.min_eq_left HMF.out.1)
        clear hD hD2
        go_roundw
        case rel => exact ⟨k + 1, by omega, by go_num, by rw [HMM.out]; exact HD2X.out, by rw [HMM.out]; exact HBB.out⟩
        case measure => simp [intOf]; omega
      · obtain rfl : k = cs.length := by omega
        have hDL : (deal cs L F).length = cs.length := deal_length cs L F HLL.out.symm
        have hall2 : (deal cs L F).take cs.length ++ L.drop cs.length = deal cs L F := by
          rw [List.take_of_length_le (by omega), List.drop_eq_nil_of_le (by rw [HLL.out]; exact Nat.le_refl _), List.append_nil]
        rw [hall2, ← HNX.out] at hd
        have HCF := Lib.hid hd.chs
        have q1 := HQZ1.out.low HBR.out (by have := HSZ3.out; omega)
        have q2 := HQZ2.out.low HBR.out (by have := HSZ3.out; omega)
        have c0 := q1.c0
        have d0 := q2.c0
        have d1 := q2.c1
        have f0 := q2.f0
        have f1 := q2.f1
        obtain ⟨p0, p1⟩ := epochB_iff.1 HPZ.out.1
        have hne2 : ¬ ((cs.length : Int) < (cs.length : Int)) := by omega
        clear hd hDL hall2 q1 q2 hb
        go_wp2
        refine bodyPost_ret (v := .tuple #[.agg #[.int .i64 (ep + 1), .slice (some ⟨og, 0, none⟩) cs.length cap3], errV 0]) (by simp [results, Tryz.results13, go_sem, d0, d1]; rfl) rfl ?_
        unfold NextPost
        rw [HP.out, if_pos rfl, if_pos rfl]
        refine ⟨_, rfl, ?_, (HBRW.out.setCell (by simp) _).setCell (by simp) _⟩
        refine (HCF.out.keep ⟨by simp, fun j hj hB => ?_⟩).mono fun j _ hj => by have := HSZ3.out; omega
        have hne3 : j ≠ w.heap.size + 1 := by have := HSZ3.out; omega
        rw [heap_setCell_other _ _ _ _ hne3, heap_setCell_other _ _ _ _ hne3]

end Go.Proofs.YtjbodokligpcaaaGreat
