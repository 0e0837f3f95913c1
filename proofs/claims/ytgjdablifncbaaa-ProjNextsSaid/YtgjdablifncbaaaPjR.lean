/- The document's own projections: Next. -/
import Derived.Test.YtgjdablifncbaaaPjQ
import Derived.Test.YtgjdablifncbaaaPjL
import Derived.Test.YtgjdablifncbaaaPjU
import Derived.Deep.AppendLies
namespace Go.Proofs.Ytgjdablifncbaaa
open Go.RowKit

def RNextPost (ep : Int) (cs : List (List Int)) (dead spares : List Int) (w : World) (e : Ending) (w' : World) : Prop :=
  ∃ v', e = .returned (.tuple #[.agg #[.int .i64 (if nchk ep cs dead spares = 0 then ep + 1 else 0), v'], .int .i64 ((nchk ep cs dead spares : Nat) : Int)]) ∧
    Chs w' (fun j => w.heap.size ≤ j) v' (if nchk ep cs dead spares = 0 then nextL cs dead spares else []) ∧ Below w.heap.size w w'
theorem rnextPost_bad {ep : Int} {cs : List (List Int)} {dead spares : List Int} {w w' : World} {c : Nat} {n : Int} (hc : nchk ep cs dead spares = c) (hn : n = (c : Int)) (h0 : c ≠ 0) (hb : Below w.heap.size w w') :
    RNextPost ep cs dead spares w (.returned (.tuple #[.agg #[.int .i64 0, .slice none 0 0], .int .i64 n])) w' := by
  unfold RNextPost
  rw [hc, if_neg h0, if_neg h0, hn]
  exact ⟨_, rfl, chs_nil _ _, hb⟩

theorem Chs.lowB {w1 w2 : World} {B : Nat → Prop} {v : Value} {cs : List (List Int)} {N : Nat} (h : Chs w1 B v cs) (hB : ∀ j, B j → j < N) (hb : Below N w1 w2) : Chs w2 B v cs := h.keep ⟨hb.size, fun j _ hBj => hb.block j (hB j hBj)⟩
theorem IRow.lowB {w1 w2 : World} {B : Nat → Prop} {v : Value} {l : List Int} {N : Nat} (h : IRow w1 B v l) (hB : ∀ j, B j → j < N) (hb : Below N w1 w2) : IRow w2 B v l := h.keep ⟨hb.size, fun j _ hBj => hb.block j (hB j hBj)⟩
theorem Chs.low {w : World} {B : Nat → Prop} {v : Value} {cs : List (List Int)} (h : Chs w B v cs) : Chs w (fun j => j < w.heap.size) v cs := h.mono fun _ hj _ => hj
theorem IRow.low {w : World} {B : Nat → Prop} {v : Value} {l : List Int} (h : IRow w B v l) : IRow w (fun j => j < w.heap.size) v l := h.mono fun _ hj _ => hj
theorem Box2.set1 {w : World} {p : Nat} {x y : Value} (h : Box2 w p x y) (z : Value) : Box2 (w.setCell ⟨p, 1, none⟩ z) p x z :=
  ⟨(World.cell?_setCell_other w ⟨p, 1, none⟩ ⟨p, 0, none⟩ z (by simp)).trans h.c0, World.cell?_setCell_same w ⟨p, 1, none⟩ z h.c1, by simp [h.f0], by simp [h.f1]⟩
theorem Box2.away {w : World} {p : Nat} {x y : Value} (h : Box2 w p x y) {a : Addr} (ha : a.block ≠ p) (z : Value) : Box2 (w.setCell a z) p x y :=
  ⟨(World.cell?_setCell_other w a ⟨p, 0, none⟩ z (fun e => ha (by subst e; rfl))).trans h.c0, (World.cell?_setCell_other w a ⟨p, 1, none⟩ z (fun e => ha (by subst e; rfl))).trans h.c1, by simp [h.f0], by simp [h.f1]⟩

theorem step_appI1 {w : World} {ops : Array Oper} {o : Oper} {a : Act} {K : Act → World → Prop} {Q : Exit → Act → World → Prop} {E : Prop} (hgd : o.guard = none) (s x : Operand)
    (ho : o.op = .call { callee := .builtin .append, args := #[s, x], argTypes := #[25, 25] })
    (base g n cap : Nat) (xs : List Int) (hn : n = xs.length) (hs : a.eval s = .slice (some ⟨g, 0, none⟩) n cap) (hown : IOwn w base (.slice (some ⟨g, 0, none⟩) n cap) xs) (u : Int) (ad : Addr) (hx : a.eval x = .slice (some ad) 1 1) (hc : w.cell? ad = some (.int .i64 u))
    (hbytes : n ≤ 1000000) (hbase : base ≤ w.heap.size)
    (h : ∀ cap' g' w', IOwn w' base (.slice (some ⟨g', 0, none⟩) (n + 1) cap') (xs ++ [u]) → w.grownBy w' (some g) → (g' = g ∨ g' = w.heap.size) → K (a.put o.dst (.slice (some ⟨g', 0, none⟩) (n + 1) cap')) w') :
    if Region.wanted o (yielded ops a.tmps) = true then Oper.wp Try.prog o a w K Q else E := by
  obtain ⟨i, hi, hz, hsz, hby⟩ := info_parts Try.infoI
  refine step_append_lies w hgd s x 25 ho base 3 i (.int .i64 0) 1 8 Try.underlying25 hi hz hsz hby rfl (by decide) _ n (iv xs) hs (by have h0 := hown; unfold IOwn at h0; rw [← hn] at h0; exact h0) ad 1 1 [.int .i64 u] hx rfl ?_ ?_ (by decide) (by simp only [maxLen]; omega) (by omega) hbase _ rfl ?_
  · intro j y hj
    match j with
    | 0 =>
      simp only [List.getElem?_cons_zero, Option.some.injEq] at hj
      subst hj
      simpa [Addr.add] using hc
    | j + 1 => simp at hj
  · intro y hy
    rw [List.mem_singleton] at hy
    rw [hy]; rfl
  · intro g' cap' w' h2 h3 h4 _
    refine h cap' g' w' ?_ h3 ?_
    · unfold IOwn
      rw [List.length_append, List.length_singleton, iv_append, ← hn]
      exact h2
    · rcases h4 with h4 | h4
      · left; simpa [Value.ownBlock] using h4.symm
      · exact .inr h4

set_option maxHeartbeats 4000000 in
set_option maxRecDepth 100000 in
theorem rnext_low (ep : Int) (v dv sv : Value) (cs : List (List Int)) (dead spares : List Int) (w : World) (B : Nat → Prop) (hB : ∀ j, B j → j < w.heap.size) (h : Chs w B v cs) (hd : IRow w B dv dead) (hs : IRow w B sv spares) (hdl : dead.length ≤ 1000000) (hsl : spares.length ≤ 1000000) :
    Calls Try.prog 9 #[.agg #[.int .i64 ep, v], dv, sv] w (RNextPost ep cs dead spares w) := by
  obtain ⟨ao, cap, rfl, l1, m1, _⟩ := h.val
  obtain ⟨aod, capd, hdv, l2, m2, _⟩ := hd.val
  obtain ⟨aos, caps, hsv, l3, m3, _⟩ := hs.val
  obtain ⟨W1, hW1⟩ : ∃ W1, W1 = (w.alloc (.cells #[.int .i64 ep, .slice ao cs.length cap] 33)).alloc (.cells #[.int .i64 0, .slice none 0 0] 33) := ⟨_, rfl⟩
  have hb1 : Below w.heap.size w W1 := by rw [hW1]; exact ((Below.refl _ _).alloc (Nat.le_refl _) _).alloc (by simp) _
  have hx1 : Box2 W1 w.heap.size (.int .i64 ep) (.slice ao cs.length cap) := by rw [hW1]; exact (box2_new _ _ _ _).old ((Below.refl _ _).alloc (Nat.le_refl _) _)
  have hx2 : Box2 W1 (w.heap.size + 1) (.int .i64 0) (.slice none 0 0) := by
    have := box2_new (w.alloc (.cells #[.int .i64 ep, .slice ao cs.length cap] 33)) (.int .i64 0) (.slice none 0 0) 33
    rw [hW1]; simpa using this
  have hsz : w.heap.size + 2 ≤ W1.heap.size := by rw [hW1]; simp
  have HBD := Lib.hid hB
  have HX1 := Lib.hid hx1
  have HX2 := Lib.hid hx2
  have HB1 := Lib.hid hb1
  have HSZ := Lib.hid hsz
  have HD := Lib.hid (hd.old hb1)
  have HS := Lib.hid (hs.old hb1)
  have HR := Lib.hid (h.old hb1)
  have HCH := Lib.hid (rpcheck_any ep _ cs W1 B (h.old hb1))
  have HLN : Hid (dead.length ≤ 1000000 ∧ spares.length ≤ 1000000) := Lib.hid ⟨hdl, hsl⟩
  obtain ⟨dn, hdn⟩ : ∃ n, n = dead.length := ⟨_, rfl⟩
  obtain ⟨sn, hsn⟩ : ∃ n, n = spares.length := ⟨_, rfl⟩
  rw [← hdn] at hdv
  rw [← hsn] at hsv
  have HSN := Lib.hid hsn
  have HDN := Lib.hid hdn
  subst hdv
  subst hsv
  clear hB h hd hs hb1 l1 m1 l2 m2 l3 m3 hx1 hx2 hsz hdl hsl hdn hsn
  subst hW1
  by_cases g1 : pchk ep cs = 0
  rotate_left
  · have HP : Hid (nchk ep cs dead spares = pchk ep cs ∧ pchk ep cs ≠ 0) := Lib.hid ⟨by unfold nchk; rw [if_pos g1], g1⟩
    obtain ⟨c, hc⟩ : ∃ c, c = pchk ep cs := ⟨_, rfl⟩
    rw [← hc] at HP HCH g1
    have hc0 : ((c : Int) != 0) = true := by rw [bne_iff_ne]; omega
    clear g1 hc
    go_enter Try.func9, Try.ntmps9
    go_wp2_with fail
    refine HCH.out.mono ?_
    rintro e w1 ⟨rfl, hb2⟩
    have q2 := HX2.out.old hb2
    have d0 := q2.c0
    have d1 := q2.c1
    have f0 := q2.f0
    have f1 := q2.f1
    have HB2 : Hid (Below w.heap.size w w1) := Lib.hid (HB1.out.trans (hb2.mono HB1.out.size))
    clear hb2 q2
    go_wp2
    refine bodyPost_ret (v := .tuple #[.agg #[.int .i64 0, .slice none 0 0], .int .i64 (c : Int)]) (by simp [results, Try.results9, go_sem, d0, d1]) rfl (rnextPost_bad HP.out.1 rfl HP.out.2 ?_)
    exact (HB2.out.setCell (by simp) _).setCell (by simp) _
  have HNC : Hid (nchk ep cs dead spares = if dead.all unitB = false ∨ spares.all unitB = false then 1 else if ep = 1099511627776 then 5 else if (leftL cs dead).all (fun c => !c.isEmpty) = false then 13 else 0) := Lib.hid (by unfold nchk; rw [if_neg (by simp [g1])])
  have HPZ := Lib.hid (pchk_zero.1 g1)
  rw [g1] at HCH
  clear g1
  go_enter Try.func9, Try.ntmps9
  go_wp2_with fail
  refine HCH.out.mono ?_
  rintro e w1 ⟨rfl, hb2⟩
  have q1 := HX1.out.old hb2
  have c0 := q1.c0
  have c1 := q1.c1
  have HQ1 := Lib.hid q1
  have HQ2 := Lib.hid (HX2.out.old hb2)
  have HB2 : Hid (Below w.heap.size w w1) := Lib.hid (HB1.out.trans (hb2.mono HB1.out.size))
  have HSZ2 : Hid (w.heap.size + 2 ≤ w1.heap.size) := Lib.hid (Nat.le_trans HSZ.out hb2.size)
  have HD2 := Lib.hid (HD.out.old hb2)
  have HS2 := Lib.hid (HS.out.old hb2)
  have HR2 := Lib.hid (HR.out.old hb2)
  have hbe : Below w1.heap.size w1 (w1.alloc (.cells #[] 3)) := (Below.refl _ _).alloc (Nat.le_refl _) _
  have HBE := Lib.hid hbe
  have HE : Hid (IOwn (w1.alloc (.cells #[] 3)) w1.heap.size (.slice (some ⟨w1.heap.size, 0, none⟩) 0 0) []) := Lib.hid (World.ownsRow_made w1 #[] 0 (Nat.le_refl _) (by simp [maxLen]) rfl)
  clear hb2 q1 hbe
  go_wp2_with (at_builtin; go_must (refine wpList_appI _ rfl _ _ rfl w1.heap.size _ [] rfl HE.out _ B dead (by rw [HDN.out]) (by rw [← HDN.out]; exact HD2.out.old HBE.out) ?c1 ?c3 ?_))
  case c1 => have := HLN.out.1; simp; omega
  case c3 => simp
  intro v4 w4 ho4 hg4
  have hb4 : Below w1.heap.size w1 w4 := HBE.out.grown hg4 HBE.out.size (fun j hj => (HE.out.lt j hj).1)
  have HB4 := Lib.hid hb4
  have HO4 : Hid (IOwn w4 w1.heap.size v4 dead) := Lib.hid ho4
  clear ho4 hg4 hb4
  go_wp2_with (at_builtin; go_must (refine wpList_appI _ rfl _ _ rfl w1.heap.size _ dead rfl HO4.out _ B spares (by rw [HSN.out]) (by rw [← HSN.out]; exact HS2.out.old HB4.out) ?c4 ?c5 ?_))
  case c4 => have := HLN.out; omega
  case c5 => exact HB4.out.size
  intro v5 w5 ho5 hg5
  have hb5 : Below w1.heap.size w1 w5 := HB4.out.grown hg5 HB4.out.size (fun j hj => (HO4.out.lt j hj).1)
  have HB5 := Lib.hid hb5
  have HO5 : Hid (IRow w5 (fun _ => True) v5 (dead ++ spares)) := Lib.hid (ho5.row.mono fun _ _ _ => trivial)
  obtain ⟨ao5, cap5, hv5⟩ := slice_val ho5
  obtain ⟨n5, hn5⟩ : ∃ n, n = (dead ++ spares).length := ⟨_, rfl⟩
  rw [← hn5] at hv5
  have HN5 := Lib.hid hn5
  have hn5b : n5 ≤ 2000000 := by rw [hn5, List.length_append]; have := HLN.out; omega
  subst hv5
  have q1 := HQ1.out.low hb5 (by have := HSZ2.out; omega)
  have q2 := HQ2.out.low hb5 (by have := HSZ2.out; omega)
  have c0 := q1.c0
  have c1 := q1.c1
  have d0 := q2.c0
  have d1 := q2.c1
  have f0 := q2.f0
  have f1 := q2.f1
  have HQ1W := Lib.hid q1
  have HQ2W := Lib.hid q2
  have HBW5 : Hid (Below w.heap.size w w5) := Lib.hid (HB2.out.trans (hb5.mono HB2.out.size))
  clear ho5 hg5 hb5 q1 q2 hn5
  go_wp2
  go_loop [10, 31] (fun _ i => ∃ k : Nat, k ≤ n5 ∧ i = .int .i64 (k : Int) ∧ ∀ u ∈ (dead ++ spares).take k, unitB u = true) (fun _ i => n5 - (intOf i).toNat)
  case atStart => exact ⟨0, Nat.zero_le _, rfl, by simp⟩
  case round =>
    obtain ⟨k, hk, rfl, hp⟩ := hrel
    have HP := Lib.hid hp; clear hp
    by_cases hlt : k < n5
    · have hltl : k < (dead ++ spares).length := by rw [← HN5.out]; exact hlt
      obtain ⟨b, off, rfl, _, _, hc⟩ := (HN5.out ▸ HO5.out : IRow w5 (fun _ => True) _ (dead ++ spares)).at hltl
      have hcc := hc k hltl
      have HTS := Lib.hid (ints_take k hltl)
      have HM := Lib.hid (getD_memI k hltl)
      have hlti : (k : Int) < n5 := by omega
      generalize (dead ++ spares).getD k 0 = u at hcc HTS HM
      clear hc hltl
      by_cases hu : unitB u = true
      · obtain ⟨y1, y2⟩ := unitB_iff.1 hu
        have y3 : ¬ u < 0 := by omega
        have y4 : ¬ u > 7 := by omega
        have HS5 : Hid (∀ x ∈ (dead ++ spares).take (k + 1), unitB x = true) := Lib.hid (by
          rw [HTS.out]
          intro x hx
          rcases List.mem_append.1 hx with hx | hx
          · exact HP.out x hx
          · rw [List.mem_singleton.1 hx]; exact hu)
        clear hu y1 y2
        go_wp2
        go_round
        case rel => exact ⟨k + 1, by omega, by go_num, HS5.out⟩
        case measure => simp [intOf]; omega
      · have HPE : Hid (nchk ep cs dead spares = 1) := Lib.hid (by
          rw [HNC.out, if_pos]
          rcases List.mem_append.1 HM.out with hm | hm
          · exact .inl (List.all_eq_false.2 ⟨u, hm, hu⟩)
          · exact .inr (List.all_eq_false.2 ⟨u, hm, hu⟩))
        by_cases y0 : u < 0
        · clear hu
          go_wp2
          refine bodyPost_ret (v := .tuple #[.agg #[.int .i64 0, .slice none 0 0], .int .i64 1]) (by simp [results, Try.results9, go_sem, d0, d1]) rfl (rnextPost_bad HPE.out rfl (by decide) ?_)
          exact (HBW5.out.setCell (by simp) _).setCell (by simp) _
        · have y7 : u > 7 := by
            refine Classical.byContradiction fun hn => hu (unitB_iff.2 ⟨by omega, by omega⟩)
          clear hu
          go_wp2
          refine bodyPost_ret (v := .tuple #[.agg #[.int .i64 0, .slice none 0 0], .int .i64 1]) (by simp [results, Try.results9, go_sem, d0, d1]) rfl (rnextPost_bad HPE.out rfl (by decide) ?_)
          exact (HBW5.out.setCell (by simp) _).setCell (by simp) _
    · obtain rfl : k = n5 := by omega
      have hall := HP.out
      rw [HN5.out, List.take_length] at hall
      have HUD : Hid ((∀ u ∈ dead, unitB u = true) ∧ ∀ u ∈ spares, unitB u = true) := Lib.hid ⟨fun u hu => hall u (List.mem_append.2 (.inl hu)), fun u hu => hall u (List.mem_append.2 (.inr hu))⟩
      have HNC2 : Hid (nchk ep cs dead spares = if ep = 1099511627776 then 5 else if (leftL cs dead).all (fun c => !c.isEmpty) = false then 13 else 0) := Lib.hid (by
        rw [HNC.out, if_neg]
        rintro (h | h)
        · rw [List.all_eq_true.2 HUD.out.1] at h; cases h
        · rw [List.all_eq_true.2 HUD.out.2] at h; cases h)
      clear hall HP
      by_cases g4 : ep = 1099511627776
      · have HPE : Hid (nchk ep cs dead spares = 5) := Lib.hid (by rw [HNC2.out, if_pos g4])
        have g4b : (ep == 1099511627776) = true := by rw [beq_iff_eq]; exact g4
        clear g4
        go_wp2
        refine bodyPost_ret (v := .tuple #[.agg #[.int .i64 0, .slice none 0 0], .int .i64 5]) (by simp [results, Try.results9, go_sem, d0, d1]) rfl (rnextPost_bad HPE.out rfl (by decide) ?_)
        exact (HBW5.out.setCell (by simp) _).setCell (by simp) _
      have HNC3 : Hid (nchk ep cs dead spares = if (leftL cs dead).all (fun c => !c.isEmpty) = false then 13 else 0) := Lib.hid (by rw [HNC2.out, if_neg g4])
      have g4b : (ep == 1099511627776) = false := by rw [beq_eq_false_iff_ne]; exact g4
      obtain ⟨p0, p1⟩ := epochB_iff.1 HPZ.out.1
      clear g4
      have few := formed_few HPZ.out.2.1
      obtain ⟨W6, hW6⟩ : ∃ W, W = w5.alloc (.cells #[.int .i64 (ep + 1), .slice none 0 0] 33) := ⟨_, rfl⟩
      have hb6 : Below w5.heap.size w5 W6 := by rw [hW6]; exact (Below.refl _ _).alloc (Nat.le_refl _) _
      have z1 := HQ1W.out.old hb6
      have HQ1W6 := Lib.hid z1
      have HQ2W6 := Lib.hid (HQ2W.out.old hb6)
      have hz6 : Box2 W6 w5.heap.size (.int .i64 (ep + 1)) (.slice none 0 0) := by rw [hW6]; exact box2_new _ _ _ _
      have HO6 := Lib.hid hz6
      have hs6 : W6.heap.size = w5.heap.size + 1 := by rw [hW6]; simp
      have HS6 := Lib.hid hs6
      have HBW6 : Hid (Below w.heap.size w W6) := Lib.hid (HBW5.out.trans (hb6.mono HBW5.out.size))
      have HSZ6 : Hid (w.heap.size + 2 ≤ w5.heap.size) := Lib.hid (by have := HSZ2.out; have := HB5.out.size; omega)
      have HR6 := Lib.hid ((HR2.out.old HB5.out).old hb6)
      have HD6 := Lib.hid ((HD2.out.old HB5.out).old hb6)
      have HSP6 := Lib.hid ((HS2.out.old HB5.out).old hb6)
      have HFEW := Lib.hid few
      have hlen4 : (cs.length : Int) ≤ 4 := by omega
      have e1 := z1.c1
      have e0 := z1.c0
      rw [hW6] at e1 e0
      have HW6 := Lib.hid hW6
      clear hb6 z1 hz6 few hW6 hs6 d0 d1 f0 f1
      have HBD5 : Hid (∀ j, B j → j < w5.heap.size) := Lib.hid fun j hj => by have := HBD.out j hj; have := HSZ6.out; omega
      have HLG := Lib.hid (leftL_length cs dead)
      have hl4 : ∀ c ∈ cs, c.length ≤ 4 := fun c hc => ((formedB_iff.1 HPZ.out.2.1).2 c hc).2
      have HL4 := Lib.hid hl4
      clear hl4
      go_wp2_with fail
      rw [← HW6.out]
      go_loopw [13, 14, 16, 54, 61] (fun _ _ _ iv _ wr => ∃ (k : Nat) (ov : Value), k ≤ cs.length ∧ iv = .int .i64 (k : Int) ∧ Rows1 wr W6.heap.size ov ((leftL cs dead).take k) ∧ Box2 wr w5.heap.size (.int .i64 (ep + 1)) ov ∧ (∀ j, j < k → (leftL cs dead).getD j [] ≠ []) ∧ Below w5.heap.size W6 wr)
        (fun _ _ _ iv _ _ => cs.length - (intOf iv).toNat)
      case atStart => exact ⟨0, _, Nat.zero_le _, rfl, rows_nil _ _, HO6.out, by simp, Below.refl _ _⟩
      case round =>
        obtain ⟨k, ov, hk, rfl, hro, hbo, hne, hbw⟩ := hrel
        obtain ⟨wo, rfl⟩ : ∃ x, x = wr := ⟨_, rfl⟩
        have HRO := Lib.hid hro
        have HBO := Lib.hid hbo
        have HNE := Lib.hid hne
        have HBW := Lib.hid hbw
        have hsz6 := HS6.out
        have hszo := hbw.size
        have HZO : Hid (W6.heap.size ≤ wo.heap.size ∧ w5.heap.size < W6.heap.size) := Lib.hid ⟨hszo, by omega⟩
        clear hro hbo hne hbw hsz6 hszo e0 e1
        by_cases hlt : k < cs.length
        · obtain ⟨b, off, x, rfl, hb, _, hc, hu⟩ := (HR6.out.lowB HBD5.out HBW.out).at hlt
          obtain ⟨aoc, capc, rfl, lc1, lc2, _⟩ := hu.val
          have HM := Lib.hid (getD_memC k hlt)
          have HLK := Lib.hid (leftL_get cs dead k hlt)
          have HLT := Lib.hid (chains_take (cs := leftL cs dead) k (by rw [leftL_length]; exact hlt))
          have hlti : (k : Int) < cs.length := by omega
          generalize cs.getD k [] = c at hc hu HM HLK lc1
          have hc4 := HL4.out c HM.out
          obtain ⟨cl, hcl⟩ : ∃ n, n = c.length := ⟨_, rfl⟩
          rw [← hcl] at hc lc1 hc4
          have HCL := Lib.hid hcl
          have HRC : Hid (IRow wo B (.slice aoc cl capc) c) := Lib.hid (by rw [hcl]; exact hu)
          have HWE : Hid (Below wo.heap.size wo (wo.alloc (.cells #[] 3))) := Lib.hid ((Below.refl _ _).alloc (Nat.le_refl _) _)
          have HLE : Hid (IOwn (wo.alloc (.cells #[] 3)) wo.heap.size (.slice (some ⟨wo.heap.size, 0, none⟩) 0 0) (dropL (inB dead) (c.take 0))) := Lib.hid (by
            rw [List.take_zero]
            exact World.ownsRow_made wo #[] 0 (Nat.le_refl _) (by simp [maxLen]) rfl)
          unfold maxLen at lc2
          clear hu hcl
          go_wp2
          go_loopw [14, 16, 61] (fun lv _ jv wq => ∃ q : Nat, q ≤ cl ∧ jv = .int .i64 (q : Int) ∧ IOwn wq wo.heap.size lv (dropL (inB dead) (c.take q)) ∧ Below wo.heap.size wo wq)
            (fun _ _ jv _ => cl - (intOf jv).toNat)
          case atStart => exact ⟨0, Nat.zero_le _, rfl, HLE.out, HWE.out⟩
          case round =>
            obtain ⟨q, hq, rfl, hio, hbq⟩ := hrel
            have HIO := Lib.hid hio
            have HBQ := Lib.hid hbq
            by_cases hlq : q < cl
            · have hlqc : q < c.length := by rw [← HCL.out]; exact hlq
              obtain ⟨b2, off2, rfl, _, _, hc2⟩ := (HRC.out.old HBQ.out).at hlqc
              have hcc := hc2 q hlqc
              have HDS := Lib.hid (dropL_snoc (g := inB dead) hlqc)
              have hqi : (q : Int) < cl := by omega
              have HHS := Lib.hid (has11_any _ dead (c.getD q 0) wr B ((HD6.out.lowB HBD5.out HBW.out).old HBQ.out))
              have hdll := dropL_take_le (inB dead) c q
              have HLL : Hid ((dropL (inB dead) (c.take q)).length + 1 ≤ 1000) := Lib.hid (by omega)
              generalize c.getD q 0 = y at hcc HDS HHS
              clear hc2 hlqc hio hbq hdll
              by_cases hy : inB dead y = true
              · have HX : Hid (dropL (inB dead) (c.take (q + 1)) = dropL (inB dead) (c.take q)) := Lib.hid (by rw [HDS.out, if_pos hy, List.append_nil])
                rw [hy] at HHS
                clear hy
                go_wp2_with fail
                refine HHS.out.mono ?_
                rintro e w7 ⟨rfl, rfl⟩
                go_wp2
                go_roundw
                case rel => exact ⟨q + 1, by omega, by go_num, by rw [HX.out]; exact HIO.out, HBQ.out⟩
                case measure => simp [intOf]; omega
              · have HX : Hid (dropL (inB dead) (c.take (q + 1)) = dropL (inB dead) (c.take q) ++ [y]) := Lib.hid (by rw [HDS.out, if_neg hy])
                have hy : inB dead y = false := Bool.eq_false_iff.2 hy
                rw [hy] at HHS
                clear hy
                go_wp2_with fail
                refine HHS.out.mono ?_
                rintro e w7 ⟨rfl, rfl⟩
                go_wp2_with (at_builtin; go_must (refine wpList_appI _ rfl _ _ rfl wo.heap.size _ (dropL (inB dead) (c.take q)) rfl (HIO.out.below ((Below.refl _ _).alloc (Nat.le_refl _) _) (Nat.le_refl _)) _ _ [y] rfl (ireads_new _ _) ?c6 ?c7 ?_))
                case c6 => have := HLL.out; simp only [List.length_cons, List.length_nil]; omega
                case c7 => have := HBQ.out.size; simp; omega
                intro v8 w8 ho8 hg8
                have HB8 : Hid (Below wo.heap.size wo w8) := Lib.hid ((HBQ.out.alloc HBQ.out.size _).grown hg8 (by have := HBQ.out.size; simp; omega) (fun j hj => (HIO.out.lt j hj).1))
                have HO8 : Hid (IOwn w8 wo.heap.size v8 (dropL (inB dead) (c.take (q + 1)))) := Lib.hid (by rw [HX.out]; exact ho8)
                clear ho8 hg8
                go_wp2
                go_roundw
                case rel => exact ⟨q + 1, by omega, by go_num, HO8.out, HB8.out⟩
                case measure => simp [intOf]; omega
            · obtain rfl : q = cl := by omega
              rw [HCL.out, List.take_length, ← HLK.out] at hio
              have HI := Lib.hid hio
              obtain ⟨aol, capl, hlv⟩ := slice_val hio
              obtain ⟨ll, hll⟩ : ∃ n, n = ((leftL cs dead).getD k []).length := ⟨_, rfl⟩
              rw [← hll] at hlv
              have HLLN := Lib.hid hll
              subst hlv
              have hbx := HBO.out.old hbq
              have b0 := hbx.c0
              have b1 := hbx.c1
              have HBX := Lib.hid hbx
              clear hio hbq hll hbx
              by_cases hl0 : ll = 0
              · have HPE : Hid (nchk ep cs dead spares = 13) := Lib.hid (by
                  rw [HNC3.out, if_pos]
                  rw [List.all_eq_false]
                  refine ⟨(leftL cs dead).getD k [], getD_memC k (by rw [HLG.out]; exact hlt), ?_⟩
                  have : (leftL cs dead).getD k [] = [] := List.length_eq_zero_iff.1 (by rw [← HLLN.out]; exact hl0)
                  rw [this]; simp)
                have hlz : ((ll : Int) == 0) = true := by rw [beq_iff_eq]; omega
                have HBF : Hid (Below w5.heap.size W6 wr) := Lib.hid (HBW.out.trans (HBQ.out.mono (by have := HZO.out; omega)))
                have r2 := HQ2W6.out.low HBF.out (by have := HSZ6.out; omega)
                have d0 := r2.c0
                have d1 := r2.c1
                have f0 := r2.f0
                have f1 := r2.f1
                clear hl0 r2
                go_wp2
                refine bodyPost_ret (v := .tuple #[.agg #[.int .i64 0, .slice none 0 0], .int .i64 13]) (by simp [results, Try.results9, go_sem, d0, d1]) rfl (rnextPost_bad HPE.out rfl (by decide) ?_)
                exact ((HBW6.out.trans (HBF.out.mono (by have := HBW5.out.size; omega))).setCell (by simp) _).setCell (by simp) _
              · have hlz : ((ll : Int) == 0) = false := by rw [beq_eq_false_iff_ne]; omega
                have HLNZ : Hid ((leftL cs dead).getD k [] ≠ []) := Lib.hid fun h => hl0 (by rw [HLLN.out, h]; rfl)
                have HU : Hid (IOwn wr W6.heap.size (.slice aol ll capl) ((leftL cs dead).getD k [])) := Lib.hid (HI.out.mono HZO.out.1)
                have HUM : Hid (∀ b, (Value.slice aol ll capl).ownBlock = some b → wo.heap.size ≤ b) := Lib.hid fun b hb => (HI.out.lt b hb).1
                obtain ⟨aoo, capo, hov, _⟩ := HRO.out.chs.val
                have HTL : Hid (((leftL cs dead).take k).length = k) := Lib.hid (by rw [List.length_take, HLG.out]; omega)
                rw [HTL.out] at hov
                subst hov
                clear hl0
                go_wp2_with (at_builtin; go_must (refine wpList_appR wr _ rfl _ _ rfl rfl wo W6.heap.size _ _ _ rfl HRO.out HBQ.out HU.out HUM.out rfl ?c8 HZO.out.1 ?_))
                case c8 => rw [HTL.out]; omega
                intro v9 w9 hr9 hb9
                have hr9 : Rows1 w9 W6.heap.size v9 ((leftL cs dead).take (k + 1)) := by rw [HLT.out]; exact hr9
                obtain ⟨ao9, cap9, hv9, _⟩ := hr9.chs.val
                obtain ⟨n9, hn9⟩ : ∃ n, n = ((leftL cs dead).take (k + 1)).length := ⟨_, rfl⟩
                rw [← hn9] at hv9
                subst hv9
                have hbw9 : Below W6.heap.size wr w9 := ((Below.refl _ _).alloc (by have := HZO.out; have := HBQ.out.size; omega) _).trans hb9
                have hx9 := HBX.out.low hbw9 HZO.out.2
                have b0 := hx9.c0
                have b1 := hx9.c1
                have g0 := hx9.f0
                have g1 := hx9.f1
                have HX10 := Lib.hid (hx9.set1 (.slice ao9 n9 cap9))
                have HR10 : Hid (Rows1 (w9.setCell ⟨w5.heap.size, 1, none⟩ (.slice ao9 n9 cap9)) W6.heap.size (.slice ao9 n9 cap9) ((leftL cs dead).take (k + 1))) := Lib.hid (hr9.keepB fun j hj _ => heap_setCell_other _ ⟨w5.heap.size, 1, none⟩ j _ (by have := HZO.out; show j ≠ w5.heap.size; omega))
                have HB10 : Hid (Below w5.heap.size W6 (w9.setCell ⟨w5.heap.size, 1, none⟩ (.slice ao9 n9 cap9))) := Lib.hid (((HBW.out.trans (HBQ.out.mono (by have := HZO.out; omega))).trans (hbw9.mono (by have := HZO.out; omega))).setCell (Nat.le_refl _) _)
                have HN10 : Hid (∀ j, j < k + 1 → (leftL cs dead).getD j [] ≠ []) := Lib.hid fun j hj => by
                  by_cases e : j = k
                  · rw [e]; exact HLNZ.out
                  · exact HNE.out j (by omega)
                clear hr9 hb9 hbw9 hx9 hn9
                go_wp2
                go_roundw
                case rel => exact ⟨k + 1, _, by omega, by go_num, HR10.out, HX10.out, HN10.out, HB10.out⟩
                case measure => simp [intOf]; omega
        · obtain rfl : k = cs.length := by omega
          have hro := HRO.out
          rw [List.take_of_length_le (by rw [HLG.out]; exact Nat.le_refl _)] at hro
          have HP0 : Hid (nchk ep cs dead spares = 0) := Lib.hid (by
            rw [HNC3.out, if_neg]
            rw [List.all_eq_true.2 (fun c hc => ?_)]
            · decide
            · obtain ⟨j, hj, e⟩ := List.getElem_of_mem hc
              have h1 := HNE.out j (by rw [← HLG.out]; exact hj)
              rw [List.getD_eq_getElem?_getD, List.getElem?_eq_getElem hj, Option.getD_some, e] at h1
              cases c with
              | nil => exact absurd rfl h1
              | cons _ _ => rfl)
          obtain ⟨us0, a1, a2, _, _⟩ := id hro
          have hne0 : us0.length ≠ 0 := by rw [a1, HLG.out]; have := HFEW.out; omega
          obtain ⟨og, cap3, hv3⟩ : ∃ og cap3, ov = .slice (some ⟨og, 0, none⟩) cs.length cap3 := by
            rcases a2.2 with ⟨_, h0⟩ | ⟨g, cap3, cur, hv, _⟩
            · exact absurd h0 hne0
            · exact ⟨g, cap3, by rw [hv, a1, HLG.out]⟩
          subst hv3
          have HDL := Lib.hid (dlt_start hro (Below.refl _ _) (iown_nil wo wo.heap.size) (p := w.heap.size) (by have := HZO.out; have := HSZ6.out; omega) (by have := HZO.out; have := HSZ6.out; omega))
          obtain ⟨F, hFF⟩ : ∃ F, F = freeL cs dead spares := ⟨_, rfl⟩
          obtain ⟨L, hLL⟩ : ∃ L, L = leftL cs dead := ⟨_, rfl⟩
          have HFE := Lib.hid hFF
          have HLE := Lib.hid hLL
          rw [← hLL] at HDL HNE HLG
          have b1 := HBO.out.c1
          have hnn : ¬ ((cs.length : Int) < (cs.length : Int)) := by omega
          have HD0 : Hid (Dlt wo W6.heap.size (.slice (some ⟨og, 0, none⟩) cs.length cap3) ((deal cs L F).take 0 ++ L.drop 0) (.slice none 0 0) []) := HDL
          have HDLN : Hid ((deal cs L F).length = cs.length) := Lib.hid (deal_length cs L F HLG.out.symm)
          clear hro a1 a2 hne0 hFF hLL HRO
          go_wp2
          go_loopw [17, 18, 88] (fun _ _ iv wr => ∃ i : Nat, i ≤ cs.length ∧ iv = .int .i64 (i : Int) ∧ Dlt wr W6.heap.size (.slice (some ⟨og, 0, none⟩) cs.length cap3) ((deal cs L F).take i ++ L.drop i) (.slice none 0 0) [] ∧ Box2 wr w5.heap.size (.int .i64 (ep + 1)) (.slice (some ⟨og, 0, none⟩) cs.length cap3) ∧ Below w5.heap.size W6 wr)
            (fun _ _ iv _ => cs.length - (intOf iv).toNat)
          case atStart => exact ⟨0, Nat.zero_le _, rfl, HD0.out, HBO.out, HBW.out⟩
          case round =>
            obtain ⟨i, hi, rfl, hdl, hbx, hbl⟩ := hrel
            obtain ⟨wi, rfl⟩ : ∃ x, x = wr := ⟨_, rfl⟩
            have HDI := Lib.hid hdl
            have HBI := Lib.hid hbx
            have HBLI := Lib.hid hbl
            clear hdl hbx hbl b1
            by_cases hlt : i < cs.length
            · have hlti : (i : Int) < cs.length := by omega
              obtain ⟨fx, hfx⟩ : ∃ f : Int → Bool, f = fun u => !inB dead u && !inB (unitsL cs.flatten) u := ⟨_, rfl⟩
              have HFX := Lib.hid hfx
              have hck := (formedB_iff.1 HPZ.out.2.1).2 _ (getD_memC i hlt)
              have hdr : (L.getD i []).length ≤ (cs.getD i []).length := by rw [HLE.out, leftL_get cs dead i hlt]; exact dropL_le _ _
              obtain ⟨need, hneed⟩ : ∃ n, n = (cs.getD i []).length - (L.getD i []).length := ⟨_, rfl⟩
              obtain ⟨t, ht⟩ : ∃ t, t = dealt cs L i := ⟨_, rfl⟩
              have hget := deal_get cs L F i HLG.out.symm hlt
              rw [← ht, ← hneed] at hget
              obtain ⟨cl, hcl⟩ : ∃ n, n = (cs.getD i []).length := ⟨_, rfl⟩
              obtain ⟨Li, hLi⟩ : ∃ l, l = L.getD i [] := ⟨_, rfl⟩
              rw [← hcl] at hneed hdr hck
              rw [← hLi] at hneed hdr hget
              have HCLN : Hid (cl = Li.length + need) := Lib.hid (by omega)
              have HC4 : Hid (cl ≤ 4) := Lib.hid hck.2
              have HGET := Lib.hid hget
              have HDROP : Hid (L.drop i = Li :: L.drop (i + 1)) := Lib.hid (by
                rw [List.drop_eq_getElem_cons (show i < L.length by rw [HLG.out]; exact hlt), hLi, List.getD_eq_getElem?_getD, List.getElem?_eq_getElem (show i < L.length by rw [HLG.out]; exact hlt)]
                rfl)
              have HCI := Lib.hid hcl
              have HLi := Lib.hid hLi
              have HT := Lib.hid ht
              have HFO : Hid (F = onceL fx spares) := Lib.hid (by rw [HFE.out, hfx]; rfl)
              have HST : Hid (Dlt wi W6.heap.size (.slice (some ⟨og, 0, none⟩) cs.length cap3) ((deal cs L F).take i ++ rowk fx spares Li t need 0 :: L.drop (i + 1)) (.slice none 0 0) []) := Lib.hid (by
                rw [rowk_zero, ← HDROP.out]; exact HDI.out)
              clear hfx hck hdr hneed ht hget hcl hLi
              go_wp2
              go_loopw [18] (fun kv wq => ∃ k : Nat, k ≤ sn ∧ kv = .int .i64 (k : Int) ∧ Dlt wq W6.heap.size (.slice (some ⟨og, 0, none⟩) cs.length cap3) ((deal cs L F).take i ++ rowk fx spares Li t need k :: L.drop (i + 1)) (.slice none 0 0) [] ∧ Box2 wq w5.heap.size (.int .i64 (ep + 1)) (.slice (some ⟨og, 0, none⟩) cs.length cap3) ∧ Below w5.heap.size W6 wq)
                (fun kv _ => sn - (intOf kv).toNat)
              case atStart => exact ⟨0, Nat.zero_le _, rfl, HST.out, HBI.out, HBLI.out⟩
              case round =>
                obtain ⟨k, hk, rfl, hdk, hbk, hbb⟩ := hrel
                have HBK := Lib.hid hbk
                have HBB := Lib.hid hbb
                have HDK := Lib.hid hdk
                obtain ⟨rw0, hrw0⟩ : ∃ r, r = rowk fx spares Li t need k := ⟨_, rfl⟩
                obtain ⟨R, hR⟩ : ∃ R, R = (deal cs L F).take i ++ rowk fx spares Li t need k :: L.drop (i + 1) := ⟨_, rfl⟩
                rw [← hR] at HDK
                have hRl : R.length = cs.length := by
                  rw [hR, List.length_append, List.length_take, List.length_cons, List.length_drop, HDLN.out, HLG.out]; omega
                have hRg : R.getD i [] = rw0 := by
                  rw [hR, hrw0, List.getD_eq_getElem?_getD, List.getElem?_append_right (by rw [List.length_take, HDLN.out]; omega), List.length_take, HDLN.out, Nat.min_eq_left (by omega), Nat.sub_self]
                  rfl
                have hRs : ∀ x, R.set i x = (deal cs L F).take i ++ x :: L.drop (i + 1) := fun x => by
                  rw [hR, List.set_append_right _ _ (by rw [List.length_take, HDLN.out]; omega), List.length_take, HDLN.out, Nat.min_eq_left (by omega), Nat.sub_self, List.set_cons_zero]
                have hrwl := rowk_le fx spares Li t need k
                rw [← hrw0] at hrwl
                have hRf : R.flatten.length ≤ 16 := by
                  have h1 : ∀ r ∈ R, r.length ≤ 4 := by
                    rw [hR, ← hrw0]
                    intro r hr
                    rcases List.mem_append.1 hr with hr | hr
                    · rw [HLE.out] at hr
                      exact deal_rows_le HL4.out r (List.mem_of_mem_take hr)
                    · rcases List.mem_cons.1 hr with hr | hr
                      · rw [hr]; have := HC4.out; have := HCLN.out; omega
                      · have hr := List.mem_of_mem_drop hr
                        rw [HLE.out] at hr
                        exact left_rows_le HL4.out r hr
                  have h2 := flatten_le h1
                  have := HFEW.out
                  omega
                have hRne : R.getD i [] ≠ [] := by
                  rw [hRg, hrw0]
                  intro h
                  have h3 := HNE.out i hlt
                  rw [← HLi.out] at h3
                  unfold rowk at h
                  exact h3 (List.append_eq_nil_iff.1 h).1
                have HRF := Lib.hid hRf
                have HRW := Lib.hid hrw0
                have HRR := Lib.hid hR
                have HRS := Lib.hid hRs
                have HRG := Lib.hid hRg
                have HRNE := Lib.hid hRne
                have HRL := Lib.hid hRl
                have HEND : Hid (spares.length ≤ k ∨ ¬ rw0.length < cl → (deal cs L F).take i ++ rw0 :: L.drop (i + 1) = (deal cs L F).take (i + 1) ++ L.drop (i + 1)) := Lib.hid fun h => by
                  rw [hrw0, HCLN.out] at h
                  have h2 := rowk_end h
                  rw [← HFO.out, ← HGET.out] at h2
                  rw [hrw0, h2, chains_take i (by rw [HDLN.out]; exact hlt), List.append_assoc]
                  rfl
                by_cases hks : k < sn
                rotate_left
                · have hkn : decide ((k : Int) < (sn : Int)) = false := decide_eq_false (by omega)
                  have hkm : decide (k < sn) = false := decide_eq_false hks
                  have HX : Hid (Dlt wr W6.heap.size (.slice (some ⟨og, 0, none⟩) cs.length cap3) ((deal cs L F).take (i + 1) ++ L.drop (i + 1)) (.slice none 0 0) []) := Lib.hid (by
                    rw [← HEND.out (.inl (by rw [← HSN.out]; omega)), hrw0, ← hR]
                    exact HDK.out)
                  clear hrw0 hR hRl hRg hRs hrwl hRf hRne hdk hbk hbb hks
                  go_wp2_with fail
                  go_quiet (fail)
                  go_wp2
                  go_roundw
                  case rel => exact ⟨i + 1, by omega, by go_num, HX.out.drewN _, HBK.out.drewN _, below_draws HBB.out _⟩
                  case measure => simp [intOf]; omega
                obtain ⟨g, n0, capg, hn0, hcl0, _⟩ := HDK.out.open (by rw [hRl]; exact hlt) hRne
                rw [hRg] at hn0
                obtain ⟨bo, ofo, xo, hao, _, _, hco, hxo⟩ := (HR6.out.lowB HBD5.out HBB.out).at hlt
                obtain ⟨aox, capx, hxv, _⟩ := hxo.val
                subst hxv
                rw [← HCI.out] at hco
                have hp6 := HQ1W6.out.low HBB.out (by have := HSZ6.out; omega)
                have p1c := hp6.c1
                have b1c := HBK.out.c1
                have hksl : k < spares.length := by rw [← HSN.out]; exact hks
                obtain ⟨bs, ofs, has, _, hbsB, hcs⟩ := (HSN.out ▸ (HSP6.out.lowB HBD5.out HBB.out) : IRow wr B (.slice aos spares.length caps) spares).at hksl
                have hcsk := hcs k hksl
                have HBSL : Hid (bs < w5.heap.size) := Lib.hid (HBD5.out bs hbsB)
                have hksi : (k : Int) < sn := by omega
                have HKS := Lib.hid hks
                have hsnb : (sn : Int) ≤ 1000000 := by rw [HSN.out]; have := HLN.out.2; omega
                subst hao
                subst has
                obtain ⟨y, hy⟩ : ∃ y, y = spares.getD k 0 := ⟨_, rfl⟩
                rw [← hy] at hcsk
                have HY := Lib.hid hy
                have HN0 := Lib.hid hn0
                by_cases hfu : n0 < cl
                rotate_left
                · have hfi : decide (n0 < cl) = false := decide_eq_false hfu
                  have HX : Hid (Dlt wr W6.heap.size (.slice (some ⟨og, 0, none⟩) cs.length cap3) ((deal cs L F).take (i + 1) ++ L.drop (i + 1)) (.slice none 0 0) []) := Lib.hid (by
                    rw [← HEND.out (.inr (by rw [← HN0.out]; exact hfu)), HRW.out, ← HRR.out]
                    exact HDK.out)
                  clear hrw0 hR hRl hRg hRs hrwl hRf hRne hdk hbk hbb hks hksl hcs hxo hp6 hfu hn0 hy
                  go_wp2_with fail
                  go_quiet (fail)
                  go_wp2
                  go_roundw
                  case rel => exact ⟨i + 1, by omega, by go_num, HX.out.drewN _, HBK.out.drewN _, below_draws HBB.out _⟩
                  case measure => simp [intOf]; omega
                have hfi : decide (n0 < cl) = true := decide_eq_true hfu
                have HSTEP : Hid (rowk fx spares Li t need (k + 1) = if fx y = true ∧ ¬ y ∈ F.take (tkn fx spares t need k) then rw0 ++ [y] else rw0) := Lib.hid (by
                  have h := rowk_step (f := fx) (sp := spares) (l := Li) (t := t) (need := need) hksl (by rw [← hrw0, ← hn0, ← HCLN.out]; exact hfu)
                  rw [← hy, ← HFO.out, ← hrw0] at h
                  exact h)
                have HFIT : Hid ((inB dead y = false ∧ R.flatten.count y = 0) ↔ (fx y = true ∧ ¬ y ∈ F.take (tkn fx spares t need k))) := Lib.hid (by
                  have h := fits_iff (cs := cs) (dead := dead) (sp := spares) (i := i) (k := k) (x := y) hlt need R (by rw [hR, HFX.out, HLE.out, HFE.out, HLi.out, HT.out, HLE.out])
                  rw [← HFX.out, ← HFE.out, ← HLE.out, ← HT.out] at h
                  rw [h, HFX.out])
                have HHS : Hid (∀ n, Calls Try.prog 26 #[.slice aod dn capd, .int .i64 y] (wr.drewN n) fun e w' => e = .returned (.bool (inB dead y)) ∧ w' = wr.drewN n) := Lib.hid fun n => (has11_any _ dead y (wr.drewN n) B (HD6.out.lowB HBD5.out (below_draws HBB.out n))).mono fun _ _ ⟨a, b⟩ => ⟨a, b.symm⟩
                have HMA : Hid (∀ n, Calls Try.prog 27 #[.agg #[.int .i64 (ep + 1), .slice (some ⟨og, 0, none⟩) cs.length cap3], .int .i64 y] (wr.drewN n) fun e w' => e = .returned (.int .i64 ((R.flatten.count y : Nat) : Int)) ∧ Below wr.heap.size wr w') := Lib.hid fun n => (many11_any (ep + 1) _ R y (wr.drewN n) _ (HDK.out.drewN n).chs (by have := HRF.out; omega)).mono fun _ _ ⟨a, b⟩ => ⟨a, ⟨b.os, b.tape, b.output, b.size, b.block⟩⟩
                have b0c := HBK.out.c0
                clear hrw0 hR hRl hRg hRs hrwl hRf hRne hdk hbk hbb hks hksl hcs hxo hp6 hfu hn0 hy
                go_wp2_with fail
                go_quiet (fail)
                obtain ⟨wd, hwd⟩ : ∃ x, x = wr.drewN nq := ⟨_, rfl⟩
                have HBKD : Hid (Box2 wd w5.heap.size (.int .i64 (ep + 1)) (.slice (some ⟨og, 0, none⟩) cs.length cap3)) := Lib.hid (by rw [hwd]; exact HBK.out.drewN _)
                have HBBD : Hid (Below w5.heap.size W6 wd) := Lib.hid (by rw [hwd]; exact below_draws HBB.out _)
                have HDKD : Hid (Dlt wd W6.heap.size (.slice (some ⟨og, 0, none⟩) cs.length cap3) R (.slice none 0 0) []) := Lib.hid (by rw [hwd]; exact HDK.out.drewN _)
                have HHSD : Hid (∀ n, Calls Try.prog 26 #[.slice aod dn capd, .int .i64 y] (wd.drewN n) fun e w' => e = .returned (.bool (inB dead y)) ∧ w' = wd.drewN n) := Lib.hid fun n => by
                  have h := HHS.out (nq + n)
                  rw [hwd, World.drewN_drewN]; exact h
                have HMAD : Hid (∀ n, Calls Try.prog 27 #[.agg #[.int .i64 (ep + 1), .slice (some ⟨og, 0, none⟩) cs.length cap3], .int .i64 y] (wd.drewN n) fun e w' => e = .returned (.int .i64 ((R.flatten.count y : Nat) : Int)) ∧ Below wd.heap.size wd w') := Lib.hid fun n => by
                  have h := HMA.out (nq + n)
                  rw [hwd, World.drewN_drewN]
                  exact h.mono fun _ _ ⟨a, b⟩ => ⟨a, ⟨b.os, b.tape, b.output, b.size, b.block⟩⟩
                have x1 : wd.cell? ⟨bs, ofs + k, none⟩ = some (.int .i64 y) := by rw [hwd]; exact hcsk
                have x2 : wd.cell? ⟨w5.heap.size, 0, none⟩ = some (.int .i64 (ep + 1)) := HBKD.out.c0
                have x3 : wd.cell? ⟨w5.heap.size, 1, none⟩ = some (.slice (some ⟨og, 0, none⟩) cs.length cap3) := HBKD.out.c1
                rw [← hwd]
                clear hwd HHS HMA HBK HBB HDK b0c b1c p1c hcsk hcl0 hco
                by_cases hd : inB dead y = true
                · have HX : Hid (rowk fx spares Li t need (k + 1) = rw0) := Lib.hid (by
                    rw [HSTEP.out, if_neg]
                    intro h
                    have := (HFIT.out.2 h).1
                    rw [hd] at this
                    cases this)
                  rw [hd] at HHSD
                  clear hd
                  have HD9 : Hid (∀ m, Dlt (wd.drewN m) W6.heap.size (.slice (some ⟨og, 0, none⟩) cs.length cap3) ((deal cs L F).take i ++ rowk fx spares Li t need (k + 1) :: L.drop (i + 1)) (.slice none 0 0) []) := Lib.hid fun m => by
                    rw [HX.out, HRW.out, ← HRR.out]; exact HDKD.out.drewN m
                  go_wp2_with fail
                  go_quiet ((go_at_call 26; exact Calls.quiet_of_same (HHSD.out _)))
                  go_wp2
                  go_roundw
                  case rel => exact ⟨k + 1, HKS.out, by go_num, HD9.out _, HBKD.out.drewN _, below_draws HBBD.out _⟩
                  case measure => have := HKS.out; simp [intOf]; omega
                · have hdf : inB dead y = false := Bool.eq_false_iff.2 hd
                  have HDF := Lib.hid hdf
                  rw [hdf] at HHSD
                  clear hd hdf
                  obtain ⟨cn, hcn⟩ : ∃ n, n = R.flatten.count y := ⟨_, rfl⟩
                  rw [← hcn] at HMAD HFIT
                  clear hcn
                  go_wp2_with fail
                  go_region_held3 (fun w' => w'.cell? ⟨bs, ofs + k, none⟩ = some (.int .i64 y) ∧ w'.cell? ⟨w5.heap.size, 0, none⟩ = some (.int .i64 (ep + 1)) ∧ w'.cell? ⟨w5.heap.size, 1, none⟩ = some (.slice (some ⟨og, 0, none⟩) cs.length cap3)) (go_keep) (first
                    | (go_at_call 26; refine (HHSD.out 1).mono ?_; rintro e w7 ⟨rfl, rfl⟩)
                    | (go_at_call 27; refine (HMAD.out 1).mono ?_
                       rintro e w8 ⟨rfl, hb8⟩
                       have HB8 := Lib.hid hb8
                       have x1 := (hb8.cell (p := ⟨bs, ofs + k, none⟩) (World.block_lt_of_cell? wd _ x1)).trans x1
                       have x2 := (hb8.cell (p := ⟨w5.heap.size, 0, none⟩) (World.block_lt_of_cell? wd _ x2)).trans x2
                       have x3 := (hb8.cell (p := ⟨w5.heap.size, 1, none⟩) (World.block_lt_of_cell? wd _ x3)).trans x3
                       clear hb8))
                  all_goals (
                    have HBK8 : Hid (Box2 w8 w5.heap.size (.int .i64 (ep + 1)) (.slice (some ⟨og, 0, none⟩) cs.length cap3)) := Lib.hid (HBKD.out.old HB8.out)
                    have HBB8 : Hid (Below w5.heap.size W6 w8) := Lib.hid (HBBD.out.trans (HB8.out.mono (by have := HBBD.out.size; have := HZO.out; omega)))
                    have HDK8 : Hid (Dlt w8 W6.heap.size (.slice (some ⟨og, 0, none⟩) cs.length cap3) R (.slice none 0 0) []) := Lib.hid (HDKD.out.below HB8.out)
                    by_cases hcn0 : cn = 0
                    · have hcb : ((cn : Int) == 0) = true := by rw [beq_iff_eq]; omega
                      have HX : Hid (rowk fx spares Li t need (k + 1) = rw0 ++ [y]) := Lib.hid (by
                        rw [HSTEP.out, if_pos (HFIT.out.1 ⟨HDF.out, hcn0⟩)])
                      obtain ⟨g8, n8, capg8, hn8, hc8, hf8, ho8, hg1, hg2, hog, hob, hol, hpush⟩ := HDK8.out.open (by rw [HRL.out]; exact hlt) HRNE.out
                      have HPUSH := Lib.hid hpush
                      have HO8 := Lib.hid ho8
                      have HN8 := Lib.hid hn8
                      have HG8 : Hid (og ≠ g8 ∧ W6.heap.size ≤ g8 ∧ W6.heap.size ≤ og ∧ og < w8.heap.size) := Lib.hid ⟨hog, hg1, hob, hol⟩
                      have hn9 : n8 ≤ 1000000 := by rw [hn8, HRG.out, ← HN0.out]; have := HC4.out; have := of_decide_eq_true hfi; omega
                      have HN9 := Lib.hid hn9
                      have HSZ8 : Hid (W6.heap.size ≤ w8.heap.size) := Lib.hid HBB8.out.size
                      clear hcn0 hpush ho8 hn8 hog hg1 hg2 hob hol hn9
                      have z3a : ∀ o, (w8.alloc o).cell? ⟨w5.heap.size, 1, none⟩ = some (.slice (some ⟨og, 0, none⟩) cs.length cap3) := fun o => (World.cell?_of_block (Below.heap_alloc _ _ _ (World.block_lt_of_cell? w8 _ x3))).trans x3
                      have z3b : ∀ o, (w8.drew.alloc o).cell? ⟨w5.heap.size, 1, none⟩ = some (.slice (some ⟨og, 0, none⟩) cs.length cap3) := fun o => (World.cell?_of_block (Below.heap_alloc _ _ _ (World.block_lt_of_cell? w8 _ x3))).trans x3
                      have z8a : ∀ o, (w8.alloc o).cell? ⟨og, i, none⟩ = some (.slice (some ⟨g8, 0, none⟩) n8 capg8) := fun o => (World.cell?_of_block (Below.heap_alloc _ _ _ (World.block_lt_of_cell? w8 _ hc8))).trans hc8
                      have z8b : ∀ o, (w8.drew.alloc o).cell? ⟨og, i, none⟩ = some (.slice (some ⟨g8, 0, none⟩) n8 capg8) := fun o => (World.cell?_of_block (Below.heap_alloc _ _ _ (World.block_lt_of_cell? w8 _ hc8))).trans hc8
                      go_wp2_with fail
                      go_region_law
                        ((refine step_appI1 (by rfl) _ _ (by rfl) W6.heap.size g8 n8 capg8 (R.getD i []) HN8.out (by rfl) (by first | exact HO8.out.below ((Below.refl _ _).alloc (Nat.le_refl _) _) (Nat.le_refl _) | exact HO8.out.below (((Below.refl _ _).drew).alloc (Nat.le_refl _) _) (Nat.le_refl _)) y _ (by rfl) (by first | exact World.cell?_alloc_at _ _ _ _ rfl | (rw [World.cell?_alloc_at _ _ _ _ rfl]; rfl)) HN9.out (by have := HSZ8.out; simp; omega) ?_
                          intro capg9 g9 w9 ho9 hg9 hgg9
                          have HO9 := Lib.hid ho9
                          have HG9 := Lib.hid hg9
                          have HGG9 := Lib.hid hgg9
                          have hold : ∀ j, j < w8.heap.size → j ≠ g8 → w9.heap[j]? = w8.heap[j]? := fun j hj hne => (hg9.block j (by simp; omega) (fun e => hne (Option.some.inj e))).trans (Below.heap_alloc _ _ _ hj)
                          have y1 : w9.cell? ⟨og, i, none⟩ = some (.slice (some ⟨g8, 0, none⟩) n8 capg8) := (World.cell?_of_block (a := ⟨og, i, none⟩) (hold og HG8.out.2.2.2 HG8.out.1)).trans hc8
                          have y2 : w9.frozen? ⟨og, i, none⟩ = false := (World.frozen?_of_block (a := ⟨og, i, none⟩) (hold og HG8.out.2.2.2 HG8.out.1)).trans hf8
                          have y3 : w9.cell? ⟨w5.heap.size, 1, none⟩ = some (.slice (some ⟨og, 0, none⟩) cs.length cap3) := (World.cell?_of_block (a := ⟨w5.heap.size, 1, none⟩) (hold w5.heap.size (World.block_lt_of_cell? w8 _ x3) (by have := HG8.out.2.1; have := HZO.out.2; omega))).trans x3
                          have y4 : w9.cell? ⟨bs, ofs + k, none⟩ = some (.int .i64 y) := (World.cell?_of_block (a := ⟨bs, ofs + k, none⟩) (hold bs (World.block_lt_of_cell? w8 _ x1) (by have := HG8.out.2.1; have := HZO.out.2; have := HBSL.out; omega))).trans x1
                          have HOLD := Lib.hid hold
                          clear ho9 hg9 hgg9 hold))
                      all_goals (
                        have hP := HPUSH.out _ w9 [y] g9 capg9 (by first | exact (Below.refl _ _).alloc (Nat.le_refl _) _ | exact ((Below.refl _ _).drew).alloc (Nat.le_refl _) _) HG9.out HGG9.out HO9.out
                        rw [HRS.out, HRG.out, ← HX.out] at hP
                        have HP9 := Lib.hid hP
                        have hh : w9.heap[w5.heap.size]? = w8.heap[w5.heap.size]? := HOLD.out _ (World.block_lt_of_cell? w8 _ HBK8.out.c0) (by have := HG8.out.2.1; have := HZO.out.2; omega)
                        have HBK9 : Hid (Box2 (w9.setCell ⟨og, i, none⟩ (.slice (some ⟨g9, 0, none⟩) (n8 + 1) capg9)) w5.heap.size (.int .i64 (ep + 1)) (.slice (some ⟨og, 0, none⟩) cs.length cap3)) := Lib.hid (Box2.away ⟨(World.cell?_of_block (a := ⟨w5.heap.size, 0, none⟩) hh).trans HBK8.out.c0, (World.cell?_of_block (a := ⟨w5.heap.size, 1, none⟩) hh).trans HBK8.out.c1, (World.frozen?_of_block (a := ⟨w5.heap.size, 0, none⟩) hh).trans HBK8.out.f0, (World.frozen?_of_block (a := ⟨w5.heap.size, 1, none⟩) hh).trans HBK8.out.f1⟩ (show og ≠ w5.heap.size by have := HG8.out.2.2.1; have := HZO.out.2; omega) _)
                        have hle : w5.heap.size ≤ w8.heap.size := by have := HSZ8.out; have := HZO.out.2; omega
                        have hb9 : Below w5.heap.size W6 w9 := Below.grown (by first | exact HBB8.out.alloc hle _ | exact HBB8.out.drew.alloc hle _) HG9.out (by simp; omega) (fun j hj => by cases hj; have := HG8.out.2.1; have := HZO.out.2; omega)
                        have HBB9 : Hid (Below w5.heap.size W6 (w9.setCell ⟨og, i, none⟩ (.slice (some ⟨g9, 0, none⟩) (n8 + 1) capg9))) := Lib.hid (hb9.setCell (show w5.heap.size ≤ og by have := HG8.out.2.2.1; have := HZO.out.2; omega) _)
                        clear hP hh hle hb9
                        go_wp2
                        go_roundw
                        case rel => exact ⟨k + 1, HKS.out, by go_num, HP9.out, HBK9.out, HBB9.out⟩
                        case measure => have := HKS.out; simp [intOf]; omega)
                    · have hcb : ((cn : Int) == 0) = false := by rw [beq_eq_false_iff_ne]; omega
                      have HX : Hid (rowk fx spares Li t need (k + 1) = rw0) := Lib.hid (by
                        rw [HSTEP.out, if_neg]
                        intro h
                        exact hcn0 (HFIT.out.2 h).2)
                      have HD9 : Hid (Dlt w8 W6.heap.size (.slice (some ⟨og, 0, none⟩) cs.length cap3) ((deal cs L F).take i ++ rowk fx spares Li t need (k + 1) :: L.drop (i + 1)) (.slice none 0 0) []) := Lib.hid (by
                        rw [HX.out, HRW.out, ← HRR.out]; exact HDK8.out)
                      clear hcn0
                      go_wp2
                      go_roundw
                      case rel => exact ⟨k + 1, HKS.out, by go_num, HD9.out, HBK8.out, HBB8.out⟩
                      case measure => have := HKS.out; simp [intOf]; omega)
            · obtain rfl : i = cs.length := by omega
              have hall : (deal cs L F).take cs.length ++ L.drop cs.length = deal cs L F := by
                rw [List.take_of_length_le (by rw [HDLN.out]; exact Nat.le_refl _), List.drop_eq_nil_of_le (by rw [HLG.out]; exact Nat.le_refl _), List.append_nil]
              have hnx : deal cs L F = nextL cs dead spares := by rw [HLE.out, HFE.out]; rfl
              have hd := HDI.out
              rw [hall, hnx] at hd
              have HCF := Lib.hid hd.chs
              have b0 := HBI.out.c0
              have b1 := HBI.out.c1
              have q2 := HQ2W6.out.low HBLI.out (by have := HSZ6.out; omega)
              have d0 := q2.c0
              have d1 := q2.c1
              have f0 := q2.f0
              have f1 := q2.f1
              have HBZ : Hid (Below w.heap.size w wi) := Lib.hid (HBW6.out.trans (HBLI.out.mono (by have := HSZ6.out; omega)))
              clear hall hnx hd q2
              go_wp2
              refine bodyPost_ret (v := .tuple #[.agg #[.int .i64 (ep + 1), .slice (some ⟨og, 0, none⟩) cs.length cap3], .int .i64 0]) (by simp [results, Try.results9, go_sem, d0, d1]) rfl ?_
              unfold RNextPost
              rw [HP0.out, if_pos rfl, if_pos rfl]
              refine ⟨_, rfl, ?_, (HBZ.out.setCell (by simp) _).setCell (by simp) _⟩
              refine (HCF.out.keep ⟨by simp, fun j hj hB => ?_⟩).mono fun j _ hj => by have := HSZ6.out; have := HS6.out; omega
              have hne3 : j ≠ w.heap.size + 1 := by have := HSZ6.out; have := HS6.out; omega
              rw [heap_setCell_other _ _ _ _ hne3, heap_setCell_other _ _ _ _ hne3]

theorem rnext_any (ep : Int) (v dv sv : Value) (cs : List (List Int)) (dead spares : List Int) (w : World) (B : Nat → Prop) (h : Chs w B v cs) (hd : IRow w B dv dead) (hs : IRow w B sv spares) (hdl : dead.length ≤ 1000000) (hsl : spares.length ≤ 1000000) :
    Calls Try.prog 9 #[.agg #[.int .i64 ep, v], dv, sv] w (RNextPost ep cs dead spares w) :=
  rnext_low ep v dv sv cs dead spares w (fun j => j < w.heap.size) (fun _ h => h) h.low hd.low hs.low hdl hsl

end Go.Proofs.Ytgjdablifncbaaa
