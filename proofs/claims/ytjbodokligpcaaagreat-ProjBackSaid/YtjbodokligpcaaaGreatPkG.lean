/- A projection's bytes: Take, by the program. -/
import Derived.Test.YtjbodokligpcaaaGreatPkP
import Derived.Test.YtjbodokligpcaaaGreatPjH
import Derived.Deep.RegionHeld3
import Derived.Deep.RegionLawGrows
namespace Go.Proofs.YtjbodokligpcaaaGreat
open Go.RowKit

/-- What Take answers. -/
def PTakePost (b : List Nat) (w : World) (r : Ending) (w' : World) : Prop :=
  Below w.heap.size w w' ∧ ∃ (ep : Int) (cs : List (List Int)) (c : Nat), RProj b ep cs c ∧
    ((c ≠ 0 ∧ r = .returned (.tuple #[.agg #[.int .i64 0, .slice none 0 0], errV c])) ∨
      (c = 0 ∧ ∃ v, r = .returned (.tuple #[.agg #[.int .i64 ep, v], .nilIface]) ∧ Chs w' (fun j => w.heap.size ≤ j) v cs))

theorem pj_rd_low {w w' : World} {p B : Nat} {rv : Value} {row : List Nat} {place c : Nat} (h : Rd w p rv row place c) (hb : Below B w w') (hp : p < B) : Rd w' p rv row place c := by
  refine ⟨(hb.block p hp).trans h.blk, ?_, h.off, h.le, h.byte, h.len⟩
  have ho := h.own
  refine ⟨ho.1, ?_⟩
  rcases ho.2 with h2 | ⟨g, cap, cur, h1, h2, h3, r⟩
  · exact .inl h2
  · exact .inr ⟨g, cap, cur, h1, h2, by rw [hb.block g (by have := h.off g (by rw [h1]; rfl); omega)]; exact h3, r⟩
theorem box2_keep {w w' : World} {q : Nat} {x y : Value} (h : Box2 w q x y) (hb : w'.heap[q]? = w.heap[q]?) : Box2 w' q x y :=
  ⟨(World.cell?_of_block (a := ⟨q, 0, none⟩) hb).trans h.c0, (World.cell?_of_block (a := ⟨q, 1, none⟩) hb).trans h.c1, (World.frozen?_of_block (a := ⟨q, 0, none⟩) hb).trans h.f0, (World.frozen?_of_block (a := ⟨q, 1, none⟩) hb).trans h.f1⟩
theorem box2_set1 {w : World} {p : Nat} {x y : Value} (h : Box2 w p x y) (z : Value) : Box2 (w.setCell ⟨p, 1, none⟩ z) p x z :=
  ⟨(World.cell?_setCell_other w ⟨p, 1, none⟩ ⟨p, 0, none⟩ z (by simp)).trans h.c0, World.cell?_setCell_same w ⟨p, 1, none⟩ z h.c1, by simp [h.f0], by simp [h.f1]⟩
theorem list_drew {w w' : World} {p : Nat} {rv : Value} {row : List Nat} {place c : Nat} {most : Int} {e : Ending} (h : ListPost p rv row place c most w.drew e w') : ListPost p rv row place c most w e w' := by
  obtain ⟨v, out, n, p1, c1, p2, c2, h1, h2, h3, h4, h5, h6⟩ := h
  exact ⟨v, out, n, p1, c1, p2, c2, h1, h2, h3, h4, h5, grownBy_trans (grown_drewN w 1 _) h6 fun j hj _ => hj⟩
theorem manyR_four (n : Nat) : manyR n 4 ≤ 4 := by
  unfold manyR
  split <;> omega
theorem unitsW_snoc (ls : List (List Nat)) (o : List Nat) : unitsW (ls ++ [o]) = unitsW ls ++ [o.map unitW] := by simp [unitsW]
theorem unitsW_length (ls : List (List Nat)) : (unitsW ls).length = ls.length := by simp [unitsW]

/-- An append of one row onto rows of the call's own, at a step of a region that draws. -/
theorem step_appR {u : Value} (w3 : World) {ops : Array Oper} {o : Oper} {a : Act} {K : Act → World → Prop} {Q : Exit → Act → World → Prop} {E : Prop} (hgd : o.guard = none) (s x : Operand)
    (ho : o.op = .call { callee := .builtin .append, args := #[s, x], argTypes := #[23, 23] })
    (wr : World) (base n : Nat) (v : Value) (ls : List (List Int)) (hnl : n = ls.length) (l : List Int) (hs : a.eval s = v) (h : Rows1 wr base v ls) (hb : Below wr.heap.size wr w3) (hu : IOwn w3 base u l) (hum : ∀ b, u.ownBlock = some b → wr.heap.size ≤ b)
    (hx : a.eval x = .slice (some ⟨w3.heap.size, 0, none⟩) 1 1) (hn : ls.length ≤ 1000000) (hbase : base ≤ wr.heap.size)
    (hk : ∀ (ao : Option Addr) (cap : Nat) w', Rows1 w' base (.slice ao (n + 1) cap) (ls ++ [l]) → Below base (w3.alloc (.cells #[u] 40)) w' → K (a.put o.dst (.slice ao (n + 1) cap)) w') :
    if Region.wanted o (yielded ops a.tmps) = true then Oper.wp Tryz.prog o a (w3.alloc (.cells #[u] 40)) K Q else E := by
  subst hnl
  rw [if_pos (by simp only [Region.wanted, hgd])]
  obtain ⟨i, hi, hz, hsz, hby⟩ := info_parts Tryz.infoII
  obtain ⟨us, h1, h2, h3⟩ := rows_step h hb hu hum rfl
  have hsz2 : base ≤ (w3.alloc (.cells #[u] 40)).heap.size := by have := hb.size; simp; omega
  refine wp_append_own (w3.alloc (.cells #[u] 40)) s x 23 ho base 40 i (.slice none 0 0) 1 24 Tryz.underlying23 hi hz hsz hby rfl (by decide) v us.length us hs h2 ⟨w3.heap.size, 0, none⟩ 1 1 [u] hx (by simp) ?_ ?_ (by simp only [maxLen]; omega) (by omega) hsz2 ?_
  · intro j y hj
    match j with
    | 0 =>
      simp only [List.getElem?_cons_zero, Option.some.injEq] at hj
      subst hj
      simp [Addr.add]
    | j + 1 => simp at hj
  · intro y hy
    rw [List.mem_singleton] at hy
    rw [hy]
    exact hu.row.one
  · intro v' w' hown' hg _
    obtain ⟨a1, a2⟩ := h3 v' w' (by rw [List.length_append, List.length_singleton]; exact hown') hg
    obtain ⟨ao, cap, hv, _⟩ := a1.chs.val
    rw [List.length_append, List.length_singleton] at hv
    subst hv
    exact hk ao cap w' a1 (a2 hsz2)

/-- How far Take has come with the chains. -/
structure PTI (w W : World) (p q : Nat) (rv : Value) (row : List Nat) (pl0 c0 m : Nat) (ep : Int) (wr : World) (k pl c : Nat) (ao : Option Addr) (cap : Nat) (done : List (List Nat)) : Prop where
  kle : k ≤ m
  len : done.length = k
  rows : Rows1 wr W.heap.size (.slice ao k cap) (unitsW done)
  box : Box2 wr q (.int .i64 ep) (.slice ao k cap)
  rd : Rd wr p rv row pl c
  cont : PCont m (row.drop pl0) c0 k (row.drop pl) c done
  low : Below w.heap.size w wr
  big : W.heap.size ≤ wr.heap.size

set_option maxHeartbeats 4000000 in
set_option maxRecDepth 100000 in
theorem ptake_any (v : Value) (b : List Nat) (w : World) (hr : Reads w .u8 v b) (hb : ∀ y ∈ b, y < 256) (hx : b.length ≤ 80000000000000) :
    Calls Tryz.prog 7 #[v] w (PTakePost b w) := by
  obtain ⟨ao, cap, rfl, _, _, _⟩ := hr.val
  obtain ⟨W1, hW1⟩ : ∃ W1, W1 = w.alloc (.cells #[.int .i64 0, .slice none 0 0] 25) := ⟨_, rfl⟩
  have hb1 : Below w.heap.size w W1 := by rw [hW1]; exact (Below.refl _ _).alloc (Nat.le_refl _) _
  have hx1 : Box2 W1 w.heap.size (.int .i64 0) (.slice none 0 0) := by rw [hW1]; exact box2_new _ _ _ _
  have HONE := Lib.hid (frameOne_any _ b W1 (hr.new hb1) hb (by omega))
  have HBB := Lib.hid hb
  have HB1 := Lib.hid hb1
  have HX1 := Lib.hid hx1
  generalize b.length = nb at *
  have HW1 := Lib.hid hW1
  clear hr hb hx hb1 hx1 hW1
  go_enter Tryz.func7, Tryz.ntmps7
  go_wp2_with fail
  rw [← HW1.out]
  refine HONE.out.mono ?_
  rintro r w2 ⟨v2, t, c0, rfl, hfo, hat, hb2⟩
  obtain ⟨ao2, cap2, rfl, _, _, _⟩ := hat.reads.val
  have HFO := Lib.hid hfo
  have HR2 := Lib.hid hat.reads
  have HB2 : Hid (Below W1.heap.size W1 w2) := Lib.hid hb2
  have q2 := HX1.out.old hb2
  have HX2 := Lib.hid q2
  have HT8 := Lib.hid (pj_fo_good HBB.out hfo)
  obtain ⟨nt, hnt⟩ : ∃ n, n = t.length := ⟨_, rfl⟩
  rw [← hnt] at HR2
  rw [← hnt]
  clear hfo hat hb2 hnt
  by_cases hz : c0 = 0
  rotate_left
  · rw [errV_pos hz]
    have HZ := Lib.hid hz
    have d0 := q2.c0
    have d1 := q2.c1
    have f0 := q2.f0
    have f1 := q2.f1
    clear hz q2
    go_wp2
    refine bodyPost_ret (v := .tuple #[.agg #[.int .i64 0, .slice none 0 0], .iface 68 (.int .i64 (c0 : Int))]) (by simp [results, Tryz.results7, go_sem, d0, d1]) rfl ⟨?_, 0, [], c0, ⟨t, c0, HFO.out, by rw [if_pos HZ.out]⟩, .inl ⟨HZ.out, by rw [errV_pos HZ.out]⟩⟩
    exact ((HB1.out.trans (HB2.out.mono HB1.out.size)).setCell (Nat.le_refl _) _).setCell (Nat.le_refl _) _
  have HNEW := Lib.hid (new_any _ t w2 HR2.out HT8.out.1 (by have := HT8.out.2; omega))
  have HFZ : Hid (FO b t 0) := Lib.hid (by rw [← hz]; exact HFO.out)
  rw [hz, errV_zero]
  clear hz q2
  go_wp2_with fail
  refine HNEW.out.mono ?_
  rintro r w3 ⟨p, rv, rfl, hrd3, hb3, hp3, _⟩
  have HB3 : Hid (Below W1.heap.size W1 w3) := Lib.hid (HB2.out.trans (hb3.mono HB2.out.size))
  have HPW : Hid (W1.heap.size ≤ p) := Lib.hid (Nat.le_trans HB2.out.size hp3)
  have HE := Lib.hid (within_any hrd3 1099511627776)
  clear hrd3 hb3 hp3
  go_wp2_with fail
  refine HE.out.mono ?_
  rintro r w4 ⟨n1, pl1, c1, rfl, hn1, hrd4, hg4⟩
  have HN1 := Lib.hid hn1
  have HB4 : Hid (Below W1.heap.size W1 w4) := Lib.hid (HB3.out.grown hg4 HB3.out.size fun j hj => by cases hj; exact HPW.out)
  obtain ⟨en, he⟩ : ∃ e, e = withinR n1 1099511627776 := ⟨_, rfl⟩
  rw [← he]
  have HEE := Lib.hid he
  obtain ⟨W5, hW5⟩ : ∃ W5, W5 = w4.alloc (.cells #[.int .i64 (en : Int), .slice none 0 0] 25) := ⟨_, rfl⟩
  have hb5 : Below w4.heap.size w4 W5 := by rw [hW5]; exact (Below.refl _ _).alloc (Nat.le_refl _) _
  have hx5 : Box2 W5 w4.heap.size (.int .i64 (en : Int)) (.slice none 0 0) := by rw [hW5]; exact box2_new _ _ _ _
  have HTM := Lib.hid (ptakeMany_any (hrd4.below hb5 (Nat.le_refl _)))
  have HB5 : Hid (Below W1.heap.size W1 W5) := Lib.hid (HB4.out.trans (hb5.mono HB4.out.size))
  have HX5 := Lib.hid hx5
  have HPQ : Hid (p < w4.heap.size) := Lib.hid hrd4.lt
  obtain ⟨q, hq⟩ : ∃ q, q = w4.heap.size := ⟨_, rfl⟩
  rw [← hq] at HX5 HPQ
  have HW5 := Lib.hid hW5
  clear hn1 hrd4 hg4 he hb5 hx5 hW5
  go_wp2_with fail
  rw [← hq, ← HW5.out]
  clear hq
  refine HTM.out.mono ?_
  rintro r w6 ⟨n2, pl2, c2, rfl, hn2, hrd6, hg6⟩
  have HN2 := Lib.hid hn2
  have HB6 : Hid (Below W1.heap.size W1 w6) := Lib.hid (HB5.out.grown hg6 HB5.out.size fun j hj => by cases hj; exact HPW.out)
  have HX6 : Hid (Box2 w6 q (.int .i64 (en : Int)) (.slice none 0 0)) := Lib.hid (box2_keep HX5.out (hg6.block _ HX5.out.lt (fun e => by have := HPQ.out; simp at e; omega)))
  have HM4 := Lib.hid (manyR_four n2)
  obtain ⟨m, hm⟩ : ∃ m, m = manyR n2 4 := ⟨_, rfl⟩
  obtain ⟨c3, hc3⟩ : ∃ c, c = manyC n2 c2 4 := ⟨_, rfl⟩
  rw [← hc3] at hrd6
  rw [← hm] at HM4
  rw [← hm]
  have HMM := Lib.hid hm
  have HCC := Lib.hid hc3
  have HS : Hid (PTI W1 w6 p q rv t pl2 c3 m (en : Int) w6 0 pl2 c3 none 0 []) := Lib.hid ⟨Nat.zero_le _, rfl, rows_nil _ _, HX6.out, hrd6, pcont_start, HB6.out, Nat.le_refl _⟩
  have HQB : Hid (p < q ∧ q < w6.heap.size) := Lib.hid ⟨HPQ.out, HX6.out.lt⟩
  have hm4 : (m : Int) ≤ 4 := by have := HM4.out; omega
  clear hn2 hrd6 hg6 hm hc3
  go_wp2
  go_loopw [26] (fun iv wr => ∃ (k pl c : Nat) (ao : Option Addr) (cap : Nat) (done : List (List Nat)), iv = .int .i64 (k : Int) ∧ PTI W1 w6 p q rv t pl2 c3 m (en : Int) wr k pl c ao cap done)
    (fun iv _ => m - (intOf iv).toNat)
  case atStart => exact ⟨0, pl2, c3, none, 0, [], rfl, HS.out⟩
  case round =>
    obtain ⟨k, pl, c, ao, cap, done, rfl, ht⟩ := hrel
    have HT := Lib.hid ht
    by_cases hlt : k < m
    · have hlti : (k : Int) < (m : Int) := by omega
      have HK := Lib.hid hlt
      have hla := list_any ht.rd 4 (by decide) (by decide) (by have := HT8.out.2; omega)
      have HLA := Lib.hid hla
      have HLB : Hid (Calls Tryz.prog 21 #[.pointer (some ⟨p, 0, none⟩), .int .i64 4] wr.drew (ListPost p rv t pl c 4 wr)) := Lib.hid ((list_any (ht.rd.drewN 1) 4 (by decide) (by decide) (by have := HT8.out.2; omega)).mono fun _ _ h => list_drew h)
      have x0 := ht.box.c0
      have x1 := ht.box.c1
      have y1 := ht.box.f1
      have HPQ2 : Hid (∀ {w' : World}, wr.grownBy w' (some p) → Box2 w' q (.int .i64 (en : Int)) (.slice ao k cap) ∧ Rows1 w' w6.heap.size (.slice ao k cap) (unitsW done) ∧ Below W1.heap.size W1 w' ∧ wr.heap.size ≤ w'.heap.size) := Lib.hid fun hg =>
        ⟨box2_keep HT.out.box (hg.block _ HT.out.box.lt (fun e => by have := HQB.out; simp at e; omega)), HT.out.rows.keepB (fun j hj hj2 => hg.block j hj2 (fun e => by have := HQB.out; simp at e; omega)),
          HT.out.low.grown hg HT.out.low.size (fun j hj => by cases hj; exact HPW.out), hg.size⟩
      clear ht hla hlt
      go_wp2_with fail
      go_region_law (first
        | (refine step_appR w8 (by rfl) _ _ (by rfl) w7 w6.heap.size k _ (unitsW done) (by rw [unitsW_length, HT.out.len]) _ (by rfl) HRW7.out HB8.out (HO8.out.mono (by have := HSZ7.out; have := HT.out.big; omega)) (fun j hj => (HO8.out.lt j hj).1) (by rfl) (by rw [unitsW_length, HT.out.len]; have := HT.out.kle; have := HM4.out; omega) (by have := HSZ7.out; have := HT.out.big; omega) ?_
           intro ao9 cap9 w9 hr9 hb9
           have HR9 := Lib.hid hr9
           have z9 := ((HBX7.out.low HB8.out HBX7.out.lt).old ((Below.refl _ _).alloc (Nat.le_refl _) _)).low hb9 HQB.out.2
           have u1 := z9.c1
           have u2 := z9.f1
           have HZ9 := Lib.hid z9
           clear z9
           have HB9 := Lib.hid hb9
           have HLW9 : Hid (Below w6.heap.size w7 w9) := Lib.hid (((HB8.out.mono (by have := HSZ7.out; have := HT.out.big; omega)).alloc (by have := HSZ7.out; have := HT.out.big; have := HB8.out.size; omega) _).trans hb9)
           clear hr9 hb9)
        | (refine step_appR w8.drew (by rfl) _ _ (by rfl) w7 w6.heap.size k _ (unitsW done) (by rw [unitsW_length, HT.out.len]) _ (by rfl) HRW7.out (HB8.out.drew) (HO8.out.mono (by have := HSZ7.out; have := HT.out.big; omega)) (fun j hj => (HO8.out.lt j hj).1) (by rfl) (by rw [unitsW_length, HT.out.len]; have := HT.out.kle; have := HM4.out; omega) (by have := HSZ7.out; have := HT.out.big; omega) ?_
           intro ao9 cap9 w9 hr9 hb9
           have HR9 := Lib.hid hr9
           have z9 := ((HBX7.out.low HB8.out HBX7.out.lt).drew.old ((Below.refl _ _).alloc (Nat.le_refl _) _)).low hb9 HQB.out.2
           have u1 := z9.c1
           have u2 := z9.f1
           have HZ9 := Lib.hid z9
           clear z9
           have HB9 := Lib.hid hb9
           have HLW9 : Hid (Below w6.heap.size w7 w9) := Lib.hid (((HB8.out.drew.mono (by have := HSZ7.out; have := HT.out.big; omega)).alloc (by have := HSZ7.out; have := HT.out.big; have := HB8.out.size; simp; omega) _).trans hb9)
           clear hr9 hb9)
        | (go_simp
           go_at_call 21
           first | refine HLA.out.mono ?_ | refine HLB.out.mono ?_
           rintro r w7 ⟨v7, out, n7, pl7, c7, pl8, c8, rfl, hn7, hrun7, ho7, hrd7, hg7⟩
           obtain ⟨p1, p2, p3, p4⟩ := HPQ2.out hg7
           have x1 := p1.c1
           have HOW7 := Lib.hid ho7.reads
           have hol : out.length ≤ 1000000 := Nat.le_trans (pj_run_u64 hrun7).2 (Nat.le_trans (manyR_four n7) (by decide))
           have HUA := Lib.hid (unitsOf_any v7 out w7 ho7.reads hol)
           have HUB := Lib.hid (unitsOf_any v7 out w7.drew (ho7.below (Below.refl _ _).drew (Nat.le_refl _)).reads hol)
           have HBX7 := Lib.hid p1
           have HRW7 := Lib.hid p2
           have HLO7 := Lib.hid p3
           have HSZ7 := Lib.hid p4
           have HN7 := Lib.hid hn7
           have HRN7 := Lib.hid hrun7
           have HRD7 := Lib.hid hrd7
           clear hn7 hrun7 ho7 hrd7 hg7 p1 p2 p3 p4 hol)
        | (go_simp
           go_at_call 20
           first | refine HUA.out.mono ?_ | refine HUB.out.mono ?_
           rintro r w8 ⟨v8, rfl, ho8, hb8⟩
           have HB8 : Hid (Below w7.heap.size w7 w8) := Lib.hid (by first | exact hb8 | exact ((Below.refl _ _).drew).trans hb8)
           have HO8 : Hid (IOwn w8 w7.heap.size v8 (out.map unitW)) := Lib.hid ho8
           obtain ⟨a8, cap8, hv8⟩ := slice_val HO8.out
           obtain ⟨n8, hn8⟩ : ∃ n, n = (out.map unitW).length := ⟨_, rfl⟩
           rw [← hn8] at hv8
           subst hv8
           have x1 := (HBX7.out.low HB8.out HBX7.out.lt).c1
           have x1a : ∀ o, (w8.alloc o).cell? ⟨q, 1, none⟩ = some (.slice ao k cap) := fun o => ((HBX7.out.low HB8.out HBX7.out.lt).old ((Below.refl _ _).alloc (Nat.le_refl _) o)).c1
           clear ho8 hb8 hn8))
      all_goals (
        have HPT : Hid (PTI W1 w6 p q rv t pl2 c3 m (en : Int) (w9.setCell ⟨q, 1, none⟩ (.slice ao9 (k + 1) cap9)) (k + 1) pl8 c8 ao9 cap9 (done ++ [out])) := Lib.hid ⟨HK.out, by rw [List.length_append, HT.out.len]; rfl,
          by rw [unitsW_snoc]; exact HR9.out.keepB (fun j hj _ => heap_setCell_other _ ⟨q, 1, none⟩ j _ (by have := HQB.out; show j ≠ q; omega)),
          box2_set1 HZ9.out _,
          (pj_rd_low HRD7.out HLW9.out (by have := HQB.out; omega)).grown (grown_set _ q 1 _) (by have := HQB.out; simp; omega) (by
            cases hrv : rv.ownBlock with
            | none => exact .inl rfl
            | some g => right; have := HRD7.out.off g hrv; have := HQB.out; simp; omega),
          HT.out.cont.next HK.out HN7.out HRN7.out,
          ((HLO7.out.trans (HLW9.out.mono (by have := HQB.out; have := HPW.out; omega)))).setCell (by have := HQB.out; have := HPW.out; show W1.heap.size ≤ q; omega) _,
          by have h1 := HLW9.out.size; have h2 := HSZ7.out; have h3 := HT.out.big; simp; omega⟩
        clear HR9 HB9 HLW9 HZ9
        go_wp2
        go_roundw)
      all_goals first | (case rel => exact ⟨k + 1, pl8, c8, ao9, cap9, done ++ [out], by go_num, HPT.out⟩) | (case measure => simp [intOf]; have := HK.out; omega)
    · have hke : k = m := by have := ht.kle; omega
      subst hke
      have hcd := ht.cont.done
      have hfl : (t.drop pl).length = t.length - pl := List.length_drop
      have hend := end_any ht.rd
      rw [← hfl] at hend
      have HTP : Hid (TProj t en done (t.drop pl) c) := Lib.hid ⟨n1, _, c1, n2, _, c2, by have := HN1.out; rwa [List.drop_zero] at this, HEE.out, HN2.out, by rw [← HMM.out, ← HCC.out]; exact hcd⟩
      obtain ⟨c9, hc9⟩ : ∃ c9, c9 = endC (t.drop pl).length c := ⟨_, rfl⟩
      rw [← hc9] at hend
      have HC9 := Lib.hid hc9
      have HEND := Lib.hid hend
      clear hcd hfl hend hc9 ht hlt
      go_wp2_with fail
      refine HEND.out.mono ?_
      rintro r w7 ⟨rfl, nd7, rfl⟩
      have hD7 : Below wr.heap.size wr (wr.drewN nd7) := ⟨rfl, rfl, rfl, Nat.le_refl _, fun _ _ => rfl⟩
      obtain ⟨W7, hW7⟩ : ∃ W, W = wr.drewN nd7 := ⟨_, rfl⟩
      rw [← hW7] at hD7 ⊢
      have HB7 : Hid (Below W1.heap.size W1 W7) := Lib.hid (HT.out.low.trans (hD7.mono HT.out.low.size))
      have hx7 := HT.out.box.old hD7
      have hr7 := HX1.out.old HB7.out
      have HR7 := Lib.hid (HT.out.rows.chs.old hD7)
      have x0 := hx7.c0
      have x1 := hx7.c1
      have d0 := hr7.c0
      have d1 := hr7.c1
      have f0 := hr7.f0
      have f1 := hr7.f1
      have HX7 := Lib.hid hx7
      have HBW7 : Hid (Below w.heap.size w W7) := Lib.hid (HB1.out.trans (HB7.out.mono HB1.out.size))
      clear hD7 hW7 hx7 hr7
      by_cases hz2 : c9 = 0
      rotate_left
      · rw [errV_pos hz2]
        have HZ := Lib.hid hz2
        clear hz2
        go_wp2
        refine bodyPost_ret (v := .tuple #[.agg #[.int .i64 0, .slice none 0 0], .iface 68 (.int .i64 (c9 : Int))]) (by simp [results, Tryz.results7, go_sem, d0, d1]) rfl ⟨?_, 0, [], c9, ⟨t, 0, HFZ.out, by rw [if_neg (by decide)]; exact ⟨en, done, _, c, HTP.out, by rw [← HC9.out, if_pos HZ.out]⟩⟩, .inl ⟨HZ.out, by rw [errV_pos HZ.out]⟩⟩
        exact (HBW7.out.setCell (Nat.le_refl _) _).setCell (Nat.le_refl _) _
      have HZ2 : Hid (¬ endC (t.drop pl).length c ≠ 0) := Lib.hid (by rw [← HC9.out, hz2]; simp)
      have HPC := Lib.hid (pcheck_any (en : Int) _ (unitsW done) W7 _ HR7.out)
      obtain ⟨c10, hc10⟩ : ∃ x, x = pchk (en : Int) (unitsW done) := ⟨_, rfl⟩
      rw [← hc10] at HPC
      have HC10 := Lib.hid hc10
      rw [hz2, errV_zero]
      clear hz2 hc10 d0 d1 f0 f1
      go_wp2_with fail
      refine HPC.out.mono ?_
      rintro r w8 ⟨rfl, hb8⟩
      have hx8 := HX7.out.old hb8
      have hb8' : Below W1.heap.size W1 w8 := HB7.out.trans (hb8.mono HB7.out.size)
      have hr8 := HX1.out.old hb8'
      have HR8 := Lib.hid (HR7.out.old hb8)
      have x0 := hx8.c0
      have x1 := hx8.c1
      have d0 := hr8.c0
      have d1 := hr8.c1
      have f0 := hr8.f0
      have f1 := hr8.f1
      have HBW8 : Hid (Below w.heap.size w w8) := Lib.hid (HB1.out.trans (hb8'.mono HB1.out.size))
      have HQW : Hid (w.heap.size + 1 ≤ w6.heap.size ∧ w.heap.size ≠ q) := Lib.hid (by have := HX1.out.lt; have := HPW.out; have := HQB.out; omega)
      clear hb8 hx8 hb8' hr8
      by_cases hz3 : c10 = 0
      rotate_left
      · rw [errV_pos hz3]
        have HZ := Lib.hid hz3
        clear hz3
        go_wp2
        refine bodyPost_ret (v := .tuple #[.agg #[.int .i64 0, .slice none 0 0], .iface 68 (.int .i64 (c10 : Int))]) (by simp [results, Tryz.results7, go_sem, d0, d1]) rfl ⟨?_, 0, [], c10, ⟨t, 0, HFZ.out, by rw [if_neg (by decide)]; exact ⟨en, done, _, c, HTP.out, by rw [if_neg HZ2.out]; exact ⟨HC10.out, fun h => absurd h HZ.out⟩⟩⟩, .inl ⟨HZ.out, by rw [errV_pos HZ.out]⟩⟩
        exact (HBW8.out.setCell (Nat.le_refl _) _).setCell (Nat.le_refl _) _
      have HZ3 : Hid (pchk (en : Int) (unitsW done) = 0) := Lib.hid (by rw [← HC10.out, hz3])
      rw [hz3, errV_zero]
      clear hz3
      go_wp2
      refine bodyPost_ret (v := .tuple #[.agg #[.int .i64 (en : Int), .slice ao k cap], .nilIface]) (by simp [results, Tryz.results7, go_sem, d0, d1]) rfl ⟨?_, (en : Int), unitsW done, 0, ⟨t, 0, HFZ.out, by rw [if_neg (by decide)]; exact ⟨en, done, _, c, HTP.out, by rw [if_neg HZ2.out]; exact ⟨HZ3.out.symm, fun _ => ⟨rfl, rfl⟩⟩⟩⟩, .inr ⟨rfl, _, rfl, ?_⟩⟩
      · exact (HBW8.out.setCell (Nat.le_refl _) _).setCell (Nat.le_refl _) _
      · refine (HR8.out.keep ⟨by simp, fun j hj hB => ?_⟩).mono fun j _ hj => by have := HQW.out; omega
        have hne : j ≠ w.heap.size := by have := HQW.out; omega
        rw [heap_setCell_other _ _ _ _ hne, heap_setCell_other _ _ _ _ hne]

end Go.Proofs.YtjbodokligpcaaaGreat
