/- UnitPlays, walked. -/
import Derived.Test.YtnhffeppbliabaaUvH
namespace Go.Proofs.Ytnhffeppbliabaa
open Go.RowKit

/-- A unit and the document's, which lies in the box b, both driven since w. -/
structure Plu (w W : World) (u m b : Nat) (U : US) (lv : Value) : Prop where
  un : ∃ B, Un W B u m U ∧ ¬ B b
  fr : Fr (fun j => w.heap.size ≤ j) w W
  doc : DocU W (fun j => b < j) lv U
  box : W.heap[b]? = some (.cells #[.int .i64 U.epoch, .int .i64 U.low, lv] 28 (0, 0))
  ul : w.heap.size ≤ u ∧ w.heap.size ≤ m
  ub : u < b ∧ m < b
/-- The same, ahead of the store into the box. -/
structure Plv (w W : World) (u m b : Nat) (U : US) (lv : Value) : Prop where
  un : ∃ B, Un W B u m U ∧ ¬ B b
  fr : Fr (fun j => w.heap.size ≤ j) w W
  doc : DocU W (fun j => b < j) lv U
  box : ∃ x0 x1 x2, W.heap[b]? = some (.cells #[x0, x1, x2] 28 (0, 0))
  ul : w.heap.size ≤ u ∧ w.heap.size ≤ m
  ub : u < b ∧ m < b
section
variable {w W W' : World} {u m b : Nat} {U U' : US} {lv lv' : Value}
theorem Plu.below (h : Plu w W u m b U lv) : Below w.heap.size w W := h.fr.below (Nat.le_refl _) fun _ hj hS => Nat.not_le_of_lt hj hS
theorem Plv.below (h : Plv w W u m b U lv) : Below w.heap.size w W := h.fr.below (Nat.le_refl _) fun _ hj hS => Nat.not_le_of_lt hj hS
theorem Plu.old (h : Plu w W u m b U lv) (hb : Below W.heap.size W W') : Plu w W' u m b U lv := by
  obtain ⟨B, hu, hB⟩ := h.un
  exact ⟨⟨B, hu.old hb, hB⟩, h.fr.trans (fr_below hb fun _ => False) (fun _ _ h => h) (fun _ _ h => h.elim), h.doc.grown hb, (hb.block b (Array.getElem?_eq_some_iff.1 h.box).1).trans h.box, h.ul, h.ub⟩
theorem Plv.old (h : Plv w W u m b U lv) (hb : Below W.heap.size W W') : Plv w W' u m b U lv := by
  obtain ⟨B, hu, hB⟩ := h.un
  obtain ⟨x0, x1, x2, hx⟩ := h.box
  exact ⟨⟨B, hu.old hb, hB⟩, h.fr.trans (fr_below hb fun _ => False) (fun _ _ h => h) (fun _ _ h => h.elim), h.doc.grown hb, ⟨x0, x1, x2, (hb.block b (Array.getElem?_eq_some_iff.1 hx).1).trans hx⟩, h.ul, h.ub⟩
theorem Plu.ok (h : Plu w W u m b U lv) : UOk U := by obtain ⟨B, hu, _⟩ := h.un; exact hu.ok
theorem Plv.put (h : Plv w W u m b U lv) : Plu w (tri W b (.int .i64 U.epoch) (.int .i64 U.low) lv) u m b U lv := by
  obtain ⟨B, hu, hB⟩ := h.un
  obtain ⟨x0, x1, x2, hx⟩ := h.box
  have hf := fr_tri W b (.int .i64 U.epoch) (.int .i64 U.low) lv
  have h1 := h.ul
  have h2 := h.ub
  exact ⟨⟨B, hu.keep (hf.kept _ fun j _ hj e => hB (e ▸ hj)) (hf.block u hu.ult (by omega)) (hf.block m hu.mlt (by omega)), hB⟩, h.fr.trans hf (fun _ _ h => h) (fun j _ e => by omega), RecAt.keep h.doc (hf.kept _ fun j _ hj e => by omega), tri_blk hx _ _ _, h.ul, h.ub⟩
theorem Plu.do (h : Plu w W u m b U lv) {a : UA} {bv : Value} (ha : UAAt W (fun j => j < w.heap.size) a bv) (hl : a.data.length ≤ 300) :
    Calls Try.prog 10 #[.pointer (some ⟨u, 0, none⟩), docU U lv, .agg #[.int .i64 a.kind, .int .i64 a.epoch, .int .i64 a.addr, bv]] W fun e w' => ∃ lv', e = .returned (.tuple #[docU (ustep U a) lv', .bool true]) ∧ Plv w w' u m b (ustep U a) lv' := by
  obtain ⟨B, hu, hB⟩ := h.un
  have h1 := h.ul
  have h2 := h.ub
  have hbl := (Array.getElem?_eq_some_iff.1 h.box).1
  have := doU_any hu h.doc hu.ok (by omega) (by omega) ha.addr ha.data (by omega) (by omega) ha.byte hl
  refine this.mono fun e w' ⟨lv', t, he, ht, hp, hd⟩ => ⟨lv', ?_, ?_⟩
  · rw [he, ht rfl]
  · refine ⟨⟨_, hp.1, ?_⟩, h.fr.trans hp.2 (fun _ _ h => h) (fun j _ e => by omega), RecAt.mono hd fun j _ hj => ?_, ⟨_, _, _, (hp.2.block b hbl (by omega)).trans h.box⟩, h.ul, h.ub⟩
    · rintro (hc | hc)
      · exact hB hc
      · omega
    · rcases hj with hj | hj
      · exact hj
      · omega
end

set_option maxHeartbeats 8000000 in
set_option maxRecDepth 100000 in
theorem unitPlays_walk (v : Value) (acts : List UA) (w : World) (hr : UAsAt w (fun j => j < w.heap.size) v acts) :
    Calls Try.prog 3 #[v] w fun e w' => e = .returned (.bool true) ∧ Below w.heap.size w w' := by
  obtain ⟨ao, cap, rfl, hlc, hcap, _⟩ := hr.val
  have HAL : Hid (acts.length ≤ 9223372036854775807) := Lib.hid (Nat.le_trans hlc hcap)
  have HR := Lib.hid hr
  clear hr hlc hcap
  go_enter Try.func3, Try.ntmps3
  go_wp2_with fail
  refine (alive8_any w).mono ?_
  rintro e w1 ⟨rfl, hb1⟩
  have HB1 := Lib.hid hb1
  clear hb1
  by_cases h60 : (60 : Int) < (acts.length : Int)
  · go_wp2
    go_ret
    exact ⟨rfl, HB1.out⟩
  go_wp2_with fail
  refine (new_unit w1).mono ?_
  rintro e w2 ⟨rfl, hu2, hb2⟩
  obtain ⟨q, hq⟩ : ∃ q, q = w1.heap.size := ⟨_, rfl⟩
  obtain ⟨b, hb⟩ : ∃ b, b = w2.heap.size := ⟨_, rfl⟩
  obtain ⟨W3, hW3⟩ : ∃ W3, W3 = w2.alloc (.cells #[.int .i64 0, .int .i64 0, .slice none 0 0] 28) := ⟨_, rfl⟩
  have HD : Hid (Plu w W3 (q + 1) q b unew (.slice none 0 0)) := Lib.hid (by
    have hb3 : Below w2.heap.size w2 W3 := by rw [hW3]; exact (Below.refl _ _).alloc (Nat.le_refl _) _
    have hbw : Below w.heap.size w W3 := (HB1.out.trans (hb2.mono HB1.out.size)).trans (hb3.mono (Nat.le_trans HB1.out.size hb2.size))
    have hl := hu2.ult
    have hs := HB1.out.size
    rw [← hq] at hu2 hl
    refine ⟨⟨_, hu2.old hb3, id⟩, ⟨hbw.os, hbw.tape, hbw.output, hbw.size, fun j hj hS => hbw.block j (by omega)⟩, doc_unew _ _, by rw [hW3, hb]; exact heap_alloc_new _ _, by omega, by omega⟩)
  have HQ := Lib.hid hq
  have HBE := Lib.hid hb
  have HW3 := Lib.hid hW3
  clear hu2 hb2 h60 hq hb hW3
  go_wp2
  rw [← HQ.out, ← HW3.out, ← HBE.out]
  go_loopw [18] (fun i wr => ∃ (k : Nat) (U : US) (lv : Value), k ≤ acts.length ∧ i = .int .i64 (k : Int) ∧ Plu w wr (q + 1) q b U lv)
    (fun i _ => acts.length - (intOf i).toNat)
  case atStart => exact ⟨0, _, _, Nat.zero_le _, rfl, HD.out⟩
  case round =>
    obtain ⟨k, U, lv, hk, rfl, hdru⟩ := hrel
    by_cases hlt : k < acts.length
    · obtain ⟨a, ha⟩ : ∃ a, acts[k]? = some a := ⟨_, List.getElem?_eq_getElem hlt⟩
      obtain ⟨b', off, bv, rfl, hbl, _, e0, e1, e2, e3, haa⟩ := HR.out.at ha
      have hbw := hdru.below
      have e0 := (hbw.cell (p := ⟨b', off + k * 4, none⟩) hbl).trans e0
      have e1 := (hbw.cell (p := ⟨b', off + k * 4 + 1, none⟩) hbl).trans e1
      have e2 := (hbw.cell (p := ⟨b', off + k * 4 + 2, none⟩) hbl).trans e2
      have e3 := (hbw.cell (p := ⟨b', off + k * 4 + 3, none⟩) hbl).trans e3
      obtain ⟨aob, capb, hbv, _, _, _⟩ := haa.data.reads.val
      subst hbv
      obtain ⟨ao1, cap1, rfl⟩ := hdru.doc.val
      have hlti : (k : Int) < acts.length := by omega
      have HK := Lib.hid hlt
      obtain ⟨W5, hW5⟩ : ∃ W5, W5 = wr.alloc (.cells #[.int .i64 a.kind, .int .i64 a.epoch, .int .i64 a.addr, .slice aob a.data.length capb] 31) := ⟨_, rfl⟩
      have hb5 : Below wr.heap.size wr W5 := by rw [hW5]; exact (Below.refl _ _).alloc (Nat.le_refl _) _
      have hd5 := hdru.old hb5
      have haa5 : UAAt W5 (fun j => j < w.heap.size) a (.slice aob a.data.length capb) := ⟨haa.data.keep (kept_below hd5.below), haa.byte, haa.kind, haa.epoch, haa.addr⟩
      have hcall := fun (h : a.data.length ≤ 300) => hd5.do haa5 h
      obtain ⟨U', hU'⟩ : ∃ U', U' = ustep U a := ⟨_, rfl⟩
      simp only [← hU'] at hcall
      unfold docU at hcall
      obtain ⟨q0, q1, q2, qf⟩ := three_cells hd5.box
      obtain ⟨kind, epoch, addr, data⟩ := a
      simp only at e0 e1 e2 e3 hcall hW5
      generalize U.cells.length = ml at *
      generalize U.epoch = ep at *
      generalize U.low = lw at *
      have HCALL := Lib.hid hcall
      have HW5 := Lib.hid hW5
      have HB5 := Lib.hid hb5
      have HBW := Lib.hid hbw
      rw [hW5] at q0 q1 q2 qf
      clear hdru ha hbl hbw haa hb5 hd5 haa5 hcall hU' hW5
      by_cases h300 : (300 : Int) < (data.length : Int)
      · go_wp2
        go_ret
        exact ⟨rfl, HBW.out.trans ((by rw [← HW5.out]; exact HB5.out : Below wr.heap.size wr _).mono HBW.out.size)⟩
      have H300 : Hid (data.length ≤ 300) := Lib.hid (by omega)
      go_wp2_with fail
      rw [← HW5.out]
      clear h300
      refine (HCALL.out H300.out).mono ?_
      rintro e w6 ⟨lv', rfl, hp6⟩
      obtain ⟨ao2, cap2, rfl⟩ := hp6.doc.val
      obtain ⟨W7, hW7⟩ : ∃ W7, W7 = w6.alloc (.cells #[.int .i64 U'.epoch, .int .i64 U'.low, .slice ao2 U'.cells.length cap2] 28) := ⟨_, rfl⟩
      have hp7 := hp6.old (W' := W7) (by rw [hW7]; exact (Below.refl _ _).alloc (Nat.le_refl _) _)
      have HP8 := Lib.hid hp7.put
      obtain ⟨x0, x1, x2, hx⟩ := hp7.box
      obtain ⟨p0, p1, p2, pf⟩ := three_cells hx
      have hbl6 : b < w6.heap.size := by obtain ⟨_, _, _, h⟩ := hp6.box; exact (Array.getElem?_eq_some_iff.1 h).1
      have hne : ¬ b = w6.heap.size := by omega
      have hne' : ¬ w6.heap.size = b := by omega
      unfold tri at HP8
      rw [hW7] at p0 p1 p2 pf HP8
      clear hp6 hp7 hx e0 e1 e2 e3 q0 q1 q2 qf hW7 hbl6
      go_wp2
      go_roundw
      case rel => exact ⟨k + 1, U', _, HK.out, (by first | exact uinc_eq HK.out HAL.out | rfl), HP8.out⟩
      case measure => first | exact uinc_meas HK.out HAL.out | (have := HK.out; simp [intOf]; omega)
    · obtain rfl : k = acts.length := by omega
      have HBF := Lib.hid hdru.below
      clear hdru
      go_wp2
      go_ret
      exact ⟨rfl, HBF.out⟩
end Go.Proofs.Ytnhffeppbliabaa
