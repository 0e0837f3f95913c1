/- SeqPlays' walk. -/
import Derived.Test.YtjbodokligpcaaaSqB
import Derived.Test.YtjbodokligpcaaaSqG
import Derived.Test.YtjbodokligpcaaaIsA
import Derived.Deep.QuietTactic
namespace Go.Proofs.Ytjbodokligpcaaa
open Go.RowKit

/-- Both sequencers, beside one another. -/
structure QTwo (w : World) (p q : Nat) (S : QS) : Prop where
  sq : Sq w p S
  doc : w.heap[q]? = some (.cells #[.int .i64 S.epoch, .int .i64 S.next] 36 (0, 0))
  ne : p ≠ q
theorem QTwo.old {w w' : World} {p q : Nat} {S : QS} (h : QTwo w p q S) (hb : Below w.heap.size w w') : QTwo w' p q S :=
  ⟨h.sq.old hb, (hb.block _ (Array.getElem?_eq_some_iff.1 h.doc).1).trans h.doc, h.ne⟩
theorem QTwo.lt {w : World} {p q : Nat} {S : QS} (h : QTwo w p q S) : q < w.heap.size := (Array.getElem?_eq_some_iff.1 h.doc).1
/-- The document's is written, the program's called. -/
theorem QTwo.next {w w1 w2 : World} {p q : Nat} {S T : QS} (h : QTwo w p q S) (hb : Below w.heap.size w w1) {W : World} (hW : W = (w1.setCell ⟨q, 0, none⟩ (.int .i64 T.epoch)).setCell ⟨q, 1, none⟩ (.int .i64 T.next)) (hs : Sq w2 p T) (hg : W.grownBy w2 (some p)) : QTwo w2 p q T := by
  have h1 := h.old hb
  have d1 : W.heap[q]? = some (.cells #[.int .i64 T.epoch, .int .i64 T.next] 36 (0, 0)) := by
    rw [hW]
    have e1 := heap_setCell_same w1 q 0 _ _ (.int .i64 T.epoch) h1.doc
    have e2 := heap_setCell_same _ q 1 _ _ (.int .i64 T.next) e1
    simpa using e2
  refine ⟨hs, ?_, h.ne⟩
  rw [hg.block q (Array.getElem?_eq_some_iff.1 d1).1 (fun e => h.ne (by simpa using e.symm))]
  exact d1
theorem qtail_own (S : QS) : qtailN S S.epoch = S.next ∧ qcur S S.epoch = 0 := by
  have : qcur S S.epoch = 0 := by unfold qcur; rw [if_neg (by simp), if_neg (by simp)]
  exact ⟨by unfold qtailN; rw [this, if_pos rfl], this⟩

set_option maxHeartbeats 8000000 in
set_option maxRecDepth 100000 in
theorem seqPlays_walk (v : Value) (l : List QA) (w : World) (B : Nat → Prop) (h : QActs w B v l) :
    Calls Try.prog 3 #[v] w fun e w' => e = .returned (.bool true) ∧ Below w.heap.size w w' := by
  obtain ⟨ao, cap, rfl, l1, m1, _⟩ := h.val
  have HA := Lib.hid (alive12_any w)
  have HR := Lib.hid h
  obtain ⟨n, hn⟩ : ∃ n, n = l.length := ⟨_, rfl⟩
  rw [← hn]
  have HN := Lib.hid hn
  clear h l1 m1 hn
  go_enter Try.func3, Try.ntmps3
  go_wp2_with fail
  refine HA.out.mono ?_
  rintro e w1 ⟨rfl, hb1⟩
  have HB1 := Lib.hid hb1
  clear hb1
  by_cases g0 : (n : Int) > 100
  · go_wp2
    go_ret
    exact ⟨rfl, HB1.out⟩
  have hn1 : (n : Int) ≤ 100 := by omega
  clear g0
  go_wp2_with fail
  refine (qnil_take 0 1 w1).mono ?_
  rintro e w2 ⟨rfl, rfl⟩
  go_wp2_with fail
  refine (qnil_tail 0 w1).mono ?_
  rintro e w2 ⟨rfl, rfl⟩
  go_wp2_with fail
  refine (qnil_epoch w1).mono ?_
  rintro e w2 ⟨rfl, rfl⟩
  go_wp2_with fail
  refine (is_any 4 w1).mono ?_
  rintro e w2 ⟨rfl, rfl⟩
  go_wp2_with fail
  refine (is_any 4 w1).mono ?_
  rintro e w2 ⟨rfl, rfl⟩
  go_wp2_with fail
  refine (qnil_raise 0 0 w1).mono ?_
  rintro e w2 ⟨rfl, rfl⟩
  go_wp2_with fail
  refine (is_any 4 w1).mono ?_
  rintro e w2 ⟨rfl, rfl⟩
  go_wp2_with fail
  refine (qnil_set 1 0 w1).mono ?_
  rintro e w2 ⟨rfl, rfl⟩
  go_wp2_with fail
  refine (is_any 4 w1).mono ?_
  rintro e w2 ⟨rfl, rfl⟩
  go_wp2_with fail
  refine (qnew_any w1).mono ?_
  rintro e w2 ⟨rfl, hs2, hb2⟩
  obtain ⟨W3, hW3⟩ : ∃ W3, W3 = w2.alloc (.cells #[.int .i64 0, .int .i64 0] 36) := ⟨_, rfl⟩
  have hb3 : Below w2.heap.size w2 W3 := by rw [hW3]; exact (Below.refl _ _).alloc (Nat.le_refl _) _
  have HQ3 : Hid (QTwo W3 w1.heap.size w2.heap.size ⟨0, 0⟩) := Lib.hid ⟨hs2.old hb3, by rw [hW3]; exact heap_alloc_new _ _, by have := hs2.lt; omega⟩
  have HB3 : Hid (Below w.heap.size w W3) := Lib.hid ((HB1.out.trans (hb2.mono HB1.out.size)).trans (hb3.mono (Nat.le_trans HB1.out.size hb2.size)))
  have HPW : Hid (w.heap.size ≤ w1.heap.size ∧ w.heap.size ≤ w2.heap.size) := Lib.hid ⟨HB1.out.size, Nat.le_trans HB1.out.size hb2.size⟩
  obtain ⟨p, hp⟩ : ∃ p, p = w1.heap.size := ⟨_, rfl⟩
  obtain ⟨q, hq⟩ : ∃ q, q = w2.heap.size := ⟨_, rfl⟩
  rw [← hp] at HPW HQ3
  rw [← hq] at HPW HQ3
  have HW3 := Lib.hid hW3
  rw [← hp]
  clear hs2 hb2 hb3 hp hW3
  go_wp2_with fail
  rw [← hq, ← HW3.out]
  clear hq
  go_loopw [11, 12, 13, 14, 15, 16, 17, 66] (fun _ _ _ _ _ _ _ i wr => ∃ (k : Nat) (S : QS), k ≤ n ∧ i = .int .i64 (k : Int) ∧ QOk S ∧ QTwo wr p q S ∧ Below w.heap.size w wr)
    (fun _ _ _ _ _ _ _ i _ => n - (intOf i).toNat)
  case atStart => exact ⟨0, ⟨0, 0⟩, Nat.zero_le _, rfl, qok_zero, HQ3.out, HB3.out⟩
  case round =>
    obtain ⟨k, S, hk, rfl, hok, hs, hb⟩ := hrel
    by_cases hlt : k < n
    · have hltl : k < l.length := by rw [← HN.out]; exact hlt
      obtain ⟨b, off, rfl, _, _, e0, e1, e2⟩ := (HN.out ▸ HR.out.old hb : QActs wr B _ l).at hltl
      obtain ⟨qa, hqa⟩ : ∃ q, q = l[k] := ⟨_, rfl⟩
      rw [← hqa] at e0 e1 e2
      clear hqa
      obtain ⟨kind, ep, nn⟩ := qa
      have hlti : (k : Int) < n := by omega
      obtain ⟨W, hW⟩ : ∃ W, W = wr.alloc (.cells #[.int .i64 kind, .int .i64 ep, .int .i64 nn] 38) := ⟨_, rfl⟩
      have hbW : Below wr.heap.size wr W := by rw [hW]; exact (Below.refl _ _).alloc (Nat.le_refl _) _
      have hxW : W.heap[wr.heap.size]? = some (.cells #[.int .i64 kind, .int .i64 ep, .int .i64 nn] 38 (0, 0)) := by rw [hW]; exact heap_alloc_new _ _
      have HBW : Hid (Below w.heap.size w W) := Lib.hid (hb.trans (hbW.mono hb.size))
      have hsW := hs.old hbW
      have HSW := Lib.hid hsW
      have hne1 : ¬ wr.heap.size = q := by have := hs.lt; omega
      have hne2 : ¬ q = wr.heap.size := by have := hs.lt; omega
      have HPR : Hid (p < wr.heap.size) := Lib.hid hs.sq.lt
      have HOK := Lib.hid hok
      have HRA := Lib.hid (rqraise_any S ep nn W)
      have HRS := Lib.hid (rqset_any S ep nn W)
      have HRT := Lib.hid (rqtake_any S hok ep nn W)
      have HRC := Lib.hid (rqcur_any S ep W)
      obtain ⟨b0, b1, b2⟩ := three_cellsQ hxW
      obtain ⟨d0, d1, f0, f1⟩ := q_cells hsW.doc
      rw [hW] at b0 b1 b2 d0 d1 f0 f1
      have HXW := Lib.hid hxW
      have HW := Lib.hid hW
      clear hltl hs hb hbW hxW hsW hW hok
      simp only at e0 e1 e2
      cases z2 : ((IntKind.u64.wrap kind).tmod 5 == 2)
      rotate_left
      · skip
        go_wp2_with fail
        rw [← HW.out]
        refine HRA.out.mono ?_
        rintro r w4 ⟨rfl, hb4⟩
        have hx4 := (hb4.block _ (Array.getElem?_eq_some_iff.1 HXW.out).1).trans HXW.out
        have hq4 := HSW.out.old hb4
        obtain ⟨b0, b1, b2⟩ := three_cellsQ hx4
        obtain ⟨d0, d1, f0, f1⟩ := q_cells hq4.doc
        obtain ⟨T, hT⟩ : ∃ T, T = qraiseS S ep nn := ⟨_, rfl⟩
        obtain ⟨C, hC⟩ : ∃ C, C = qraiseC S ep nn := ⟨_, rfl⟩
        rw [← hT, ← hC]
        obtain ⟨W5, hW5⟩ : ∃ W5, W5 = (w4.setCell ⟨q, 0, none⟩ (.int .i64 T.epoch)).setCell ⟨q, 1, none⟩ (.int .i64 T.next) := ⟨_, rfl⟩
        have hs5 : Sq W5 p S := by rw [hW5]; exact (hq4.sq.other hq4.ne 0 _).other hq4.ne 1 _
        have HCA := Lib.hid (qraise_any hs5 ep nn)
        have HOT : Hid (QOk T) := Lib.hid (by rw [hT]; exact qraise_ok HOK.out _ _)
        have HB5 : Hid (Below w.heap.size w W5) := Lib.hid (by rw [hW5]; exact ((HBW.out.trans (hb4.mono HBW.out.size)).setCell HPW.out.2 _).setCell HPW.out.2 _)
        have HW5 := Lib.hid hW5
        have HB4 := Lib.hid hb4
        rw [← hT, ← hC] at HCA
        clear hx4 hq4 hs5 hW5 hb4 hT hC
        go_wp2_with fail
        rw [← HW5.out]
        refine HCA.out.mono ?_
        rintro r w6 ⟨rfl, hs6, hg6⟩
        have hq6 := HSW.out.next HB4.out HW5.out hs6 hg6
        have HB6 : Hid (Below w.heap.size w w6) := Lib.hid (HB5.out.grown hg6 HB5.out.size fun j hj => by cases hj; exact HPW.out.1)
        clear hs6 hg6
        obtain ⟨d0, d1, _, _⟩ := q_cells hq6.doc
        have hta := qtail_any hq6.sq T.epoch
        rw [(qtail_own T).1, (qtail_own T).2, errV_zero] at hta
        have HTA := Lib.hid hta
        have HNM : Hid (∀ d, Calls Try.prog 18 #[errV C] (w6.drewN d) fun e w' => e = .returned (.int .i64 (C : Int)) ∧ w' = w6.drewN d) := Lib.hid fun d => (num_any C (w6.drewN d)).mono fun _ _ h => ⟨h.1, h.2.symm⟩
        have HEP : Hid (∀ d, Calls Try.prog 9 #[.pointer (some ⟨p, 0, none⟩)] (w6.drewN d) fun e w' => e = .returned (.int .i64 T.epoch) ∧ w' = w6.drewN d) := Lib.hid fun d => (qepoch_any (S := T) (b := p) (w := w6.drewN d) ⟨hq6.sq.blk⟩).mono fun _ _ h => ⟨h.1, h.2.symm⟩
        have HQ6 := Lib.hid hq6
        clear hta hq6
        go_wp2_with fail
        refine HTA.out.mono ?_
        rintro r w7 ⟨rfl, rfl⟩
        obtain ⟨te, tn⟩ := T
        simp only at d0 d1
        go_wp2_with fail
        go_quiet (first
          | (go_at_call 18; with_reducible exact Calls.quiet_of_same (HNM.out _))
          | (go_at_call 9; with_reducible exact Calls.quiet_of_same (HEP.out _)))
        go_wp2
        go_roundw
        case rel => exact ⟨k + 1, ⟨te, tn⟩, by omega, by go_num, HOT.out, HQ6.out.old ⟨rfl, rfl, rfl, Nat.le_refl _, fun _ _ => rfl⟩, HB6.out.trans ⟨rfl, rfl, rfl, Nat.le_refl _, fun _ _ => rfl⟩⟩
        case measure => simp [intOf]; omega
      cases z3 : ((IntKind.u64.wrap kind).tmod 5 == 3)
      rotate_left
      · skip
        go_wp2_with fail
        rw [← HW.out]
        refine HRS.out.mono ?_
        rintro r w4 ⟨rfl, hb4⟩
        have hx4 := (hb4.block _ (Array.getElem?_eq_some_iff.1 HXW.out).1).trans HXW.out
        have hq4 := HSW.out.old hb4
        obtain ⟨b0, b1, b2⟩ := three_cellsQ hx4
        obtain ⟨d0, d1, f0, f1⟩ := q_cells hq4.doc
        obtain ⟨T, hT⟩ : ∃ T, T = qsetS S ep nn := ⟨_, rfl⟩
        obtain ⟨C, hC⟩ : ∃ C, C = qsetC S ep nn := ⟨_, rfl⟩
        rw [← hT, ← hC]
        obtain ⟨W5, hW5⟩ : ∃ W5, W5 = (w4.setCell ⟨q, 0, none⟩ (.int .i64 T.epoch)).setCell ⟨q, 1, none⟩ (.int .i64 T.next) := ⟨_, rfl⟩
        have hs5 : Sq W5 p S := by rw [hW5]; exact (hq4.sq.other hq4.ne 0 _).other hq4.ne 1 _
        have HCA := Lib.hid (qset_any hs5 ep nn)
        have HOT : Hid (QOk T) := Lib.hid (by rw [hT]; exact qset_ok HOK.out _ _)
        have HB5 : Hid (Below w.heap.size w W5) := Lib.hid (by rw [hW5]; exact ((HBW.out.trans (hb4.mono HBW.out.size)).setCell HPW.out.2 _).setCell HPW.out.2 _)
        have HW5 := Lib.hid hW5
        have HB4 := Lib.hid hb4
        rw [← hT, ← hC] at HCA
        clear hx4 hq4 hs5 hW5 hb4 hT hC
        go_wp2_with fail
        rw [← HW5.out]
        refine HCA.out.mono ?_
        rintro r w6 ⟨rfl, hs6, hg6⟩
        have hq6 := HSW.out.next HB4.out HW5.out hs6 hg6
        have HB6 : Hid (Below w.heap.size w w6) := Lib.hid (HB5.out.grown hg6 HB5.out.size fun j hj => by cases hj; exact HPW.out.1)
        clear hs6 hg6
        obtain ⟨d0, d1, _, _⟩ := q_cells hq6.doc
        have hta := qtail_any hq6.sq T.epoch
        rw [(qtail_own T).1, (qtail_own T).2, errV_zero] at hta
        have HTA := Lib.hid hta
        have HNM : Hid (∀ d, Calls Try.prog 18 #[errV C] (w6.drewN d) fun e w' => e = .returned (.int .i64 (C : Int)) ∧ w' = w6.drewN d) := Lib.hid fun d => (num_any C (w6.drewN d)).mono fun _ _ h => ⟨h.1, h.2.symm⟩
        have HEP : Hid (∀ d, Calls Try.prog 9 #[.pointer (some ⟨p, 0, none⟩)] (w6.drewN d) fun e w' => e = .returned (.int .i64 T.epoch) ∧ w' = w6.drewN d) := Lib.hid fun d => (qepoch_any (S := T) (b := p) (w := w6.drewN d) ⟨hq6.sq.blk⟩).mono fun _ _ h => ⟨h.1, h.2.symm⟩
        have HQ6 := Lib.hid hq6
        clear hta hq6
        go_wp2_with fail
        refine HTA.out.mono ?_
        rintro r w7 ⟨rfl, rfl⟩
        obtain ⟨te, tn⟩ := T
        simp only at d0 d1
        go_wp2_with fail
        go_quiet (first
          | (go_at_call 18; with_reducible exact Calls.quiet_of_same (HNM.out _))
          | (go_at_call 9; with_reducible exact Calls.quiet_of_same (HEP.out _)))
        go_wp2
        go_roundw
        case rel => exact ⟨k + 1, ⟨te, tn⟩, by omega, by go_num, HOT.out, HQ6.out.old ⟨rfl, rfl, rfl, Nat.le_refl _, fun _ _ => rfl⟩, HB6.out.trans ⟨rfl, rfl, rfl, Nat.le_refl _, fun _ _ => rfl⟩⟩
        case measure => simp [intOf]; omega
      cases z4 : ((IntKind.u64.wrap kind).tmod 5 == 4)
      rotate_left
      · go_wp2_with fail
        rw [← HW.out]
        refine HRC.out.mono ?_
        rintro r w6 ⟨rfl, hb4⟩
        have hx4 := (hb4.block _ (Array.getElem?_eq_some_iff.1 HXW.out).1).trans HXW.out
        have hq6 := HSW.out.old hb4
        obtain ⟨b0, b1, b2⟩ := three_cellsQ hx4
        obtain ⟨d0, d1, f0, f1⟩ := q_cells hq6.doc
        have HB6 : Hid (Below w.heap.size w w6) := Lib.hid (HBW.out.trans (hb4.mono HBW.out.size))
        have htl := qtail_any hq6.sq ep
        unfold qtailN at htl
        obtain ⟨C, hC⟩ : ∃ C, C = qcur S ep := ⟨_, rfl⟩
        rw [← hC] at htl ⊢
        clear hx4 hb4 hC
        by_cases hz : C = 0
        · rw [if_pos hz] at htl
          have HTL := Lib.hid htl
          have hz1 : ((C : Int) == 0) = true := by rw [beq_iff_eq]; omega
          clear htl hz
          go_wp2_with fail
          refine HTL.out.mono ?_
          rintro r w7 ⟨rfl, rfl⟩
          obtain ⟨d0, d1, _, _⟩ := q_cells hq6.doc
          have hta := qtail_any hq6.sq S.epoch
          rw [(qtail_own S).1, (qtail_own S).2, errV_zero] at hta
          have HTA := Lib.hid hta
          have HNM : Hid (∀ d, Calls Try.prog 18 #[errV C] (w6.drewN d) fun e w' => e = .returned (.int .i64 (C : Int)) ∧ w' = w6.drewN d) := Lib.hid fun d => (num_any C (w6.drewN d)).mono fun _ _ h => ⟨h.1, h.2.symm⟩
          have HEP : Hid (∀ d, Calls Try.prog 9 #[.pointer (some ⟨p, 0, none⟩)] (w6.drewN d) fun e w' => e = .returned (.int .i64 S.epoch) ∧ w' = w6.drewN d) := Lib.hid fun d => (qepoch_any (S := S) (b := p) (w := w6.drewN d) ⟨hq6.sq.blk⟩).mono fun _ _ h => ⟨h.1, h.2.symm⟩
          have HQ6 := Lib.hid hq6
          clear hta hq6
          go_wp2_with fail
          refine HTA.out.mono ?_
          rintro r w7 ⟨rfl, rfl⟩
          obtain ⟨te, tn⟩ := S
          simp only at d0 d1
          go_wp2_with fail
          go_quiet (first
            | (go_at_call 18; with_reducible exact Calls.quiet_of_same (HNM.out _))
            | (go_at_call 9; with_reducible exact Calls.quiet_of_same (HEP.out _)))
          go_wp2
          go_roundw
          case rel => exact ⟨k + 1, ⟨te, tn⟩, by omega, by go_num, HOK.out, HQ6.out.old ⟨rfl, rfl, rfl, Nat.le_refl _, fun _ _ => rfl⟩, HB6.out.trans ⟨rfl, rfl, rfl, Nat.le_refl _, fun _ _ => rfl⟩⟩
          case measure => simp [intOf]; omega
        · rw [if_neg hz] at htl
          have HTL := Lib.hid htl
          have hz1 : ((C : Int) == 0) = false := by rw [beq_eq_false_iff_ne]; omega
          clear htl hz
          go_wp2_with fail
          refine HTL.out.mono ?_
          rintro r w7 ⟨rfl, rfl⟩
          obtain ⟨d0, d1, _, _⟩ := q_cells hq6.doc
          have hta := qtail_any hq6.sq S.epoch
          rw [(qtail_own S).1, (qtail_own S).2, errV_zero] at hta
          have HTA := Lib.hid hta
          have HNM : Hid (∀ d, Calls Try.prog 18 #[errV C] (w6.drewN d) fun e w' => e = .returned (.int .i64 (C : Int)) ∧ w' = w6.drewN d) := Lib.hid fun d => (num_any C (w6.drewN d)).mono fun _ _ h => ⟨h.1, h.2.symm⟩
          have HEP : Hid (∀ d, Calls Try.prog 9 #[.pointer (some ⟨p, 0, none⟩)] (w6.drewN d) fun e w' => e = .returned (.int .i64 S.epoch) ∧ w' = w6.drewN d) := Lib.hid fun d => (qepoch_any (S := S) (b := p) (w := w6.drewN d) ⟨hq6.sq.blk⟩).mono fun _ _ h => ⟨h.1, h.2.symm⟩
          have HQ6 := Lib.hid hq6
          clear hta hq6
          go_wp2_with fail
          refine HTA.out.mono ?_
          rintro r w7 ⟨rfl, rfl⟩
          obtain ⟨te, tn⟩ := S
          simp only at d0 d1
          go_wp2_with fail
          go_quiet (first
            | (go_at_call 18; with_reducible exact Calls.quiet_of_same (HNM.out _))
            | (go_at_call 9; with_reducible exact Calls.quiet_of_same (HEP.out _)))
          go_wp2
          go_roundw
          case rel => exact ⟨k + 1, ⟨te, tn⟩, by omega, by go_num, HOK.out, HQ6.out.old ⟨rfl, rfl, rfl, Nat.le_refl _, fun _ _ => rfl⟩, HB6.out.trans ⟨rfl, rfl, rfl, Nat.le_refl _, fun _ _ => rfl⟩⟩
          case measure => simp [intOf]; omega
      · skip
        go_wp2_with fail
        rw [← HW.out]
        refine HRT.out.mono ?_
        rintro r w4 ⟨rfl, hb4⟩
        have hx4 := (hb4.block _ (Array.getElem?_eq_some_iff.1 HXW.out).1).trans HXW.out
        have hq4 := HSW.out.old hb4
        obtain ⟨b0, b1, b2⟩ := three_cellsQ hx4
        obtain ⟨d0, d1, f0, f1⟩ := q_cells hq4.doc
        obtain ⟨T, hT⟩ : ∃ T, T = qtakeS S ep nn := ⟨_, rfl⟩
        obtain ⟨C, hC⟩ : ∃ C, C = qtakeC S ep nn := ⟨_, rfl⟩
        obtain ⟨N, hN⟩ : ∃ N, N = qtakeN S ep nn := ⟨_, rfl⟩
        rw [← hN]
        rw [← hT, ← hC]
        obtain ⟨W5, hW5⟩ : ∃ W5, W5 = (w4.setCell ⟨q, 0, none⟩ (.int .i64 T.epoch)).setCell ⟨q, 1, none⟩ (.int .i64 T.next) := ⟨_, rfl⟩
        have hs5 : Sq W5 p S := by rw [hW5]; exact (hq4.sq.other hq4.ne 0 _).other hq4.ne 1 _
        have HCA := Lib.hid (qtake_any hs5 HOK.out ep nn)
        have HOT : Hid (QOk T) := Lib.hid (by rw [hT]; exact qtake_ok HOK.out _ _)
        have HB5 : Hid (Below w.heap.size w W5) := Lib.hid (by rw [hW5]; exact ((HBW.out.trans (hb4.mono HBW.out.size)).setCell HPW.out.2 _).setCell HPW.out.2 _)
        have HW5 := Lib.hid hW5
        have HB4 := Lib.hid hb4
        rw [← hT, ← hC] at HCA
        rw [← hN] at HCA
        clear hx4 hq4 hs5 hW5 hb4 hT hC hN
        go_wp2_with fail
        rw [← HW5.out]
        refine HCA.out.mono ?_
        rintro r w6 ⟨rfl, hs6, hg6⟩
        have hq6 := HSW.out.next HB4.out HW5.out hs6 hg6
        have HB6 : Hid (Below w.heap.size w w6) := Lib.hid (HB5.out.grown hg6 HB5.out.size fun j hj => by cases hj; exact HPW.out.1)
        clear hs6 hg6
        obtain ⟨d0, d1, _, _⟩ := q_cells hq6.doc
        have hta := qtail_any hq6.sq T.epoch
        rw [(qtail_own T).1, (qtail_own T).2, errV_zero] at hta
        have HTA := Lib.hid hta
        have HNM : Hid (∀ d, Calls Try.prog 18 #[errV C] (w6.drewN d) fun e w' => e = .returned (.int .i64 (C : Int)) ∧ w' = w6.drewN d) := Lib.hid fun d => (num_any C (w6.drewN d)).mono fun _ _ h => ⟨h.1, h.2.symm⟩
        have HEP : Hid (∀ d, Calls Try.prog 9 #[.pointer (some ⟨p, 0, none⟩)] (w6.drewN d) fun e w' => e = .returned (.int .i64 T.epoch) ∧ w' = w6.drewN d) := Lib.hid fun d => (qepoch_any (S := T) (b := p) (w := w6.drewN d) ⟨hq6.sq.blk⟩).mono fun _ _ h => ⟨h.1, h.2.symm⟩
        have HQ6 := Lib.hid hq6
        clear hta hq6
        go_wp2_with fail
        refine HTA.out.mono ?_
        rintro r w7 ⟨rfl, rfl⟩
        obtain ⟨te, tn⟩ := T
        simp only at d0 d1
        go_wp2_with fail
        go_quiet (first
          | (go_at_call 18; with_reducible exact Calls.quiet_of_same (HNM.out _))
          | (go_at_call 9; with_reducible exact Calls.quiet_of_same (HEP.out _)))
        go_wp2
        go_roundw
        case rel => exact ⟨k + 1, ⟨te, tn⟩, by omega, by go_num, HOT.out, HQ6.out.old ⟨rfl, rfl, rfl, Nat.le_refl _, fun _ _ => rfl⟩, HB6.out.trans ⟨rfl, rfl, rfl, Nat.le_refl _, fun _ _ => rfl⟩⟩
        case measure => simp [intOf]; omega
    · have HB := Lib.hid hb
      clear hs hb hok
      go_wp2
      go_ret
      exact ⟨rfl, HB.out⟩

end Go.Proofs.Ytjbodokligpcaaa
