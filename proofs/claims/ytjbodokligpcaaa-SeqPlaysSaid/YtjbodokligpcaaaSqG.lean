/- SeqOnce's walk. -/
import Derived.Test.YtjbodokligpcaaaSqF
import Derived.Test.YtjbodokligpcaaaSqC
import Derived.Deep.Cut
namespace Go.Proofs.Ytjbodokligpcaaa
open Go.RowKit

theorem three_cellsQ {w : World} {p : Nat} {c0 c1 c2 : Value} {e : TypeId} (h : w.heap[p]? = some (.cells #[c0, c1, c2] e (0, 0))) :
    w.cell? ⟨p, 0, none⟩ = some c0 ∧ w.cell? ⟨p, 1, none⟩ = some c1 ∧ w.cell? ⟨p, 2, none⟩ = some c2 :=
  ⟨by rw [cell_of_row w p 0 _ _ _ h]; rfl, by rw [cell_of_row w p 1 _ _ _ h]; rfl, by rw [cell_of_row w p 2 _ _ _ h]; rfl⟩
theorem qcur_zero {S : QS} {e : Int} (h : qcur S e = 0) : e = S.epoch := by
  unfold qcur at h
  split at h
  · cases h
  · split at h
    · cases h
    · omega
theorem qtake_zero {S : QS} {e n : Int} (h : qtakeC S e n = 0) : 1 ≤ n ∧ n ≤ 64 ∧ e = S.epoch ∧ S.next + n ≤ 1048576 ∧ qtakeS S e n = ⟨S.epoch, S.next + n⟩ ∧ qtakeN S e n = S.next := by
  have h0 := h
  unfold qtakeC at h
  split at h
  · cases h
  · split at h
    · rename_i h1 h2; exact absurd h h2
    · split at h
      · cases h
      · rename_i h1 h2 h3
        exact ⟨by omega, by omega, qcur_zero (Classical.not_not.1 h2), by omega, by unfold qtakeS; rw [h0, if_pos rfl], by unfold qtakeN; rw [h0, if_pos rfl]⟩
theorem qtake_no {S : QS} {e n : Int} (h : qtakeC S e n ≠ 0) : qtakeS S e n = S ∧ qtakeN S e n = 0 := ⟨if_neg h, if_neg h⟩
theorem qraise_up {S : QS} (e n : Int) : S.next ≤ (qraiseS S e n).next ∧ (qraiseS S e n).epoch = S.epoch := by
  unfold qraiseS
  split
  · split
    · exact ⟨by simp only; omega, rfl⟩
    · exact ⟨Int.le_refl _, rfl⟩
  · exact ⟨Int.le_refl _, rfl⟩
theorem qset_zero {S : QS} {e n : Int} (h : qsetC S e n = 0) : qsetS S e n = ⟨e, n⟩ ∧ S.epoch < e ∧ 0 ≤ n := by
  have h0 := h
  unfold qsetC at h
  split at h
  · cases h
  · split at h
    · cases h
    · exact ⟨by unfold qsetS; rw [h0, if_pos rfl], by omega, by omega⟩
theorem qset_no {S : QS} {e n : Int} (h : qsetC S e n ≠ 0) : qsetS S e n = S := if_neg h

set_option maxHeartbeats 4000000 in
set_option maxRecDepth 100000 in
theorem seqOnce_walk (v : Value) (l : List QA) (w : World) (B : Nat → Prop) (h : QActs w B v l) :
    Calls Try.prog 4 #[v] w fun e w' => e = .returned (.bool true) ∧ Below w.heap.size w w' := by
  obtain ⟨ao, cap, rfl, l1, m1, _⟩ := h.val
  have HA := Lib.hid (alive12_any w)
  have HR := Lib.hid h
  obtain ⟨n, hn⟩ : ∃ n, n = l.length := ⟨_, rfl⟩
  rw [← hn]
  have HN := Lib.hid hn
  clear h l1 m1 hn
  go_enter Try.func4, Try.ntmps4
  go_wp2_with fail
  refine HA.out.mono ?_
  rintro e w1 ⟨rfl, hb1⟩
  have HB1 := Lib.hid hb1
  clear hb1
  by_cases g0 : (n : Int) > 100
  · go_wp2
    go_ret
    exact ⟨rfl, HB1.out⟩
  have HNW := Lib.hid (qnew_any w1)
  have hn1 : (n : Int) ≤ 100 := by omega
  clear g0
  go_wp2_with fail
  refine HNW.out.mono ?_
  rintro e w2 ⟨rfl, hs2, hb2⟩
  have HB2 : Hid (Below w.heap.size w w2) := Lib.hid (HB1.out.trans (hb2.mono HB1.out.size))
  have HPW : Hid (w.heap.size ≤ w1.heap.size) := Lib.hid HB1.out.size
  have HS2 := Lib.hid hs2
  obtain ⟨p, hp⟩ : ∃ p, p = w1.heap.size := ⟨_, rfl⟩
  rw [← hp] at HS2 HPW
  rw [← hp]
  clear hs2 hb2 hp
  go_wp2
  go_loopw [4, 6, 7, 8, 9, 18] (fun lv _ _ _ _ i wr => ∃ (k : Nat) (a : Int) (S : QS), k ≤ n ∧ i = .int .i64 (k : Int) ∧ lv = .int .i64 a ∧ Hid (0 ≤ a ∧ a ≤ S.next) ∧ QOk S ∧ Sq wr p S ∧ Below w.heap.size w wr)
    (fun _ _ _ _ _ i _ => n - (intOf i).toNat)
  case atStart => exact ⟨0, 0, ⟨0, 0⟩, Nat.zero_le _, rfl, rfl, Lib.hid ⟨by simp, by simp⟩, qok_zero, HS2.out, HB2.out⟩
  case round =>
    obtain ⟨k, a, S, hk, rfl, rfl, HAS, hok, hs, hb⟩ := hrel
    by_cases hlt : k < n
    · have hltl : k < l.length := by rw [← HN.out]; exact hlt
      obtain ⟨b, off, rfl, _, _, e0, e1, e2⟩ := (HN.out ▸ HR.out.old hb : QActs wr B _ l).at hltl
      obtain ⟨q, hq⟩ : ∃ q, q = l[k] := ⟨_, rfl⟩
      rw [← hq] at e0 e1 e2
      clear hq
      obtain ⟨kind, ep, nn⟩ := q
      have hlti : (k : Int) < n := by omega
      obtain ⟨W, hW⟩ : ∃ W, W = wr.alloc (.cells #[.int .i64 kind, .int .i64 ep, .int .i64 nn] 38) := ⟨_, rfl⟩
      have hbW : Below wr.heap.size wr W := by rw [hW]; exact (Below.refl _ _).alloc (Nat.le_refl _) _
      have hxW : W.heap[wr.heap.size]? = some (.cells #[.int .i64 kind, .int .i64 ep, .int .i64 nn] 38 (0, 0)) := by rw [hW]; exact heap_alloc_new _ _
      have HBW : Hid (Below w.heap.size w W) := Lib.hid (hb.trans (hbW.mono hb.size))
      have hsW := hs.old hbW
      have HSW := Lib.hid hsW
      have HNE : Hid (p ≠ wr.heap.size) := Lib.hid (by have := hs.lt; omega)
      have HOK := Lib.hid hok
      have HEP := Lib.hid (qepoch_any hsW)
      have HTK := Lib.hid (qtake_any hsW hok ep nn)
      have HRA := Lib.hid (qraise_any hsW ep nn)
      have HSE := Lib.hid (qset_any hsW ep nn)
      obtain ⟨b0, b1, b2⟩ := three_cellsQ hxW
      rw [hW] at b0 b1 b2
      have HXW := Lib.hid hxW
      have HW := Lib.hid hW
      have HKL : Hid (k ≤ n) := Lib.hid hk
      clear hltl hs hb hbW hxW hsW hW hok
      simp only at e0 e1 e2
      go_wp2_with fail
      rw [← HW.out]
      refine HEP.out.mono ?_
      rintro e w3 ⟨rfl, rfl⟩
      obtain ⟨b0, b1, b2⟩ := three_cellsQ HXW.out
      cases z2 : ((IntKind.u64.wrap kind).tmod 4 == 2)
      rotate_left
      · -- raised
        go_wp2_with fail
        refine HRA.out.mono ?_
        rintro e w4 ⟨rfl, hs4, hg4⟩
        have HE4 := Lib.hid (qepoch_any hs4)
        have HS4 := Lib.hid hs4
        have HB4 : Hid (Below w.heap.size w w4) := Lib.hid (HBW.out.grown hg4 HBW.out.size fun j hj => by cases hj; exact HPW.out)
        have hup := qraise_up (S := S) ep nn
        rw [hup.2] at HE4
        have HUP := Lib.hid hup
        clear hs4 hg4 hup
        go_wp2_with fail
        refine HE4.out.mono ?_
        rintro e w5 ⟨rfl, rfl⟩
        go_wp2
        go_roundw
        case rel => exact ⟨k + 1, a, qraiseS S ep nn, by omega, by go_num, rfl, Lib.hid ⟨HAS.out.1, Int.le_trans HAS.out.2 HUP.out.1⟩, qraise_ok HOK.out _ _, HS4.out, HB4.out⟩
        case measure => simp [intOf]; omega
      cases z3 : ((IntKind.u64.wrap kind).tmod 4 == 3)
      rotate_left
      · by_cases hc : qsetC S ep nn = 0
        · obtain ⟨x1, x2, x3⟩ := qset_zero hc
          rw [hc, x1, errV_zero] at HSE
          have x4 : ¬ ep < S.epoch := by omega
          have HQ : Hid (QOk ⟨ep, nn⟩) := Lib.hid (by have := qset_ok HOK.out ep nn; rwa [x1] at this)
          clear hc x1
          go_wp2_with fail
          refine HSE.out.mono ?_
          rintro e w4 ⟨rfl, hs4, hg4⟩
          have HE4 := Lib.hid (qepoch_any hs4)
          have HS4 := Lib.hid hs4
          have HB4 : Hid (Below w.heap.size w w4) := Lib.hid (HBW.out.grown hg4 HBW.out.size fun j hj => by cases hj; exact HPW.out)
          have hblk : w4.heap[wr.heap.size]? = _ := (hg4.block _ (Array.getElem?_eq_some_iff.1 HXW.out).1 (fun e => HNE.out (by simpa using e.symm))).trans HXW.out
          obtain ⟨b0, b1, b2⟩ := three_cellsQ hblk
          clear hs4 hg4 hblk
          go_wp2_with fail
          refine HE4.out.mono ?_
          rintro e w5 ⟨rfl, rfl⟩
          go_wp2
          go_roundw
          case rel => exact ⟨k + 1, nn, ⟨ep, nn⟩, by omega, by go_num, rfl, Lib.hid ⟨x3, Int.le_refl _⟩, HQ.out, HS4.out, HB4.out⟩
          case measure => simp [intOf]; omega
        · have x1 := qset_no hc
          rw [x1, errV_pos hc] at HSE
          clear hc x1
          go_wp2_with fail
          refine HSE.out.mono ?_
          rintro e w4 ⟨rfl, hs4, hg4⟩
          have HE4 := Lib.hid (qepoch_any hs4)
          have HS4 := Lib.hid hs4
          have HB4 : Hid (Below w.heap.size w w4) := Lib.hid (HBW.out.grown hg4 HBW.out.size fun j hj => by cases hj; exact HPW.out)
          clear hs4 hg4
          go_wp2_with fail
          refine HE4.out.mono ?_
          rintro e w5 ⟨rfl, rfl⟩
          go_wp2
          go_roundw
          case rel => exact ⟨k + 1, a, S, by omega, by go_num, rfl, HAS, HOK.out, HS4.out, HB4.out⟩
          case measure => simp [intOf]; omega
      by_cases hc : qtakeC S ep nn = 0
      · obtain ⟨x1, x2, rfl, x4, x5, x6⟩ := qtake_zero hc
        rw [hc, x5, x6, errV_zero] at HTK
        have HQ : Hid (QOk ⟨S.epoch, S.next + nn⟩) := Lib.hid (by have := qtake_ok HOK.out S.epoch nn; rwa [x5] at this)
        have y1 : ¬ S.next < a := by have := HAS.out; omega
        have y2 : 0 ≤ S.next := HOK.out.2.2.1
        have hsum : wrap64 (S.next + nn) = S.next + nn := by simp only [wrap64]; omega
        clear hc x5 x6
        go_wp2_with fail
        refine HTK.out.mono ?_
        rintro e w4 ⟨rfl, hs4, hg4⟩
        have HE4 := Lib.hid (qepoch_any hs4)
        have HS4 := Lib.hid hs4
        have HB4 : Hid (Below w.heap.size w w4) := Lib.hid (HBW.out.grown hg4 HBW.out.size fun j hj => by cases hj; exact HPW.out)
        have hblk : w4.heap[wr.heap.size]? = _ := (hg4.block _ (Array.getElem?_eq_some_iff.1 HXW.out).1 (fun e => HNE.out (by simpa using e.symm))).trans HXW.out
        obtain ⟨b0, b1, b2⟩ := three_cellsQ hblk
        clear hs4 hg4 hblk
        go_wp2_with fail
        refine HE4.out.mono ?_
        rintro e w5 ⟨rfl, rfl⟩
        go_wp2
        go_roundw
        case rel => exact ⟨k + 1, S.next + nn, ⟨S.epoch, S.next + nn⟩, by omega, by go_num, by first | rfl | rw [hsum], Lib.hid ⟨by omega, Int.le_refl _⟩, HQ.out, HS4.out, HB4.out⟩
        case measure => simp [intOf]; omega
      · have x1 := qtake_no hc
        rw [x1.1, errV_pos hc] at HTK
        clear hc x1
        go_wp2_with fail
        refine HTK.out.mono ?_
        rintro e w4 ⟨rfl, hs4, hg4⟩
        have HE4 := Lib.hid (qepoch_any hs4)
        have HS4 := Lib.hid hs4
        have HB4 : Hid (Below w.heap.size w w4) := Lib.hid (HBW.out.grown hg4 HBW.out.size fun j hj => by cases hj; exact HPW.out)
        clear hs4 hg4
        go_wp2_with fail
        refine HE4.out.mono ?_
        rintro e w5 ⟨rfl, rfl⟩
        go_wp2
        go_roundw
        case rel => exact ⟨k + 1, a, S, by omega, by go_num, rfl, HAS, HOK.out, HS4.out, HB4.out⟩
        case measure => simp [intOf]; omega
    · have HB := Lib.hid hb
      clear hs hb hok
      go_wp2
      go_ret
      exact ⟨rfl, HB.out⟩

end Go.Proofs.Ytjbodokligpcaaa
