/- Package seq: the document's own sequencer. -/
import Derived.Test.YtjbodokligpcaaaSqA
namespace Go.Proofs.Ytjbodokligpcaaa
open Go.RowKit


set_option maxHeartbeats 1000000 in
set_option maxRecDepth 100000 in
theorem rqcur_any (S : QS) (e : Int) (w : World) : Calls Try.prog 16 #[.agg #[.int .i64 S.epoch, .int .i64 S.next], .int .i64 e] w fun r w' => r = .returned (.int .i64 ((qcur S e : Nat) : Int)) ∧ Below w.heap.size w w' := by
  unfold qcur
  obtain ⟨ep, nx⟩ := S
  simp only
  by_cases h1 : e < ep
  · rw [if_pos h1]
    go_enter Try.func16, Try.ntmps16
    go_wp2
    go_ret
    exact ⟨rfl, by (repeat (first | exact Below.refl _ _ | assumption | (refine Below.setCell ?_ (by first | (simp; done) | (simp; omega)) _) | (refine Below.alloc ?_ (by first | (simp; done) | (simp; omega)) _) | (refine Below.drew ?_)))⟩
  · rw [if_neg h1]
    by_cases h2 : ep < e
    · rw [if_pos h2]
      go_enter Try.func16, Try.ntmps16
      go_wp2
      go_ret
      exact ⟨rfl, by (repeat (first | exact Below.refl _ _ | assumption | (refine Below.setCell ?_ (by first | (simp; done) | (simp; omega)) _) | (refine Below.alloc ?_ (by first | (simp; done) | (simp; omega)) _) | (refine Below.drew ?_)))⟩
    · rw [if_neg h2]
      go_enter Try.func16, Try.ntmps16
      go_wp2
      go_ret
      exact ⟨rfl, by (repeat (first | exact Below.refl _ _ | assumption | (refine Below.setCell ?_ (by first | (simp; done) | (simp; omega)) _) | (refine Below.alloc ?_ (by first | (simp; done) | (simp; omega)) _) | (refine Below.drew ?_)))⟩

/-- A struct of two cells that the function answers, and its parameter's box. -/
theorem q_new2 {w w1 : World} {o1 o2 : Obj} (hb : Below ((w.alloc o1).alloc o2).heap.size ((w.alloc o1).alloc o2) w1) : w1.heap[w.heap.size]? = some o1 ∧ w1.heap[w.heap.size + 1]? = some o2 := by
  have s1 : (w.alloc o1).heap.size = w.heap.size + 1 := by simp
  have h1 : ((w.alloc o1).alloc o2).heap[w.heap.size]? = some o1 := by
    rw [(Below.refl (w.alloc o1).heap.size (w.alloc o1)).alloc (Nat.le_refl _) o2 |>.block w.heap.size (by simp)]
    exact heap_alloc_new _ _
  have h2 : ((w.alloc o1).alloc o2).heap[w.heap.size + 1]? = some o2 := by
    have := heap_alloc_new (w.alloc o1) o2
    rwa [s1] at this
  exact ⟨(hb.block _ (by simp; omega)).trans h1, (hb.block _ (by simp)).trans h2⟩
theorem q_cells {w : World} {p : Nat} {a b : Value} {t : TypeId} (h : w.heap[p]? = some (.cells #[a, b] t (0, 0))) :
    w.cell? ⟨p, 0, none⟩ = some a ∧ w.cell? ⟨p, 1, none⟩ = some b ∧ w.frozen? ⟨p, 0, none⟩ = false ∧ w.frozen? ⟨p, 1, none⟩ = false :=
  ⟨by rw [cell_of_row w p 0 _ _ _ h]; rfl, by rw [cell_of_row w p 1 _ _ _ h]; rfl, frozen_of_row w p 0 _ _ h, frozen_of_row w p 1 _ _ h⟩

/-- Parameter and answer of a function of the document's, in their boxes. -/
structure QBox (w W : World) (S : QS) (x y : Value) : Prop where
  par : W.heap[w.heap.size]? = some (.cells #[.int .i64 S.epoch, .int .i64 S.next] 36 (0, 0))
  res : W.heap[w.heap.size + 1]? = some (.cells #[x, y] 36 (0, 0))
  low : Below w.heap.size w W
theorem QBox.old {w W W' : World} {S : QS} {x y : Value} (h : QBox w W S x y) (hb : Below W.heap.size W W') : QBox w W' S x y :=
  ⟨(hb.block _ (Array.getElem?_eq_some_iff.1 h.par).1).trans h.par, (hb.block _ (Array.getElem?_eq_some_iff.1 h.res).1).trans h.res, h.low.trans (hb.mono h.low.size)⟩
theorem QBox.x {w W : World} {S : QS} {x y : Value} (h : QBox w W S x y) : (W.cell? ⟨w.heap.size, 0, none⟩ = some (.int .i64 S.epoch) ∧ W.cell? ⟨w.heap.size, 1, none⟩ = some (.int .i64 S.next)) ∧
    W.cell? ⟨w.heap.size + 1, 0, none⟩ = some x ∧ W.cell? ⟨w.heap.size + 1, 1, none⟩ = some y ∧ W.frozen? ⟨w.heap.size, 0, none⟩ = false ∧ W.frozen? ⟨w.heap.size, 1, none⟩ = false ∧ W.frozen? ⟨w.heap.size + 1, 0, none⟩ = false ∧ W.frozen? ⟨w.heap.size + 1, 1, none⟩ = false := by
  obtain ⟨a, b, c, d⟩ := q_cells h.par
  obtain ⟨a', b', c', d'⟩ := q_cells h.res
  exact ⟨⟨a, b⟩, a', b', c, d, c', d'⟩
theorem qbox_new (w : World) (S : QS) : QBox w ((w.alloc (.cells #[.int .i64 S.epoch, .int .i64 S.next] 36)).alloc (.cells #[.int .i64 0, .int .i64 0] 36)) S (.int .i64 0) (.int .i64 0) := by
  obtain ⟨a, b⟩ := q_new2 (w := w) (Below.refl _ ((w.alloc (.cells #[.int .i64 S.epoch, .int .i64 S.next] 36)).alloc (.cells #[.int .i64 0, .int .i64 0] 36)))
  exact ⟨a, b, ((Below.refl _ _).alloc (Nat.le_refl _) _).alloc (by simp) _⟩

/-- What the document's Take, and Raise and Set, answer. -/
def QTakePost (S : QS) (e n : Int) (w : World) (r : Ending) (w' : World) : Prop :=
  r = .returned (.tuple #[.int .i64 (qtakeN S e n), .agg #[.int .i64 (qtakeS S e n).epoch, .int .i64 (qtakeS S e n).next], .int .i64 ((qtakeC S e n : Nat) : Int)]) ∧ Below w.heap.size w w'
theorem qtakePost_mk {S : QS} {e n : Int} {w w' : World} {N ep nx : Int} {C : Nat} {CI : Int} (hN : qtakeN S e n = N) (hS : qtakeS S e n = ⟨ep, nx⟩) (hC : qtakeC S e n = C) (hi : CI = (C : Int)) (hb : Below w.heap.size w w') :
    QTakePost S e n w (.returned (.tuple #[.int .i64 N, .agg #[.int .i64 ep, .int .i64 nx], .int .i64 CI])) w' := by
  unfold QTakePost
  rw [hN, hS, hC, hi]
  exact ⟨rfl, hb⟩
def QPost2 (T : QS) (C : Nat) (w : World) (r : Ending) (w' : World) : Prop := r = .returned (.tuple #[.agg #[.int .i64 T.epoch, .int .i64 T.next], .int .i64 (C : Int)]) ∧ Below w.heap.size w w'
theorem qpost2_mk {T : QS} {C : Nat} {w w' : World} {ep nx CI : Int} (hS : T = ⟨ep, nx⟩) (hi : CI = (C : Int)) (hb : Below w.heap.size w w') : QPost2 T C w (.returned (.tuple #[.agg #[.int .i64 ep, .int .i64 nx], .int .i64 CI])) w' := by
  unfold QPost2
  rw [hS, hi]
  exact ⟨rfl, hb⟩

set_option maxHeartbeats 2000000 in
set_option maxRecDepth 100000 in
theorem rqtake_any (S : QS) (hok : QOk S) (e n : Int) (w : World) : Calls Try.prog 17 #[.agg #[.int .i64 S.epoch, .int .i64 S.next], .int .i64 e, .int .i64 n] w (QTakePost S e n w) := by
  have hbx := qbox_new w S
  obtain ⟨W1, hW1⟩ : ∃ W1, W1 = ((w.alloc (.cells #[.int .i64 S.epoch, .int .i64 S.next] 36)).alloc (.cells #[.int .i64 0, .int .i64 0] 36)) := ⟨_, rfl⟩
  rw [← hW1] at hbx
  have HBX := Lib.hid hbx
  have HC := Lib.hid (rqcur_any S e W1)
  have HOK := Lib.hid hok
  clear hok hbx
  by_cases g1 : n < 1 ∨ n > 64
  · have HQ : Hid (qtakeC S e n = 1) := Lib.hid (by unfold qtakeC; rw [if_pos (by omega)])
    have HQS : Hid (qtakeS S e n = S) := Lib.hid (by unfold qtakeS; rw [HQ.out, if_neg (by decide)])
    have HQN : Hid (qtakeN S e n = 0) := Lib.hid (by unfold qtakeN; rw [HQ.out, if_neg (by decide)])
    obtain ⟨⟨p0, p1⟩, d0, d1, f0, f1, f2, f3⟩ := HBX.out.x
    obtain ⟨ep, nx⟩ := S
    simp only at p0 p1 hW1
    rcases g1 with g1 | g1
    · subst hW1
      go_enter Try.func17, Try.ntmps17
      go_wp2
      go_region
      all_goals (
        try go_wp2
        refine bodyPost_ret (v := .tuple #[.int .i64 0, .agg #[.int .i64 ep, .int .i64 nx], .int .i64 1]) (by simp [results, Try.results17, go_sem]) rfl (qtakePost_mk HQN.out HQS.out HQ.out rfl ?_)
        exact (by (repeat (first | exact Below.refl _ _ | assumption | (refine Below.setCell ?_ (by first | (simp; done) | (simp; omega)) _) | (refine Below.alloc ?_ (by first | (simp; done) | (simp; omega)) _) | (refine Below.drew ?_)))))
    · subst hW1
      go_enter Try.func17, Try.ntmps17
      go_wp2
      go_region
      all_goals (
        try go_wp2
        refine bodyPost_ret (v := .tuple #[.int .i64 0, .agg #[.int .i64 ep, .int .i64 nx], .int .i64 1]) (by simp [results, Try.results17, go_sem]) rfl (qtakePost_mk HQN.out HQS.out HQ.out rfl ?_)
        exact (by (repeat (first | exact Below.refl _ _ | assumption | (refine Below.setCell ?_ (by first | (simp; done) | (simp; omega)) _) | (refine Below.alloc ?_ (by first | (simp; done) | (simp; omega)) _) | (refine Below.drew ?_)))))
  have g1a : ¬ n < 1 := by omega
  have g1b : ¬ n > 64 := by omega
  by_cases g2 : qcur S e = 0
  rotate_left
  · have HQ : Hid (qtakeC S e n = qcur S e) := Lib.hid (by unfold qtakeC; rw [if_neg (by omega), if_pos g2])
    have HQS : Hid (qtakeS S e n = S) := Lib.hid (by unfold qtakeS; rw [HQ.out, if_neg g2])
    have HQN : Hid (qtakeN S e n = 0) := Lib.hid (by unfold qtakeN; rw [HQ.out, if_neg g2])
    obtain ⟨c, hc⟩ : ∃ c, c = qcur S e := ⟨_, rfl⟩
    rw [← hc] at HC HQ g2
    have hc0 : ((c : Int) != 0) = true := by rw [bne_iff_ne]; omega
    obtain ⟨⟨p0, p1⟩, _⟩ := HBX.out.x
    clear hc g1 g2
    obtain ⟨ep, nx⟩ := S
    simp only at p0 p1 hW1 HC
    subst hW1
    go_enter Try.func17, Try.ntmps17
    go_wp2_with fail
    refine HC.out.mono ?_
    rintro r w2 ⟨rfl, hb2⟩
    have hbx := HBX.out.old hb2
    have HLO := Lib.hid hbx.low
    obtain ⟨⟨p0, p1⟩, d0, d1, f0, f1, f2, f3⟩ := hbx.x
    clear hb2 hbx
    go_wp2
    go_region
    all_goals (
      try go_wp2
      refine bodyPost_ret (v := .tuple #[.int .i64 0, .agg #[.int .i64 ep, .int .i64 nx], .int .i64 (c : Int)]) (by simp [results, Try.results17, go_sem, d0, d1]) rfl (qtakePost_mk HQN.out HQS.out HQ.out rfl ?_)
      have hlo := HLO.out
      exact (by (repeat (first | exact Below.refl _ _ | assumption | (refine Below.setCell ?_ (by first | (simp; done) | (simp; omega)) _) | (refine Below.alloc ?_ (by first | (simp; done) | (simp; omega)) _) | (refine Below.drew ?_)))))
  rw [g2] at HC
  obtain ⟨k0, k1, k2, k3⟩ := HOK.out
  have hsum : wrap64 (S.next + n) = S.next + n := by simp only [wrap64]; omega
  by_cases g3 : S.next + n > 1048576
  · have HQ : Hid (qtakeC S e n = 5) := Lib.hid (by unfold qtakeC; rw [if_neg (by omega), if_neg (by simp [g2]), if_pos (by omega)])
    have HQS : Hid (qtakeS S e n = S) := Lib.hid (by unfold qtakeS; rw [HQ.out, if_neg (by decide)])
    have HQN : Hid (qtakeN S e n = 0) := Lib.hid (by unfold qtakeN; rw [HQ.out, if_neg (by decide)])
    obtain ⟨⟨p0, p1⟩, _⟩ := HBX.out.x
    clear g1 g2
    obtain ⟨ep, nx⟩ := S
    simp only at p0 p1 hW1 HC k0 k1 k2 k3 g3 hsum
    subst hW1
    go_enter Try.func17, Try.ntmps17
    go_wp2_with fail
    refine HC.out.mono ?_
    rintro r w2 ⟨rfl, hb2⟩
    have hbx := HBX.out.old hb2
    have HLO := Lib.hid hbx.low
    obtain ⟨⟨p0, p1⟩, d0, d1, f0, f1, f2, f3⟩ := hbx.x
    clear hb2 hbx
    go_wp2
    go_region
    all_goals (
      try go_wp2
      refine bodyPost_ret (v := .tuple #[.int .i64 0, .agg #[.int .i64 ep, .int .i64 nx], .int .i64 5]) (by simp [results, Try.results17, go_sem, d0, d1]) rfl (qtakePost_mk HQN.out HQS.out HQ.out rfl ?_)
      have hlo := HLO.out
      exact (by (repeat (first | exact Below.refl _ _ | assumption | (refine Below.setCell ?_ (by first | (simp; done) | (simp; omega)) _) | (refine Below.alloc ?_ (by first | (simp; done) | (simp; omega)) _) | (refine Below.drew ?_)))))
  · have HQ : Hid (qtakeC S e n = 0) := Lib.hid (by unfold qtakeC; rw [if_neg (by omega), if_neg (by simp [g2]), if_neg (by omega)])
    have HQS : Hid (qtakeS S e n = ⟨S.epoch, S.next + n⟩) := Lib.hid (by unfold qtakeS; rw [HQ.out, if_pos rfl])
    have HQN : Hid (qtakeN S e n = S.next) := Lib.hid (by unfold qtakeN; rw [HQ.out, if_pos rfl])
    obtain ⟨⟨p0, p1⟩, _⟩ := HBX.out.x
    clear g1 g2
    obtain ⟨ep, nx⟩ := S
    simp only at p0 p1 hW1 HC k0 k1 k2 k3 g3 hsum
    subst hW1
    go_enter Try.func17, Try.ntmps17
    go_wp2_with fail
    refine HC.out.mono ?_
    rintro r w2 ⟨rfl, hb2⟩
    have hbx := HBX.out.old hb2
    have HLO := Lib.hid hbx.low
    obtain ⟨⟨p0, p1⟩, d0, d1, f0, f1, f2, f3⟩ := hbx.x
    clear hb2 hbx
    go_wp2
    go_region
    all_goals (
      try go_wp2
      refine bodyPost_ret (v := .tuple #[.int .i64 nx, .agg #[.int .i64 ep, .int .i64 (nx + n)], .int .i64 0]) (by simp [results, Try.results17, go_sem, d0, d1]) rfl (qtakePost_mk HQN.out HQS.out HQ.out rfl ?_)
      have hlo := HLO.out
      exact (by (repeat (first | exact Below.refl _ _ | assumption | (refine Below.setCell ?_ (by first | (simp; done) | (simp; omega)) _) | (refine Below.alloc ?_ (by first | (simp; done) | (simp; omega)) _) | (refine Below.drew ?_)))))

set_option maxHeartbeats 2000000 in
set_option maxRecDepth 100000 in
theorem rqset_any (S : QS) (e n : Int) (w : World) : Calls Try.prog 15 #[.agg #[.int .i64 S.epoch, .int .i64 S.next], .int .i64 e, .int .i64 n] w (QPost2 (qsetS S e n) (qsetC S e n) w) := by
  have hbx := qbox_new w S
  obtain ⟨W1, hW1⟩ : ∃ W1, W1 = ((w.alloc (.cells #[.int .i64 S.epoch, .int .i64 S.next] 36)).alloc (.cells #[.int .i64 0, .int .i64 0] 36)) := ⟨_, rfl⟩
  rw [← hW1] at hbx
  have HBX := Lib.hid hbx
  clear hbx
  by_cases g : e < 0
  · have HQ : Hid (qsetC S e n = 1) := Lib.hid (by unfold qsetC; rw [if_pos (by omega)])
    have HQS : Hid (qsetS S e n = S) := Lib.hid (by unfold qsetS; rw [HQ.out, if_neg (by decide)])
    rw [HQ.out]
    obtain ⟨⟨p0, p1⟩, d0, d1, f0, f1, f2, f3⟩ := HBX.out.x
    obtain ⟨ep, nx⟩ := S
    simp only at p0 p1 hW1
    subst hW1
    go_enter Try.func15, Try.ntmps15
    go_wp2
    try go_region
    all_goals (
      try go_wp2
      refine bodyPost_ret (v := .tuple #[.agg #[.int .i64 ep, .int .i64 nx], .int .i64 1]) (by simp [results, Try.results15, go_sem]) rfl (qpost2_mk HQS.out rfl ?_)
      exact (by (repeat (first | exact Below.refl _ _ | assumption | (refine Below.setCell ?_ (by first | (simp; done) | (simp; omega)) _) | (refine Below.alloc ?_ (by first | (simp; done) | (simp; omega)) _) | (refine Below.drew ?_)))))
  have g1 := g
  clear g
  by_cases g : e > 1099511627776
  · have HQ : Hid (qsetC S e n = 1) := Lib.hid (by unfold qsetC; rw [if_pos (by omega)])
    have HQS : Hid (qsetS S e n = S) := Lib.hid (by unfold qsetS; rw [HQ.out, if_neg (by decide)])
    rw [HQ.out]
    obtain ⟨⟨p0, p1⟩, d0, d1, f0, f1, f2, f3⟩ := HBX.out.x
    obtain ⟨ep, nx⟩ := S
    simp only at p0 p1 hW1
    subst hW1
    go_enter Try.func15, Try.ntmps15
    go_wp2
    try go_region
    all_goals (
      try go_wp2
      refine bodyPost_ret (v := .tuple #[.agg #[.int .i64 ep, .int .i64 nx], .int .i64 1]) (by simp [results, Try.results15, go_sem]) rfl (qpost2_mk HQS.out rfl ?_)
      exact (by (repeat (first | exact Below.refl _ _ | assumption | (refine Below.setCell ?_ (by first | (simp; done) | (simp; omega)) _) | (refine Below.alloc ?_ (by first | (simp; done) | (simp; omega)) _) | (refine Below.drew ?_)))))
  have g2 := g
  clear g
  by_cases g : n < 0
  · have HQ : Hid (qsetC S e n = 1) := Lib.hid (by unfold qsetC; rw [if_pos (by omega)])
    have HQS : Hid (qsetS S e n = S) := Lib.hid (by unfold qsetS; rw [HQ.out, if_neg (by decide)])
    rw [HQ.out]
    obtain ⟨⟨p0, p1⟩, d0, d1, f0, f1, f2, f3⟩ := HBX.out.x
    obtain ⟨ep, nx⟩ := S
    simp only at p0 p1 hW1
    subst hW1
    go_enter Try.func15, Try.ntmps15
    go_wp2
    try go_region
    all_goals (
      try go_wp2
      refine bodyPost_ret (v := .tuple #[.agg #[.int .i64 ep, .int .i64 nx], .int .i64 1]) (by simp [results, Try.results15, go_sem]) rfl (qpost2_mk HQS.out rfl ?_)
      exact (by (repeat (first | exact Below.refl _ _ | assumption | (refine Below.setCell ?_ (by first | (simp; done) | (simp; omega)) _) | (refine Below.alloc ?_ (by first | (simp; done) | (simp; omega)) _) | (refine Below.drew ?_)))))
  have g3 := g
  clear g
  by_cases g : n > 1048576
  · have HQ : Hid (qsetC S e n = 1) := Lib.hid (by unfold qsetC; rw [if_pos (by omega)])
    have HQS : Hid (qsetS S e n = S) := Lib.hid (by unfold qsetS; rw [HQ.out, if_neg (by decide)])
    rw [HQ.out]
    obtain ⟨⟨p0, p1⟩, d0, d1, f0, f1, f2, f3⟩ := HBX.out.x
    obtain ⟨ep, nx⟩ := S
    simp only at p0 p1 hW1
    subst hW1
    go_enter Try.func15, Try.ntmps15
    go_wp2
    try go_region
    all_goals (
      try go_wp2
      refine bodyPost_ret (v := .tuple #[.agg #[.int .i64 ep, .int .i64 nx], .int .i64 1]) (by simp [results, Try.results15, go_sem]) rfl (qpost2_mk HQS.out rfl ?_)
      exact (by (repeat (first | exact Below.refl _ _ | assumption | (refine Below.setCell ?_ (by first | (simp; done) | (simp; omega)) _) | (refine Below.alloc ?_ (by first | (simp; done) | (simp; omega)) _) | (refine Below.drew ?_)))))
  have g4 := g
  clear g
  by_cases g : e ≤ S.epoch
  · have HQ : Hid (qsetC S e n = 6) := Lib.hid (by unfold qsetC; rw [if_neg (by omega), if_pos g])
    have HQS : Hid (qsetS S e n = S) := Lib.hid (by unfold qsetS; rw [HQ.out, if_neg (by decide)])
    rw [HQ.out]
    obtain ⟨⟨p0, p1⟩, d0, d1, f0, f1, f2, f3⟩ := HBX.out.x
    obtain ⟨ep, nx⟩ := S
    simp only at p0 p1 hW1 g
    subst hW1
    go_enter Try.func15, Try.ntmps15
    go_wp2
    try go_region
    all_goals (
      try go_wp2
      refine bodyPost_ret (v := .tuple #[.agg #[.int .i64 ep, .int .i64 nx], .int .i64 6]) (by simp [results, Try.results15, go_sem]) rfl (qpost2_mk HQS.out rfl ?_)
      exact (by (repeat (first | exact Below.refl _ _ | assumption | (refine Below.setCell ?_ (by first | (simp; done) | (simp; omega)) _) | (refine Below.alloc ?_ (by first | (simp; done) | (simp; omega)) _) | (refine Below.drew ?_)))))
  · have HQ : Hid (qsetC S e n = 0) := Lib.hid (by unfold qsetC; rw [if_neg (by omega), if_neg g])
    have HQS : Hid (qsetS S e n = ⟨e, n⟩) := Lib.hid (by unfold qsetS; rw [HQ.out, if_pos rfl])
    rw [HQ.out]
    obtain ⟨⟨p0, p1⟩, d0, d1, f0, f1, f2, f3⟩ := HBX.out.x
    obtain ⟨ep, nx⟩ := S
    simp only at p0 p1 hW1 g
    subst hW1
    go_enter Try.func15, Try.ntmps15
    go_wp2
    try go_region
    all_goals (
      try go_wp2
      refine bodyPost_ret (v := .tuple #[.agg #[.int .i64 e, .int .i64 n], .int .i64 0]) (by simp [results, Try.results15, go_sem]) rfl (qpost2_mk HQS.out rfl ?_)
      exact (by (repeat (first | exact Below.refl _ _ | assumption | (refine Below.setCell ?_ (by first | (simp; done) | (simp; omega)) _) | (refine Below.alloc ?_ (by first | (simp; done) | (simp; omega)) _) | (refine Below.drew ?_)))))

set_option maxHeartbeats 2000000 in
set_option maxRecDepth 100000 in
theorem rqraise_any (S : QS) (e n : Int) (w : World) : Calls Try.prog 14 #[.agg #[.int .i64 S.epoch, .int .i64 S.next], .int .i64 e, .int .i64 n] w (QPost2 (qraiseS S e n) (qraiseC S e n) w) := by
  have hbx := qbox_new w S
  obtain ⟨W1, hW1⟩ : ∃ W1, W1 = ((w.alloc (.cells #[.int .i64 S.epoch, .int .i64 S.next] 36)).alloc (.cells #[.int .i64 0, .int .i64 0] 36)) := ⟨_, rfl⟩
  rw [← hW1] at hbx
  have HBX := Lib.hid hbx
  have HC := Lib.hid (rqcur_any S e W1)
  clear hbx
  by_cases g : n < 0
  · have HQ : Hid (qraiseC S e n = 1) := Lib.hid (by unfold qraiseC; rw [if_pos (by omega)])
    have HQS : Hid (qraiseS S e n = S) := Lib.hid (by unfold qraiseS; rw [HQ.out, if_neg (by decide)])
    rw [HQ.out]
    obtain ⟨⟨p0, p1⟩, d0, d1, f0, f1, f2, f3⟩ := HBX.out.x
    obtain ⟨ep, nx⟩ := S
    simp only at p0 p1 hW1 HC
    subst hW1
    go_enter Try.func14, Try.ntmps14
    go_wp2
    try go_region
    all_goals (
      try go_wp2
      refine bodyPost_ret (v := .tuple #[.agg #[.int .i64 ep, .int .i64 nx], .int .i64 1]) (by simp [results, Try.results14, go_sem]) rfl (qpost2_mk HQS.out rfl ?_)
      exact (by (repeat (first | exact Below.refl _ _ | assumption | (refine Below.setCell ?_ (by first | (simp; done) | (simp; omega)) _) | (refine Below.alloc ?_ (by first | (simp; done) | (simp; omega)) _) | (refine Below.drew ?_)))))
  have g3 := g
  clear g
  by_cases g : n > 1048576
  · have HQ : Hid (qraiseC S e n = 1) := Lib.hid (by unfold qraiseC; rw [if_pos (by omega)])
    have HQS : Hid (qraiseS S e n = S) := Lib.hid (by unfold qraiseS; rw [HQ.out, if_neg (by decide)])
    rw [HQ.out]
    obtain ⟨⟨p0, p1⟩, d0, d1, f0, f1, f2, f3⟩ := HBX.out.x
    obtain ⟨ep, nx⟩ := S
    simp only at p0 p1 hW1 HC
    subst hW1
    go_enter Try.func14, Try.ntmps14
    go_wp2
    try go_region
    all_goals (
      try go_wp2
      refine bodyPost_ret (v := .tuple #[.agg #[.int .i64 ep, .int .i64 nx], .int .i64 1]) (by simp [results, Try.results14, go_sem]) rfl (qpost2_mk HQS.out rfl ?_)
      exact (by (repeat (first | exact Below.refl _ _ | assumption | (refine Below.setCell ?_ (by first | (simp; done) | (simp; omega)) _) | (refine Below.alloc ?_ (by first | (simp; done) | (simp; omega)) _) | (refine Below.drew ?_)))))
  have g4 := g
  clear g
  have HQ : Hid (qraiseC S e n = qcur S e) := Lib.hid (by unfold qraiseC; rw [if_neg (by omega)])
  by_cases g2 : qcur S e = 0
  rotate_left
  · have HQS : Hid (qraiseS S e n = S) := Lib.hid (by unfold qraiseS; rw [HQ.out, if_neg g2])
    obtain ⟨c, hc⟩ : ∃ c, c = qcur S e := ⟨_, rfl⟩
    rw [← hc] at HC HQ g2
    have hc0 : ((c : Int) != 0) = true := by rw [bne_iff_ne]; omega
    rw [HQ.out]
    clear hc g2
    obtain ⟨⟨p0, p1⟩, d0, d1, f0, f1, f2, f3⟩ := HBX.out.x
    obtain ⟨ep, nx⟩ := S
    simp only at p0 p1 hW1 HC
    subst hW1
    go_enter Try.func14, Try.ntmps14
    go_wp2_with fail
    refine HC.out.mono ?_
    rintro r w2 ⟨rfl, hb2⟩
    have hbx := HBX.out.old hb2
    have HLO := Lib.hid hbx.low
    obtain ⟨⟨p0, p1⟩, d0, d1, f0, f1, f2, f3⟩ := hbx.x
    clear hb2 hbx
    go_wp2
    try go_region
    all_goals (
      try go_wp2
      refine bodyPost_ret (v := .tuple #[.agg #[.int .i64 ep, .int .i64 nx], .int .i64 (c : Int)]) (by simp [results, Try.results14, go_sem, d0, d1]) rfl (qpost2_mk HQS.out rfl ?_)
      have hlo := HLO.out
      exact (by (repeat (first | exact Below.refl _ _ | assumption | (refine Below.setCell ?_ (by first | (simp; done) | (simp; omega)) _) | (refine Below.alloc ?_ (by first | (simp; done) | (simp; omega)) _) | (refine Below.drew ?_)))))
  rw [g2] at HC HQ
  rw [HQ.out]
  by_cases g5 : n > S.next
  · have HQS : Hid (qraiseS S e n = ⟨S.epoch, n⟩) := Lib.hid (by unfold qraiseS; rw [HQ.out, if_pos rfl, if_pos (by omega)])
    clear g2
    obtain ⟨⟨p0, p1⟩, d0, d1, f0, f1, f2, f3⟩ := HBX.out.x
    obtain ⟨ep, nx⟩ := S
    simp only at p0 p1 hW1 HC g5
    subst hW1
    go_enter Try.func14, Try.ntmps14
    go_wp2_with fail
    refine HC.out.mono ?_
    rintro r w2 ⟨rfl, hb2⟩
    have hbx := HBX.out.old hb2
    have HLO := Lib.hid hbx.low
    obtain ⟨⟨p0, p1⟩, d0, d1, f0, f1, f2, f3⟩ := hbx.x
    clear hb2 hbx
    go_wp2
    try go_region
    all_goals (
      try go_wp2
      refine bodyPost_ret (v := .tuple #[.agg #[.int .i64 ep, .int .i64 n], .int .i64 0]) (by simp [results, Try.results14, go_sem, d0, d1]) rfl (qpost2_mk HQS.out rfl ?_)
      have hlo := HLO.out
      exact (by (repeat (first | exact Below.refl _ _ | assumption | (refine Below.setCell ?_ (by first | (simp; done) | (simp; omega)) _) | (refine Below.alloc ?_ (by first | (simp; done) | (simp; omega)) _) | (refine Below.drew ?_)))))
  · have HQS : Hid (qraiseS S e n = S) := Lib.hid (by unfold qraiseS; rw [HQ.out, if_pos rfl, if_neg (by omega)])
    clear g2
    obtain ⟨⟨p0, p1⟩, d0, d1, f0, f1, f2, f3⟩ := HBX.out.x
    obtain ⟨ep, nx⟩ := S
    simp only at p0 p1 hW1 HC g5
    subst hW1
    go_enter Try.func14, Try.ntmps14
    go_wp2_with fail
    refine HC.out.mono ?_
    rintro r w2 ⟨rfl, hb2⟩
    have hbx := HBX.out.old hb2
    have HLO := Lib.hid hbx.low
    obtain ⟨⟨p0, p1⟩, d0, d1, f0, f1, f2, f3⟩ := hbx.x
    clear hb2 hbx
    go_wp2
    try go_region
    all_goals (
      try go_wp2
      refine bodyPost_ret (v := .tuple #[.agg #[.int .i64 ep, .int .i64 nx], .int .i64 0]) (by simp [results, Try.results14, go_sem, d0, d1]) rfl (qpost2_mk HQS.out rfl ?_)
      have hlo := HLO.out
      exact (by (repeat (first | exact Below.refl _ _ | assumption | (refine Below.setCell ?_ (by first | (simp; done) | (simp; omega)) _) | (refine Below.alloc ?_ (by first | (simp; done) | (simp; omega)) _) | (refine Below.drew ?_)))))

end Go.Proofs.Ytjbodokligpcaaa
