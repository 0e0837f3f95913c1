/- The contracts of the document's own reader: Within, count, Fixed. -/
import Derived.Test.YtbihammpdjkonaaRrA
namespace Go.Proofs.Ytbihammpdjkonaa
open Go.RowKit

/-- What Within of the document's reader hands back. -/
def RWithinPost (B : Nat) (rest : List Nat) (c most : Nat) (w : World) (e : Ending) (w' : World) : Prop :=
  ∃ (n : Nat) (ao : Option Addr) (cap : Nat) (rest' : List Nat) (c1 : Nat), e = .returned (.tuple #[.int .i64 ((withinR n most : Nat) : Int), .agg #[.slice ao rest'.length cap, .int .i64 ((withinC n c1 most : Nat) : Int)]]) ∧
    NumRel rest c n rest' c1 ∧ RdU w' B (.slice ao rest'.length cap) rest' ∧ Below w.heap.size w w'

theorem rwithin_fin {B : Nat} {rest rest' : List Nat} {c c1 n most cap : Nat} {ao : Option Addr} {N C : Int} {w w1 w' : World} (hB : Below w.heap.size w w') (hb1 : Below B w1 w') (hr : RdU w1 B (.slice ao rest'.length cap) rest') (hN : N = ((withinR n most : Nat) : Int)) (hC : C = ((withinC n c1 most : Nat) : Int)) (h : NumRel rest c n rest' c1) :
    RWithinPost B rest c most w (.returned (.tuple #[.int .i64 N, .agg #[.slice ao rest'.length cap, .int .i64 C]])) w' := by
  subst hN hC
  exact ⟨n, ao, cap, rest', c1, rfl, h, hr.below hb1, hB⟩

/-- The second of two new blocks, behind a struct's store into the first and a call. -/
theorem keep2 {w1 w2 : World} {p : Nat} {x y : Value} {o : Obj} (h : w1.heap[p + 1]? = some o) (hb : Below ((w1.setCell ⟨p, 0, none⟩ x).setCell ⟨p, 1, none⟩ y).heap.size ((w1.setCell ⟨p, 0, none⟩ x).setCell ⟨p, 1, none⟩ y) w2) : w2.heap[p + 1]? = some o := by
  have hlt := (Array.getElem?_eq_some_iff.1 h).1
  rw [hb.block (p + 1) (by simpa using hlt), heap_setCell_other _ _ _ _ (by simp), heap_setCell_other _ _ _ _ (by simp)]
  exact h

set_option maxHeartbeats 1000000 in
set_option maxRecDepth 100000 in
theorem rwithin_any (B : Nat) (ao : Option Addr) (cap : Nat) (rest : List Nat) (c most : Nat) (w : World) (hBs : B ≤ w.heap.size) (hru : RdU w B (.slice ao rest.length cap) rest) (hb : ∀ y ∈ rest, y < 256) :
    Calls Try.prog 50 #[.agg #[.slice ao rest.length cap, .int .i64 (c : Int)], .int .u64 (most : Int)] w (RWithinPost B rest c most w) := by
  go_enter Try.func50, Try.ntmps50
  go_wp2_with fail
  refine (rnumber_any B ao cap rest c _ (by simp; omega) (hru.below (((Below.refl _ _).alloc (by omega) _).alloc (by simp; omega) _)) hb).mono ?_
  rintro e w1 ⟨n, ao1, cap1, rest1, c1, rfl, hn, hr1, hb1⟩
  have hbw : Below w.heap.size w w1 := (((Below.refl _ _).alloc (Nat.le_refl _) _).alloc (by simp) _).trans (hb1.mono (by simp; omega))
  obtain ⟨B1, B2⟩ := new2 hb1
  obtain ⟨g1, g2, f1, f2⟩ := blk2 B1
  obtain ⟨g3, g4, f3, f4⟩ := blk2 B2
  have hz : w.heap.size + 1 < w1.heap.size := by have := hb1.size; simp at this; omega
  have hz0 : w.heap.size < w1.heap.size := by omega
  have HN := Lib.hid hn
  have HR1 := Lib.hid hr1
  have HB2 := Lib.hid B2
  clear hb1 B1 B2 hn hr1 hru hb
  obtain ⟨N, hN⟩ : ∃ N : Int, N = (n : Int) := ⟨_, rfl⟩
  obtain ⟨M, hM⟩ : ∃ M : Int, M = (most : Int) := ⟨_, rfl⟩
  have hN0 : 0 ≤ N := by omega
  rw [← hN, ← hM]
  have HNN := Lib.hid hN
  by_cases hbad : M < N ∨ 4611686018427387904 < N
  · have HB : Hid (most < n ∨ 4611686018427387904 < n) := by show _ ∨ _; omega
    clear hN hM
    by_cases hm : M < N
    · clear hbad
      go_wp2_with fail
      refine (rfail_any ao1 rest1.length cap1 c1 1 _).mono ?_
      rintro e w2 ⟨rfl, hb2⟩
      have hbw2 : Below w.heap.size w w2 := ((hbw.setCell (by simp) _).setCell (by simp) _).trans (hb2.mono (by simp; omega))
      have hb12 : Below B w1 w2 := (((Below.refl _ _).setCell (by simp; omega) _).setCell (by simp; omega) _).trans (hb2.mono (by simp; omega))
      obtain ⟨k3, k4, e3, e4⟩ := blk2 (keep2 HB2.out hb2)
      clear hb2 hbw g1 g2 g3 g4 f1 f2 f3 f4
      generalize hcx : (if c1 = 0 then 1 else c1) = cx at *
      have HCX := Lib.hid hcx
      clear hcx
      go_wp2
      exact bodyPost_ret (v := .tuple #[.int .i64 0, .agg #[.slice ao1 rest1.length cap1, .int .i64 (cx : Int)]]) (by simp [results, Try.results50, go_sem, k3, k4]) rfl (rwithin_fin (w1 := w1) (by (repeat (first | exact Below.refl _ _ | assumption | (refine Below.setCell ?_ (by first | (simp; done) | (simp; omega)) _) | (refine Below.alloc ?_ (by first | (simp; done) | (simp; omega)) _) | (refine Below.drew ?_)))) (by (repeat (first | exact Below.refl _ _ | assumption | (refine Below.setCell ?_ (by first | (simp; done) | (simp; omega)) _) | (refine Below.alloc ?_ (by first | (simp; done) | (simp; omega)) _) | (refine Below.drew ?_)))) HR1.out (by rw [(within_bad (c := c1) HB.out).1]; rfl) (by rw [(within_bad HB.out).2, HCX.out]) HN.out)
    · have h2 : 4611686018427387904 < N := by omega
      have h1 : N ≤ M := by omega
      clear hbad hm
      go_wp2_with fail
      refine (rfail_any ao1 rest1.length cap1 c1 1 _).mono ?_
      rintro e w2 ⟨rfl, hb2⟩
      have hbw2 : Below w.heap.size w w2 := ((hbw.setCell (by simp) _).setCell (by simp) _).trans (hb2.mono (by simp; omega))
      have hb12 : Below B w1 w2 := (((Below.refl _ _).setCell (by simp; omega) _).setCell (by simp; omega) _).trans (hb2.mono (by simp; omega))
      obtain ⟨k3, k4, e3, e4⟩ := blk2 (keep2 HB2.out hb2)
      clear hb2 hbw g1 g2 g3 g4 f1 f2 f3 f4
      generalize hcx : (if c1 = 0 then 1 else c1) = cx at *
      have HCX := Lib.hid hcx
      clear hcx
      go_wp2
      exact bodyPost_ret (v := .tuple #[.int .i64 0, .agg #[.slice ao1 rest1.length cap1, .int .i64 (cx : Int)]]) (by simp [results, Try.results50, go_sem, k3, k4]) rfl (rwithin_fin (w1 := w1) (by (repeat (first | exact Below.refl _ _ | assumption | (refine Below.setCell ?_ (by first | (simp; done) | (simp; omega)) _) | (refine Below.alloc ?_ (by first | (simp; done) | (simp; omega)) _) | (refine Below.drew ?_)))) (by (repeat (first | exact Below.refl _ _ | assumption | (refine Below.setCell ?_ (by first | (simp; done) | (simp; omega)) _) | (refine Below.alloc ?_ (by first | (simp; done) | (simp; omega)) _) | (refine Below.drew ?_)))) HR1.out (by rw [(within_bad (c := c1) HB.out).1]; rfl) (by rw [(within_bad HB.out).2, HCX.out]) HN.out)
  · have HB : Hid (¬ (most < n ∨ 4611686018427387904 < n)) := by show ¬ _; omega
    have h1 : N ≤ M := by omega
    have h2 : N ≤ 4611686018427387904 := by omega
    clear hbad hN hM
    go_wp2
    go_region
    all_goals go_wp2
    all_goals exact bodyPost_ret (v := .tuple #[.int .i64 N, .agg #[.slice ao1 rest1.length cap1, .int .i64 (c1 : Int)]]) (by simp [results, Try.results50, go_sem, g3, g4]) rfl (rwithin_fin (w1 := w1) (by (repeat (first | exact Below.refl _ _ | assumption | (refine Below.setCell ?_ (by first | (simp; done) | (simp; omega)) _) | (refine Below.alloc ?_ (by first | (simp; done) | (simp; omega)) _) | (refine Below.drew ?_)))) (by (repeat (first | exact Below.refl _ _ | assumption | (refine Below.setCell ?_ (by first | (simp; done) | (simp; omega)) _) | (refine Below.alloc ?_ (by first | (simp; done) | (simp; omega)) _) | (refine Below.drew ?_)))) HR1.out (by rw [HNN.out, (within_good (c := c1) HB.out).1]) (by rw [(within_good HB.out).2]) HN.out)

end Go.Proofs.Ytbihammpdjkonaa
