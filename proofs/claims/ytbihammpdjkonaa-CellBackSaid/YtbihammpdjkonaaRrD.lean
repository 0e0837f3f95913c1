/- The contracts of the document's own reader: TextOf, ListOf. -/
import Derived.Test.YtbihammpdjkonaaRrC
namespace Go.Proofs.Ytbihammpdjkonaa
open Go.RowKit

def RTextPost (B : Nat) (rest : List Nat) (c : Nat) (most : Int) (w : World) (e : Ending) (w' : World) : Prop :=
  ∃ (ov : Value) (out : List Nat) (ao : Option Addr) (cap : Nat) (rest' : List Nat) (c' n : Nat) (rest1 : List Nat) (c1 : Nat), e = .returned (.tuple #[ov, .agg #[.slice ao rest'.length cap, .int .i64 (c' : Int)]]) ∧
    NumRel rest c n rest1 c1 ∧ FixRel rest1 (manyC n c1 most) (manyR n most : Nat) out rest' c' ∧ RdU w' B ov out ∧ RdU w' B (.slice ao rest'.length cap) rest' ∧ Below w.heap.size w w'

set_option maxHeartbeats 1000000 in
set_option maxRecDepth 100000 in
theorem rtext_any (B : Nat) (ao : Option Addr) (cap : Nat) (rest : List Nat) (c : Nat) (most : Int) (hm1 : -9223372036854775808 ≤ most) (hm2 : most ≤ 9223372036854775807) (w : World) (hBs : B ≤ w.heap.size) (hru : RdU w B (.slice ao rest.length cap) rest) (hb : ∀ y ∈ rest, y < 256) :
    Calls Try.prog 51 #[.agg #[.slice ao rest.length cap, .int .i64 (c : Int)], .int .i64 most] w (RTextPost B rest c most w) := by
  go_enter Try.func51, Try.ntmps51
  go_wp2_with fail
  refine (rcount_any B ao cap rest c most hm1 hm2 _ (by simp; omega) (hru.below (((Below.refl _ _).alloc (by omega) _).alloc (by simp; omega) _)) hb).mono ?_
  rintro e w1 ⟨n, ao1, cap1, rest1, c1, rfl, hn, hr1, hb1⟩
  have hbw : Below w.heap.size w w1 := (((Below.refl _ _).alloc (Nat.le_refl _) _).alloc (by simp) _).trans (hb1.mono (by simp; omega))
  obtain ⟨B1, B2⟩ := new2 hb1
  obtain ⟨g1, g2, f1, f2⟩ := blk2 B1
  have hz : w.heap.size + 1 < w1.heap.size := by have := hb1.size; simp at this; omega
  have hz0 : w.heap.size < w1.heap.size := by omega
  have HN := Lib.hid hn
  have HB2 := Lib.hid B2
  clear hb1 B1 B2 hn hru hb
  generalize hmr : manyR n most = mr at *
  generalize hmc : manyC n c1 most = mc at *
  have HMR := Lib.hid hmr
  have HMC := Lib.hid hmc
  clear hmr hmc
  go_wp2_with fail
  refine (rfixed_any B ao1 cap1 rest1 mc (mr : Int) _ (by simp; omega) (hr1.below (((Below.refl _ _).setCell (by simp; omega) _).setCell (by simp; omega) _))).mono ?_
  rintro e w2 ⟨ov, out, ao2, cap2, rest2, c2, rfl, hf, ho2, hr2, hb2⟩
  have hbw2 : Below w.heap.size w w2 := ((hbw.setCell (by simp) _).setCell (by simp) _).trans (hb2.mono (by simp; omega))
  obtain ⟨k3, k4, e3, e4⟩ := blk2 (keep2 HB2.out hb2)
  have hz2 : w.heap.size + 1 < w2.heap.size := by have := hb2.size; simp at this; omega
  have HF := Lib.hid hf
  have HO2 := Lib.hid ho2
  have HR2 := Lib.hid hr2
  clear hb2 hbw g1 g2 f1 f2 hf ho2 hr2 hr1
  go_wp2
  refine bodyPost_ret (v := .tuple #[ov, .agg #[.slice ao2 rest2.length cap2, .int .i64 (c2 : Int)]]) (by simp [results, Try.results51, go_sem, k3, k4]) rfl ⟨ov, out, ao2, cap2, rest2, c2, n, rest1, c1, rfl, HN.out, by rw [HMC.out, HMR.out]; exact HF.out, HO2.out.below (by (repeat (first | exact Below.refl _ _ | assumption | (refine Below.setCell ?_ (by first | (simp; done) | (simp; omega)) _) | (refine Below.alloc ?_ (by first | (simp; done) | (simp; omega)) _) | (refine Below.drew ?_)))), HR2.out.below (by (repeat (first | exact Below.refl _ _ | assumption | (refine Below.setCell ?_ (by first | (simp; done) | (simp; omega)) _) | (refine Below.alloc ?_ (by first | (simp; done) | (simp; omega)) _) | (refine Below.drew ?_)))), by (repeat (first | exact Below.refl _ _ | assumption | (refine Below.setCell ?_ (by first | (simp; done) | (simp; omega)) _) | (refine Below.alloc ?_ (by first | (simp; done) | (simp; omega)) _) | (refine Below.drew ?_)))⟩

def RListPost (B : Nat) (rest : List Nat) (c : Nat) (most : Int) (w : World) (e : Ending) (w' : World) : Prop :=
  ∃ (ov : Value) (out : List Nat) (ao : Option Addr) (cap : Nat) (rest' : List Nat) (c' n : Nat) (rest1 : List Nat) (c1 : Nat), e = .returned (.tuple #[ov, .agg #[.slice ao rest'.length cap, .int .i64 (c' : Int)]]) ∧
    NumRel rest c n rest1 c1 ∧ RunRel rest1 (manyC n c1 most) (manyR n most) out rest' c' ∧ Owns w' w.heap.size 75 .u64 ov out ∧ RdU w' B (.slice ao rest'.length cap) rest' ∧ Below w.heap.size w w'

/-- A block that was made before a call is as it was behind it. -/
theorem blk_below {w w1 : World} {p : Nat} {o : Obj} (h : w.heap[p]? = some o) (hb : Below w.heap.size w w1) : w1.heap[p]? = some o := (hb.block p (Array.getElem?_eq_some_iff.1 h).1).trans h

/-- A block of two cells, both written. -/
theorem set2 {w : World} {p : Nat} {x0 y0 x y : Value} {t : TypeId} (h : w.heap[p]? = some (.cells #[x0, y0] t (0, 0))) : ((w.setCell ⟨p, 0, none⟩ x).setCell ⟨p, 1, none⟩ y).heap[p]? = some (.cells #[x, y] t (0, 0)) := by
  have h1 := heap_setCell_same w p 0 _ _ x h
  have h2 := heap_setCell_same _ p 1 _ _ y h1
  simpa using h2

theorem acc_len {r acc s : List Nat} (h : r = encs acc ++ s) : acc.length ≤ r.length := by
  have h1 : acc.length ≤ (encs acc).length := by
    clear h
    induction acc with
    | nil => simp
    | cons x a ih =>
      have e : encs (x :: a) = enc x ++ encs a := by simp [encs]
      have := enc_pos x
      rw [e, List.length_append, List.length_cons]; omega
  rw [h, List.length_append]; omega

end Go.Proofs.Ytbihammpdjkonaa
