/- The contracts of the document's own reader: TextOf, ListOf. -/
import Derived.Test.YtlaloddmlkkbgaaRrC
namespace Go.Proofs.Ytlaloddmlkkbgaa
open Go.RowKit

def RTextPost (B : Nat) (rest : List Nat) (c : Nat) (most : Int) (w : World) (e : Ending) (w' : World) : Prop :=
  ∃ (ov : Value) (out : List Nat) (ao : Option Addr) (cap : Nat) (rest' : List Nat) (c' n : Nat) (rest1 : List Nat) (c1 : Nat), e = .returned (.tuple #[ov, .agg #[.slice ao rest'.length cap, .int .i64 (c' : Int)]]) ∧
    NumRel rest c n rest1 c1 ∧ FixRel rest1 (manyC n c1 most) (manyR n most : Nat) out rest' c' ∧ RdU w' B ov out ∧ RdU w' B (.slice ao rest'.length cap) rest' ∧ Below w.heap.size w w'

set_option maxHeartbeats 1000000 in
set_option maxRecDepth 100000 in
theorem rtext_any (B : Nat) (ao : Option Addr) (cap : Nat) (rest : List Nat) (c : Nat) (most : Int) (hm1 : -9223372036854775808 ≤ most) (hm2 : most ≤ 9223372036854775807) (w : World) (hBs : B ≤ w.heap.size) (hru : RdU w B (.slice ao rest.length cap) rest) (hb : ∀ y ∈ rest, y < 256) :
    Calls Try.prog 60 #[.agg #[.slice ao rest.length cap, .int .i64 (c : Int)], .int .i64 most] w (RTextPost B rest c most w) := by
  go_enter Try.func60, Try.ntmps60
  go_wp2_with fail
  refine (rcount_any B ao cap rest c most hm1 hm2 _ (by simp; omega) (hru.below (((Below.refl _ _).alloc (by omega) _).alloc (by simp; omega) _)) hb).mono ?_
  rintro e w1 ⟨n, ao1, cap1, rest1, c1, rfl, hn, hr1, hb1⟩
  have hbw : Below w.heap.size w w1 := (((Below.refl _ _).alloc (Nat.le_refl _) _).alloc (by simp) _).trans (hb1.mono (by simp; omega))
  obtain ⟨B1, B2⟩ := new2 hb1
  obtain ⟨g1, g2, f1, f2⟩ := blk2 B1
  have hz : w.heap.size + 1 < w1.heap.size := by have := hb1.size; simp at this; omega
  have hz0 : w.heap.size < w1.heap.size := by omega
  have HN := Lib.hid hn
  have HB2 := Lib.hid B2
  clear hb1 B1 B2 hn hru hb
  generalize hmr : manyR n most = mr at *
  generalize hmc : manyC n c1 most = mc at *
  have HMR := Lib.hid hmr
  have HMC := Lib.hid hmc
  clear hmr hmc
  go_wp2_with fail
  refine (rfixed_any B ao1 cap1 rest1 mc (mr : Int) _ (by simp; omega) (hr1.below (((Below.refl _ _).setCell (by simp; omega) _).setCell (by simp; omega) _))).mono ?_
  rintro e w2 ⟨ov, out, ao2, cap2, rest2, c2, rfl, hf, ho2, hr2, hb2⟩
  have hbw2 : Below w.heap.size w w2 := ((hbw.setCell (by simp) _).setCell (by simp) _).trans (hb2.mono (by simp; omega))
  obtain ⟨k3, k4, e3, e4⟩ := blk2 (keep2 HB2.out hb2)
  have hz2 : w.heap.size + 1 < w2.heap.size := by have := hb2.size; simp at this; omega
  have HF := Lib.hid hf
  have HO2 := Lib.hid ho2
  have HR2 := Lib.hid hr2
  clear hb2 hbw g1 g2 f1 f2 hf ho2 hr2 hr1
  go_wp2
  refine bodyPost_ret (v := .tuple #[ov, .agg #[.slice ao2 rest2.length cap2, .int .i64 (c2 : Int)]]) (by simp [results, Try.results60, go_sem, k3, k4]) rfl ⟨ov, out, ao2, cap2, rest2, c2, n, rest1, c1, rfl, HN.out, by rw [HMC.out, HMR.out]; exact HF.out, HO2.out.below (by (repeat (first | exact Below.refl _ _ | assumption | (refine Below.setCell ?_ (by first | (simp; done) | (simp; omega)) _) | (refine Below.alloc ?_ (by first | (simp; done) | (simp; omega)) _) | (refine Below.drew ?_)))), HR2.out.below (by (repeat (first | exact Below.refl _ _ | assumption | (refine Below.setCell ?_ (by first | (simp; done) | (simp; omega)) _) | (refine Below.alloc ?_ (by first | (simp; done) | (simp; omega)) _) | (refine Below.drew ?_)))), by (repeat (first | exact Below.refl _ _ | assumption | (refine Below.setCell ?_ (by first | (simp; done) | (simp; omega)) _) | (refine Below.alloc ?_ (by first | (simp; done) | (simp; omega)) _) | (refine Below.drew ?_)))⟩

def RListPost (B : Nat) (rest : List Nat) (c : Nat) (most : Int) (w : World) (e : Ending) (w' : World) : Prop :=
  ∃ (ov : Value) (out : List Nat) (ao : Option Addr) (cap : Nat) (rest' : List Nat) (c' n : Nat) (rest1 : List Nat) (c1 : Nat), e = .returned (.tuple #[ov, .agg #[.slice ao rest'.length cap, .int .i64 (c' : Int)]]) ∧
    NumRel rest c n rest1 c1 ∧ RunRel rest1 (manyC n c1 most) (manyR n most) out rest' c' ∧ Owns w' w.heap.size 25 .u64 ov out ∧ RdU w' B (.slice ao rest'.length cap) rest' ∧ Below w.heap.size w w'

/-- A block that was made before a call is as it was behind it. -/
theorem blk_below {w w1 : World} {p : Nat} {o : Obj} (h : w.heap[p]? = some o) (hb : Below w.heap.size w w1) : w1.heap[p]? = some o := (hb.block p (Array.getElem?_eq_some_iff.1 h).1).trans h

/-- A block of two cells, both written. -/
theorem set2 {w : World} {p : Nat} {x0 y0 x y : Value} {t : TypeId} (h : w.heap[p]? = some (.cells #[x0, y0] t (0, 0))) : ((w.setCell ⟨p, 0, none⟩ x).setCell ⟨p, 1, none⟩ y).heap[p]? = some (.cells #[x, y] t (0, 0)) := by
  have h1 := heap_setCell_same w p 0 _ _ x h
  have h2 := heap_setCell_same _ p 1 _ _ y h1
  simpa using h2

theorem acc_len {r acc s : List Nat} (h : r = encs acc ++ s) : acc.length ≤ r.length := by
  have h1 : acc.length ≤ (encs acc).length := by
    clear h
    induction acc with
    | nil => simp
    | cons x a ih =>
      have e : encs (x :: a) = enc x ++ encs a := by simp [encs]
      have := enc_pos x
      rw [e, List.length_append, List.length_cons]; omega
  rw [h, List.length_append]; omega

set_option maxHeartbeats 2000000 in
set_option maxRecDepth 100000 in
theorem rlist_any (B : Nat) (ao : Option Addr) (cap : Nat) (rest : List Nat) (c : Nat) (most : Int) (hm1 : -9223372036854775808 ≤ most) (hm2 : most ≤ 9223372036854775807) (w : World) (hBs : B ≤ w.heap.size) (hru : RdU w B (.slice ao rest.length cap) rest) (hb : ∀ y ∈ rest, y < 256) (hlen : rest.length ≤ 10000000000000) :
    Calls Try.prog 61 #[.agg #[.slice ao rest.length cap, .int .i64 (c : Int)], .int .i64 most] w (RListPost B rest c most w) := by
  go_enter Try.func61, Try.ntmps61
  go_wp2_with fail
  refine (rcount_any B ao cap rest c most hm1 hm2 _ (by simp; omega) (hru.below (((Below.refl _ _).alloc (by omega) _).alloc (by simp; omega) _)) hb).mono ?_
  rintro e w1 ⟨n, ao1, cap1, rest1, c1, rfl, hn, hr1, hb1⟩
  have hbw : Below w.heap.size w w1 := (((Below.refl _ _).alloc (Nat.le_refl _) _).alloc (by simp) _).trans (hb1.mono (by simp; omega))
  obtain ⟨B1, B2⟩ := new2 hb1
  obtain ⟨g1, g2, f1, f2⟩ := blk2 B1
  have hz : w.heap.size + 1 < w1.heap.size := by have := hb1.size; simp at this; omega
  have hz0 : w.heap.size < w1.heap.size := by omega
  have hzr := fun h => manyR_zero (most := most) hn h
  have hmm := manyR_most (n := n) (most := most)
  have hl1 := hn.len
  have hb1' : ∀ y ∈ rest1, y < 256 := by
    rcases hn with ⟨_, _, rfl, _⟩ | ⟨_, _, h3, _⟩ | ⟨_, _, rfl, _⟩
    · exact hb
    · intro y hy; exact hb y (by rw [h3]; exact List.mem_append_right _ hy)
    · exact hb
  have HBY := Lib.hid hb1'
  have HN := Lib.hid hn
  have HB1 := Lib.hid B1
  have HB2 := Lib.hid B2
  generalize hmr : manyR n most = m at *
  generalize hmc : manyC n c1 most = c2 at *
  have HMR := Lib.hid hmr
  have HMC := Lib.hid hmc
  have HZ := Lib.hid hzr
  have hm63 : (m : Int) ≤ 9223372036854775807 := by
    rcases Nat.eq_zero_or_pos m with h0 | h0
    · omega
    · have := hmm h0; omega
  clear hmr hmc hzr hmm hb1 B1 B2 hn hru hb hb1'
  have hs0 := set2 (x := .slice ao1 rest1.length cap1) (y := .int .i64 (c2 : Int)) HB1.out
  have hs1 : (((w1.setCell ⟨w.heap.size, 0, none⟩ (.slice ao1 rest1.length cap1)).setCell ⟨w.heap.size, 1, none⟩ (.int .i64 (c2 : Int))).alloc (.cells #[] 25)).heap[w.heap.size]? = some (.cells #[.slice ao1 rest1.length cap1, .int .i64 (c2 : Int)] 57 (0, 0)) :=
    (Below.heap_alloc _ _ _ (by simp; omega)).trans hs0
  have hs2 : (((w1.setCell ⟨w.heap.size, 0, none⟩ (.slice ao1 rest1.length cap1)).setCell ⟨w.heap.size, 1, none⟩ (.int .i64 (c2 : Int))).alloc (.cells #[] 25)).heap[w.heap.size + 1]? = some (.cells #[.slice none 0 0, .int .i64 0] 57 (0, 0)) := by
    rw [Below.heap_alloc _ _ _ (by simp; omega), heap_setCell_other _ _ _ _ (by simp), heap_setCell_other _ _ _ _ (by simp)]
    exact HB2.out
  have ho0 := owns_empty ((w1.setCell ⟨w.heap.size, 0, none⟩ (.slice ao1 rest1.length cap1)).setCell ⟨w.heap.size, 1, none⟩ (.int .i64 (c2 : Int))) (w.heap.size + 2) 25 .u64 (by simp; omega)
  have hr0 : RdU (((w1.setCell ⟨w.heap.size, 0, none⟩ (.slice ao1 rest1.length cap1)).setCell ⟨w.heap.size, 1, none⟩ (.int .i64 (c2 : Int))).alloc (.cells #[] 25)) B (.slice ao1 rest1.length cap1) rest1 := hr1.below (by (repeat (first | exact Below.refl _ _ | assumption | (refine Below.setCell ?_ (by first | (simp; done) | (simp; omega)) _) | (refine Below.alloc ?_ (by first | (simp; done) | (simp; omega)) _) | (refine Below.drew ?_))))
  have hw0 : Below w.heap.size w (((w1.setCell ⟨w.heap.size, 0, none⟩ (.slice ao1 rest1.length cap1)).setCell ⟨w.heap.size, 1, none⟩ (.int .i64 (c2 : Int))).alloc (.cells #[] 25)) := by (repeat (first | exact Below.refl _ _ | assumption | (refine Below.setCell ?_ (by first | (simp; done) | (simp; omega)) _) | (refine Below.alloc ?_ (by first | (simp; done) | (simp; omega)) _) | (refine Below.drew ?_)))
  have HS1 := Lib.hid hs1
  have HS2 := Lib.hid hs2
  have HO0 := Lib.hid ho0
  have HR0 := Lib.hid hr0
  have HW0 := Lib.hid hw0
  clear hs0 hs1 hs2 ho0 hr0 hw0 hr1
  go_wp2
  clear g1 g2 f1 f2 hbw
  go_loopw [7, 8, 9, 10] (fun v i _ _ wr => ∃ (k : Nat) (acc : List Nat) (ak : Option Addr) (ck : Nat) (rk : List Nat), k ≤ m ∧ i = .int .i64 (k : Int) ∧ acc.length = k ∧ (∀ x ∈ acc, U64 x) ∧ rest1 = encs acc ++ rk ∧
      Owns wr (w.heap.size + 2) 25 .u64 v acc ∧ wr.heap[w.heap.size]? = some (.cells #[.slice ak rk.length ck, .int .i64 (c2 : Int)] 57 (0, 0)) ∧
      wr.heap[w.heap.size + 1]? = some (.cells #[.slice none 0 0, .int .i64 0] 57 (0, 0)) ∧ RdU wr B (.slice ak rk.length ck) rk ∧ Below w.heap.size w wr)
    (fun _ i _ _ _ => m - (intOf i).toNat)
  case atStart => exact ⟨0, [], ao1, cap1, rest1, Nat.zero_le _, rfl, rfl, by simp, rfl, by simpa using HO0.out, HS1.out, HS2.out, HR0.out, HW0.out⟩
  case round =>
    clear HB1 HB2 HS1 HS2 HO0 HR0 HW0 hz hz0
    obtain ⟨k, acc, ak, ck, rk, hk, rfl, hacc, hu, hrest, ho, hB1, hB2, hrk, hbk⟩ := hrel
    obtain ⟨g1, g2, f1, f2⟩ := blk2 hB1
    obtain ⟨g3, g4, f3, f4⟩ := blk2 hB2
    have hal := acc_len hrest
    have hzk : w.heap.size + 1 < wr.heap.size := (Array.getElem?_eq_some_iff.1 hB2).1
    have HACC := Lib.hid hacc
    have HU := Lib.hid hu
    have HREST := Lib.hid hrest
    have HB1 := Lib.hid hB1
    have HB2 := Lib.hid hB2
    have HO := Lib.hid ho
    have HRK := Lib.hid hrk
    have HBK := Lib.hid hbk
    have hby : ∀ y ∈ rk, y < 256 := fun y hy => HBY.out y (by rw [HREST.out]; exact List.mem_append_right _ hy)
    clear hacc hu hrest hB1 hB2 ho hrk hbk
    by_cases hlt : k < m
    · have hc2 : c2 = 0 := by
        rcases Nat.eq_zero_or_pos c2 with h0 | h0
        · exact h0
        · have := HZ.out (by omega); omega
      subst hc2
      go_wp2_with fail
      refine (rnumber_any B ak ck rk 0 _ (by omega) HRK.out hby).mono ?_
      rintro e w2 ⟨x, a2, p2, r2, c3, rfl, hx, hr2, hb2⟩
      have hB1' := blk_below HB1.out hb2
      have hB2' := blk_below HB2.out hb2
      obtain ⟨k1, k2, e1, e2⟩ := blk2 hB1'
      have hz2 : w.heap.size + 1 < w2.heap.size := Nat.lt_of_lt_of_le hzk hb2.size
      have hz20 : w.heap.size < w2.heap.size := by omega
      clear g1 g2 g3 g4 f1 f2 f3 f4 hby
      by_cases hc3 : c3 = 0
      · subst hc3
        go_wp2_with (at_builtin; go_must (refine wpList_app _ rfl _ _ 23 rfl (w.heap.size + 2) 25 (.int .u64 0) 8 Try.underlying23 Try.info25 rfl .u64 _ acc rfl ?own _ [x] rfl ?r (by decide) ?c1 ?c3 ?_))
        case own => exact ((ownsRow_setCell_below (ownsRow_setCell_below (HO.out.below hb2 (Nat.le_refl _)) (by simp) _) (by simp) _).alloc _).alloc _
        case r =>
          have h := reads_new (((w2.setCell ⟨w.heap.size, 0, none⟩ (.slice a2 r2.length p2)).setCell ⟨w.heap.size, 1, none⟩ (.int .i64 0)).alloc (.cells #[.slice a2 r2.length p2, .int .i64 0] 57)) .u64 25 x
          simp only [World.size_alloc, World.size_setCell] at h
          exact h
        case c1 => (try simp); omega
        case c3 => simp; omega
        intro v4 w4 ho4 hg4
        have hbase : ∀ j, u7.ownBlock = some j → w.heap.size + 2 ≤ j := fun j hj => (HO.out.lt j hj).1
        have hb24 : Below B w2 w4 := (((((Below.refl _ _).setCell (by simp; omega) _).setCell (by simp; omega) _).alloc (by simp; omega) _).alloc (by simp; omega) _).grown hg4 (by simp; omega) (fun j hj => by have := hbase j hj; omega)
        have hbw4 : Below w.heap.size w w4 := (((((HBK.out.trans (hb2.mono (by omega))).setCell (by simp) _).setCell (by simp) _).alloc (by simp; omega) _).alloc (by simp; omega) _).grown hg4 (by simp; omega) (fun j hj => by have := hbase j hj; omega)
        have hN1 : w4.heap[w.heap.size]? = some (.cells #[.slice a2 r2.length p2, .int .i64 0] 57 (0, 0)) := by
          rw [hg4.block _ (by simp; omega) (fun e => by have := hbase _ e.symm; omega), Below.heap_alloc _ _ _ (by simp; omega), Below.heap_alloc _ _ _ (by simp; omega)]
          exact set2 hB1'
        have hN2 : w4.heap[w.heap.size + 1]? = some (.cells #[.slice none 0 0, .int .i64 0] 57 (0, 0)) := by
          rw [hg4.block _ (by simp; omega) (fun e => by have := hbase _ e.symm; omega), Below.heap_alloc _ _ _ (by simp; omega), Below.heap_alloc _ _ _ (by simp; omega), heap_setCell_other _ _ _ _ (by simp), heap_setCell_other _ _ _ _ (by simp)]
          exact hB2'
        have hxu := hx.u64
        have hstep : rk = enc x ++ r2 := by
          rcases hx with ⟨h1, _⟩ | ⟨_, _, h3, _⟩ | ⟨_, _, _, h4, _⟩
          · exact absurd rfl h1
          · exact h3
          · simp at h4
        have HSTEP := Lib.hid hstep
        have HN1 := Lib.hid hN1
        have HN2 := Lib.hid hN2
        have HR2 := Lib.hid (hr2.below hb24)
        have HO4 := Lib.hid ho4
        have HBW := Lib.hid hbw4
        clear hstep hN1 hN2 hb24 hbw4 ho4 hg4 hbase hx hr2 hb2 hB1' hB2' k1 k2 e1 e2
        go_wp2
        go_roundw
        case rel =>
          have hu' : ∀ y ∈ acc ++ [x], U64 y := by
            intro y hy
            rcases List.mem_append.1 hy with hy | hy
            · exact HU.out y hy
            · simp at hy; subst hy; exact hxu
          have hrest' : rest1 = encs (acc ++ [x]) ++ r2 := by rw [HREST.out, HSTEP.out, encs_snoc, List.append_assoc]
          refine ⟨_, _, _, _, _, _, _, _, _, _, _, _, _, _, _, _, _, _, _, _, _, _, _, _, ⟨k + 1, acc ++ [x], a2, p2, r2, by omega, by go_num, by rw [List.length_append, HACC.out]; rfl, hu', hrest', HO4.out, HN1.out, HN2.out, HR2.out, HBW.out⟩, rfl⟩
        case measure => simp [intOf]; omega
      · have t3 : ((c3 : Int) != 0) = true := by rw [bne_iff_ne]; omega
        obtain ⟨k3, k4, e3, e4⟩ := blk2 hB2'
        have hrun : RunRel rest1 0 m [] r2 c3 := by
          rcases hx with ⟨h1, _⟩ | ⟨_, _, _, h4⟩ | ⟨_, _, h3, h4, h5⟩
          · exact absurd rfl h1
          · exact absurd h4 hc3
          · exact .inr (.inr ⟨rfl, acc, by rw [HACC.out]; exact hlt, HU.out, by rw [h3]; exact HREST.out, by rw [h3]; exact h5, rfl, h4⟩)
        have HRUN := Lib.hid hrun
        have hbw2 : Below w.heap.size w w2 := HBK.out.trans (hb2.mono (by omega))
        have HR2 := Lib.hid hr2
        clear hrun hx hr2 hb2 hB1' hB2'
        go_wp2
        go_region
        all_goals go_wp2
        all_goals exact bodyPost_ret (v := .tuple #[.slice none 0 0, .agg #[.slice a2 r2.length p2, .int .i64 (c3 : Int)]]) (by simp [results, Try.results61, go_sem, k3, k4, hz2]) rfl ⟨.slice none 0 0, [], a2, p2, r2, c3, n, rest1, c1, rfl, HN.out, by rw [HMC.out, HMR.out]; exact HRUN.out, owns_nil _ _ _ _, HR2.out.below (by (repeat (first | exact Below.refl _ _ | assumption | (refine Below.setCell ?_ (by first | (simp; done) | (simp; omega)) _) | (refine Below.alloc ?_ (by first | (simp; done) | (simp; omega)) _) | (refine Below.drew ?_)))), by (repeat (first | exact Below.refl _ _ | assumption | (refine Below.setCell ?_ (by first | (simp; done) | (simp; omega)) _) | (refine Below.alloc ?_ (by first | (simp; done) | (simp; omega)) _) | (refine Below.drew ?_)))⟩
    · obtain rfl : k = m := by omega
      have hrun : RunRel rest1 c2 k acc rk c2 := by
        by_cases hc2 : c2 = 0
        · exact .inr (.inl ⟨hc2, acc, HACC.out, HU.out, HREST.out, rfl, hc2⟩)
        · have hk0 := HZ.out hc2
          obtain rfl : acc = [] := List.length_eq_zero_iff.1 (by rw [HACC.out]; exact hk0)
          exact .inl ⟨hc2, rfl, by simpa [encs] using HREST.out.symm, rfl⟩
      have HRUN := Lib.hid hrun
      have hbw := HBK.out
      have ho := HO.out
      clear hrun
      go_wp2
      go_region
      all_goals go_wp2
      all_goals refine bodyPost_ret (v := .tuple #[u7, .agg #[.slice ak rk.length ck, .int .i64 (c2 : Int)]]) (by simp [results, Try.results61, go_sem, g3, g4]) rfl ⟨u7, acc, ak, ck, rk, c2, n, rest1, c1, rfl, HN.out, by rw [HMC.out, HMR.out]; exact HRUN.out, ?_, HRK.out.below (by (repeat (first | exact Below.refl _ _ | assumption | (refine Below.setCell ?_ (by first | (simp; done) | (simp; omega)) _) | (refine Below.alloc ?_ (by first | (simp; done) | (simp; omega)) _) | (refine Below.drew ?_)))), by (repeat (first | exact Below.refl _ _ | assumption | (refine Below.setCell ?_ (by first | (simp; done) | (simp; omega)) _) | (refine Below.alloc ?_ (by first | (simp; done) | (simp; omega)) _) | (refine Below.drew ?_)))⟩
      all_goals exact Owns.mono (base := w.heap.size + 2) (ownsRow_setCell_below (ownsRow_setCell_below ho (by simp) _) (by simp) _) (by omega)

end Go.Proofs.Ytlaloddmlkkbgaa
