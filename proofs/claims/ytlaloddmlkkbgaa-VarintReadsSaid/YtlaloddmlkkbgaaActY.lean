/- The contract of one act of both readers: lists, and an error. -/
import Derived.Test.YtlaloddmlkkbgaaActX
import Derived.Test.YtlaloddmlkkbgaaApartW
namespace Go.Proofs.Ytlaloddmlkkbgaa
open Go.RowKit
set_option linter.unusedVariables false

theorem gdrewN {w w1 : World} {n : Nat} {row : Option Nat} (h : w.grownBy w1 row) : w.grownBy (w1.drewN n) row := ⟨h.os, h.tape, h.output, h.size, h.block⟩

set_option maxHeartbeats 1000000 in
set_option maxRecDepth 100000 in
/-- The same numbers, where they are: nothing is made. -/
theorem wide_same (v1 v2 : Value) (a : List Nat) (w : World) (h1 : Reads w .u64 v1 a) (h2 : Reads w .u64 v2 a) :
    Calls Try.prog 40 #[v1, v2] w (Drawn w (.bool true)) := by
  obtain ⟨ao, cap, rfl, _, hm, _⟩ := h1.val
  obtain ⟨bo, bcap, rfl, _, _, _⟩ := h2.val
  have H1 := Lib.hid h1
  have H2 := Lib.hid h2
  have hal : a.length ≤ 9223372036854775807 := by unfold maxLen at hm; omega
  clear h1 h2 hm
  go_enter Try.func40, Try.ntmps40
  go_wp2
  go_loopw [5, 13] (fun _ i wr => ∃ k nq : Nat, k ≤ a.length ∧ i = .int .i64 (k : Int) ∧ wr = w.drewN nq)
    (fun _ i _ => a.length - (intOf i).toNat)
  case atStart => exact ⟨0, 0, Nat.zero_le _, rfl, rfl⟩
  case round =>
    obtain ⟨k, nq, hk, rfl, rfl⟩ := hrel
    by_cases hlt : k < a.length
    · obtain ⟨bl, off, rfl, hbl, hc⟩ := H1.out.at hlt
      obtain ⟨bl2, off2, rfl, hbl2, hc2⟩ := H2.out.at hlt
      have c1 := hc k hlt
      have c2 := hc2 k hlt
      generalize a.getD k 0 = x at c1 c2
      have d1 : (w.drewN nq).cell? ⟨bl, off + k, none⟩ = some (.int .u64 (x : Int)) := c1
      have d2 : (w.drewN nq).cell? ⟨bl2, off2 + k, none⟩ = some (.int .u64 (x : Int)) := c2
      clear hc hc2 c1 c2
      have hi1 : (k : Int) < (a.length : Int) := by omega
      have hi0 : (0 : Int) ≤ (k : Int) := by omega
      generalize hwr : w.drewN nq = wr at *
      have HWR := Lib.hid hwr
      clear hwr
      go_wp2_with fail
      go_quiet (fail)
      go_wp2
      go_roundw
      case rel => exact ⟨k + 1, _, by omega, by go_num, by rw [← HWR.out, World.drewN_drewN]⟩
      case measure => simp [intOf]; omega
    · go_wp2
      go_ret
      exact ⟨rfl, nq, rfl⟩

set_option maxHeartbeats 400000 in
set_option maxRecDepth 100000 in
theorem act_list (B : Nat) {w : World} {p : Nat} {rv : Value} {row : List Nat} {place c : Nat} (h : Rd w p rv row place c) (hBp : B ≤ p) (ao : Option Addr) (cap : Nat) (hru : RdU w B (.slice ao (row.drop place).length cap) (row.drop place))
    (kind most : Int) (nn : Nat) (hm1 : -9223372036854775808 ≤ most) (hm2 : most ≤ 9223372036854775807) (hrow : row.length ≤ 10000000000000)
    (t0 : ((IntKind.u64.wrap kind).tmod 6 == 0) = false)
    (t1 : ((IntKind.u64.wrap kind).tmod 6 == 1) = false)
    (t2 : ((IntKind.u64.wrap kind).tmod 6 == 2) = false)
    (t3 : ((IntKind.u64.wrap kind).tmod 6 == 3) = true)
    :
    Calls Try.prog 39 #[.pointer (some ⟨p, 0, none⟩), .agg #[.slice ao (row.drop place).length cap, .int .i64 (c : Int)], .agg #[.int .i64 kind, .int .u64 (nn : Int), .int .i64 most]] w (ActPost B p rv row w) := by
  have hpw := h.lt
  have hBw : B ≤ w.heap.size := by omega
  have hby : ∀ y ∈ row.drop place, y < 256 := fun y hy => h.byte y (List.mem_of_mem_drop hy)
  have hrl : (row.drop place).length ≤ 10000000000000 := by rw [List.length_drop]; omega
  have H := Lib.hid h
  have HRU := Lib.hid hru
  clear h hru
  generalize hrest : row.drop place = rest at *
  have HREST := Lib.hid hrest
  clear hrest
  go_enter Try.func39, Try.ntmps39
  go_wp2_with fail
  refine (rlist_any B ao cap rest c most hm1 hm2 _ (by simp; omega) (HRU.out.below ((((Below.refl _ _).alloc (by omega) _).alloc (by simp; omega) _).alloc (by simp; omega) _)) hby hrl).mono ?_
  rintro e w1 ⟨ov, out1, a1, p1, r1, c1, n1, rr1, cc1, rfl, hn1, hf1, ho1, hr1, hb1⟩
  clear hby hrl
  obtain ⟨B1, B2, B3⟩ := new3 hb1
  have hz : w.heap.size + 1 + 1 < w1.heap.size := by have := hb1.size; simp at this; omega
  have hz1 : w.heap.size + 1 < w1.heap.size := by omega
  have hz0 : w.heap.size < w1.heap.size := by omega
  have hne1 : w.heap.size ≠ w1.heap.size := by omega
  have hne2 : w1.heap.size ≠ w.heap.size := by omega
  have hne3 : w.heap.size + 1 + 1 ≠ w.heap.size := by omega
  have hne4 : w.heap.size ≠ w.heap.size + 1 + 1 := by omega
  have hbw : Below w.heap.size w w1 := ((((Below.refl _ _).alloc (Nat.le_refl _) _).alloc (by simp) _).alloc (by simp; omega) _).trans (hb1.mono (by simp; omega))
  clear hb1
  -- the world of the second region: the next reader's block made
  have hnb := heap_alloc_new w1 (.cells #[.slice a1 r1.length p1, .int .i64 (c1 : Int)] 57)
  have hbw' : Below w.heap.size w (w1.alloc (.cells #[.slice a1 r1.length p1, .int .i64 (c1 : Int)] 57)) := hbw.alloc hbw.size _
  have C1 := (Below.heap_alloc w1 (.cells #[.slice a1 r1.length p1, .int .i64 (c1 : Int)] 57) _ hz0).trans B1
  have C2 := (Below.heap_alloc w1 (.cells #[.slice a1 r1.length p1, .int .i64 (c1 : Int)] 57) _ hz1).trans B2
  have C3 := (Below.heap_alloc w1 (.cells #[.slice a1 r1.length p1, .int .i64 (c1 : Int)] 57) _ hz).trans B3
  have hsz : (w1.alloc (.cells #[.slice a1 r1.length p1, .int .i64 (c1 : Int)] 57)).heap.size = w1.heap.size + 1 := by simp
  have hr1' := hr1.below (w' := w1.alloc (.cells #[.slice a1 r1.length p1, .int .i64 (c1 : Int)] 57)) ((Below.refl _ _).alloc (by omega) _)
  have HN1 := Lib.hid hn1
  have HF1 := Lib.hid hf1
  have HO1 := Lib.hid ho1
  have HG1 := Lib.hid (grown_of_below hbw' (some p))
  have HC2 := Lib.hid C2
  clear hn1 hf1 ho1
  obtain ⟨d1, d2, _, _⟩ := blk2 hnb
  obtain ⟨d3, d4, d5, d6⟩ := blk2 C1
  obtain ⟨f1, f2, f3, _, _, _⟩ := blk3 C2
  have HC1 := Lib.hid C1
  have HC3 := Lib.hid C3
  have HNB := Lib.hid hnb
  have HBW := Lib.hid hbw'
  have HR1 := Lib.hid hr1'
  clear B1 B2 B3 C1 C2 C3 hnb hbw hbw' hr1 hr1'
  go_wp2_with fail
  go_region_held3 (fun w' => w'.cell? ⟨w1.heap.size, 0, none⟩ = some (.slice a1 r1.length p1) ∧ w'.cell? ⟨w1.heap.size, 1, none⟩ = some (.int .i64 (c1 : Int)) ∧ w'.cell? ⟨w.heap.size + 1, 2, none⟩ = some (.int .i64 most)) (go_keep) (first
    | (go_at_call 31; refine (list_any (H.out.below (by have hbw' := HBW.out; (repeat (first | exact Below.refl _ _ | assumption | (refine Below.setCell ?_ (by first | omega | (simp; done) | (simp; omega)) _) | (refine Below.alloc ?_ (by first | omega | (simp; done) | (simp; omega)) _) | (refine Below.drew ?_) | (refine below_dn ?_)))) (Nat.le_refl _)) most hm1 hm2 hrow).mono ?_; rintro e w2 ⟨v2, out2, n2, plx, cc2, pl2, c2, rfl, hn2, hf2, ho2, hrd2, hg2⟩
       rw [HREST.out] at hn2
       obtain ⟨rfl, hrx, rfl⟩ := HN1.out.unique hn2
       rw [← hrx] at hf2
       obtain ⟨rfl, hrr, rfl⟩ := HF1.out.unique hf2
       have HRR := Lib.hid hrr
       clear hn2 hrr hf2 hrx
       have HO2R := Lib.hid ho2.reads
       have hov := Owns.grown (World.ownsRow.drew (HO1.out.alloc (.cells #[.slice a1 r1.length p1, .int .i64 (c1 : Int)] 57))) hg2 (by
         cases hv : ov.ownBlock with
         | none => exact .inl rfl
         | some g => right; intro e; have := (HO1.out.lt g hv).1; simp at e this; omega)
       have HOVR := Lib.hid hov.reads
       have hA2 := (hg2.block (w.heap.size + 1) (by simp; omega) (by simp; omega)).trans HC2.out
       obtain ⟨b1, b2, b3, _, _, _⟩ := blk3 hA2
       clear hA2 ho2 hov
       have hg2' := hg2
       have hN2 := (hg2.block w1.heap.size (by simp) (by simp; omega)).trans HNB.out
       have hM2 := (hg2.block w.heap.size (by simp; omega) (by simp; omega)).trans HC1.out
       have hZ2 := (hg2.block (w.heap.size + 1 + 1) (by simp; omega) (by simp; omega)).trans HC3.out
       obtain ⟨k1, k2, _, _⟩ := blk2 hN2
       obtain ⟨m1, m2, m3, m4⟩ := blk2 hM2
       have hz2 : w.heap.size + 1 + 1 < w2.heap.size := (Array.getElem?_eq_some_iff.1 hZ2).1
       have hB2 : Below B (w1.alloc (.cells #[.slice a1 r1.length p1, .int .i64 (c1 : Int)] 57)) w2 := Below.trans (by (repeat (first | exact Below.refl _ _ | assumption | (refine Below.setCell ?_ (by first | omega | (simp; done) | (simp; omega)) _) | (refine Below.alloc ?_ (by first | omega | (simp; done) | (simp; omega)) _) | (refine Below.drew ?_) | (refine below_dn ?_)))) (below_of_grown hg2 hBp (by simp; omega))
       have hG2 : w.grownBy w2 (some p) := grownBy_trans (by have hG1 := HG1.out; (repeat (first | assumption | (refine gdrew ?_) | (refine gset ?_ (by first | omega | (simp; done) | (simp; omega))) | (refine galloc ?_)))) hg2 (fun j hj _ => hj)
       have HM2 := Lib.hid hM2
       have HZ2 := Lib.hid hZ2
       have HRD2 := Lib.hid hrd2
       have HB2 := Lib.hid hB2
       have HG2 := Lib.hid hG2
       clear hg2 hg2' hN2 hM2 hZ2 hrd2 hB2 hG2)
    | (go_at_call 40; refine (wide_same _ _ out1 _ (by exact HO2R.out) (by exact HOVR.out)).mono ?_; rintro e w9 ⟨rfl, n9, rfl⟩
       have hM2 : (w2.drewN n9).heap[w.heap.size]? = _ := HM2.out
       have hZ2 : (w2.drewN n9).heap[w.heap.size + 1 + 1]? = _ := HZ2.out
       have hrd2 := HRD2.out.drewN n9
       have hB2 := below_dn (n := n9) HB2.out
       have hG2 := gdrewN (n := n9) HG2.out
       have k1' : (w2.drewN n9).cell? ⟨w1.heap.size, 0, none⟩ = _ := k1
       have k2' : (w2.drewN n9).cell? ⟨w1.heap.size, 1, none⟩ = _ := k2
       have b1' : (w2.drewN n9).cell? ⟨w.heap.size + 1, 0, none⟩ = _ := b1
       have b2' : (w2.drewN n9).cell? ⟨w.heap.size + 1, 1, none⟩ = _ := b2
       have b3' : (w2.drewN n9).cell? ⟨w.heap.size + 1, 2, none⟩ = _ := b3
       have hz2' : w.heap.size + 1 + 1 < (w2.drewN n9).heap.size := hz2
       clear HM2 HZ2 HRD2 HB2 HG2 k1 k2 m1 m2 m3 m4 b1 b2 b3 hz2 HO2R HOVR
       generalize w2.drewN n9 = w9 at *
       obtain ⟨m1, m2, m3, m4⟩ := blk2 hM2
       have k1 := k1'
       have k2 := k2'
       have b1 := b1'
       have b2 := b2'
       have b3 := b3'
       have hz2 := hz2'
       clear k1' k2' b1' b2' b3' hz2'
       have HM2 := Lib.hid hM2
       have HZ2 := Lib.hid hZ2
       have HRD2 := Lib.hid hrd2
       have HB2 := Lib.hid hB2
       have HG2 := Lib.hid hG2
       clear hM2 hZ2 hrd2 hB2 hG2))
  all_goals
    clear d1 d2 d3 d4 d5 d6 f1 f2 f3 k1 k2 m1 m2 m3 m4 b1 b2 b3
    have hM4 := set2 (x := .slice a1 r1.length p1) (y := .int .i64 (c1 : Int)) HM2.out
    obtain ⟨q1, q2, _, _⟩ := blk2 hM4
    have hZ4 : ((w9.setCell ⟨w.heap.size, 0, none⟩ (.slice a1 r1.length p1)).setCell ⟨w.heap.size, 1, none⟩ (.int .i64 (c1 : Int))).heap[w.heap.size + 1 + 1]? = some (.cells #[.slice none 0 0, .int .i64 0] 57 (0, 0)) := by
      rw [heap_setCell_other _ _ _ _ (by simp; omega), heap_setCell_other _ _ _ _ (by simp; omega)]
      exact HZ2.out
    obtain ⟨q5, q6, q7, q8⟩ := blk2 hZ4
    have HM4 := Lib.hid hM4
    have HZ4 := Lib.hid hZ4
    have HLL := Lib.hid (show row.length - pl2 = r1.length by rw [HRR.out, List.length_drop])
    clear hM4 hZ4
    go_wp2_with fail
    go_region_held3 (fun w' => w'.cell? ⟨w.heap.size, 0, none⟩ = some (.slice a1 r1.length p1) ∧ w'.cell? ⟨w.heap.size, 1, none⟩ = some (.int .i64 (c1 : Int))) (go_keep) (first
      | (go_at_call 38; refine (same_any (rv := rv) (row := row) (place := pl2) (c := c1) (by have hrd2 := HRD2.out; (repeat (first | assumption | (refine Rd.drew ?_) | (refine Rd.setOther ?_ (by first | omega | (simp; done) | (simp; omega)))))) a1 r1.length p1 HLL.out).mono ?_; rintro e w5 ⟨rfl, hb5⟩
         have hM5 := (hb5.block w.heap.size (by simp; omega)).trans HM4.out
         have hZ5 := (hb5.block (w.heap.size + 1 + 1) (by simp; omega)).trans HZ4.out
         obtain ⟨s1, s2, s3, s4⟩ := blk2 hM5
         obtain ⟨s5, s6, s7, s8⟩ := blk2 hZ5
         have hrd5 : Rd w5 p rv row pl2 c1 := Rd.below (by have hrd2 := HRD2.out; (repeat (first | assumption | (refine Rd.drew ?_) | (refine Rd.setOther ?_ (by first | omega | (simp; done) | (simp; omega)))))) hb5 (Nat.le_refl _)
         have hB5 : Below B (w1.alloc (.cells #[.slice a1 r1.length p1, .int .i64 (c1 : Int)] 57)) w5 := Below.trans (by have hB2 := HB2.out; (repeat (first | exact Below.refl _ _ | assumption | (refine Below.setCell ?_ (by first | omega | (simp; done) | (simp; omega)) _) | (refine Below.alloc ?_ (by first | omega | (simp; done) | (simp; omega)) _) | (refine Below.drew ?_) | (refine below_dn ?_)))) (hb5.mono (by simp; omega))
         have hG5 : w.grownBy w5 (some p) := gbelow (by have hG2 := HG2.out; (repeat (first | assumption | (refine gdrew ?_) | (refine gset ?_ (by first | omega | (simp; done) | (simp; omega))) | (refine galloc ?_)))) hb5
         have HRD5 := Lib.hid hrd5
         have HB5 := Lib.hid hB5
         have HG5 := Lib.hid hG5
         clear hb5 hM5 hZ5 hrd5 hB5 hG5))
    all_goals go_wp2
    all_goals exact bodyPost_ret (v := .tuple #[.agg #[.slice a1 r1.length p1, .int .i64 (c1 : Int)], .bool true]) (by simp [results, Try.results39, go_sem, s5, s6]) rfl (act_fin HRR.out (by have hrd5 := HRD5.out; (repeat (first | assumption | (refine Rd.drew ?_) | (refine Rd.setOther ?_ (by first | omega | (simp; done) | (simp; omega)))))) (HR1.out.below (by have hB5 := HB5.out; (repeat (first | exact Below.refl _ _ | assumption | (refine Below.setCell ?_ (by first | omega | (simp; done) | (simp; omega)) _) | (refine Below.alloc ?_ (by first | omega | (simp; done) | (simp; omega)) _) | (refine Below.drew ?_) | (refine below_dn ?_))))) (by have hG5 := HG5.out; (repeat (first | assumption | (refine gdrew ?_) | (refine gset ?_ (by first | omega | (simp; done) | (simp; omega))) | (refine galloc ?_)))))


end Go.Proofs.Ytlaloddmlkkbgaa
