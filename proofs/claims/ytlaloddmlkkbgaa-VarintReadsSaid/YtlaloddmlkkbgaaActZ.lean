/- The contract of one act of both readers: an error; and of all acts. -/
import Derived.Test.YtlaloddmlkkbgaaActY
namespace Go.Proofs.Ytlaloddmlkkbgaa
open Go.RowKit
set_option linter.unusedVariables false

set_option maxHeartbeats 1000000 in
set_option maxRecDepth 100000 in
theorem act_fail (B : Nat) {w : World} {p : Nat} {rv : Value} {row : List Nat} {place c : Nat} (h : Rd w p rv row place c) (hBp : B ≤ p) (ao : Option Addr) (cap : Nat) (hru : RdU w B (.slice ao (row.drop place).length cap) (row.drop place))
    (kind most : Int) (nn : Nat)
    (t0 : ((IntKind.u64.wrap kind).tmod 6 == 0) = false) (t1 : ((IntKind.u64.wrap kind).tmod 6 == 1) = false) (t2 : ((IntKind.u64.wrap kind).tmod 6 == 2) = false) (t3 : ((IntKind.u64.wrap kind).tmod 6 == 3) = false) (t4 : ((IntKind.u64.wrap kind).tmod 6 == 4) = false) :
    Calls Try.prog 39 #[.pointer (some ⟨p, 0, none⟩), .agg #[.slice ao (row.drop place).length cap, .int .i64 (c : Int)], .agg #[.int .i64 kind, .int .u64 (nn : Int), .int .i64 most]] w (ActPost B p rv row w) := by
  have hpw := h.lt
  have hBw : B ≤ w.heap.size := by omega
  have H := Lib.hid h
  have HRU := Lib.hid hru
  clear h hru
  generalize hrest : row.drop place = rest at *
  have HREST := Lib.hid hrest
  have HLL := Lib.hid (show row.length - place = rest.length by rw [← hrest, List.length_drop])
  clear hrest
  have hne3 : w.heap.size + 1 + 1 ≠ w.heap.size := by omega
  have hne4 : w.heap.size ≠ w.heap.size + 1 + 1 := by omega
  have e13 : Value.iface 48 (.int .i64 13) = errV 13 := (errV_pos (by decide)).symm
  have E13 := Lib.hid e13
  clear e13
  go_enter Try.func39, Try.ntmps39
  go_wp2_with fail
  rw [E13.out]
  refine (fail_any (H.out.below ((((Below.refl _ _).alloc (Nat.le_refl _) _).alloc (by simp) _).alloc (by simp; omega) _) (Nat.le_refl _)) 13).mono ?_
  rintro e w2 ⟨rfl, hrd2, hg2⟩
  obtain ⟨B1, B2, B3⟩ := new3 (Below.refl (((w.alloc (.cells #[.slice ao rest.length cap, .int .i64 (c : Int)] 57)).alloc (.cells #[.int .i64 kind, .int .u64 (nn : Int), .int .i64 most] 60)).alloc (.cells #[.slice none 0 0, .int .i64 0] 57)).heap.size _)
  have hM2 := (hg2.block w.heap.size (by simp; omega) (by simp; omega)).trans B1
  have hZ2 := (hg2.block (w.heap.size + 1 + 1) (by simp) (by simp; omega)).trans B3
  have hz2 : w.heap.size + 1 + 1 < w2.heap.size := (Array.getElem?_eq_some_iff.1 hZ2).1
  have hG2 : w.grownBy w2 (some p) := grownBy_trans (galloc (galloc (World.grownBy_alloc w _ (some p)))) hg2 (fun j hj _ => hj)
  obtain ⟨m1, m2, m3, m4⟩ := blk2 hM2
  have HM2 := Lib.hid hM2
  have HZ2 := Lib.hid hZ2
  have HG2 := Lib.hid hG2
  clear B1 B2 B3 hg2 hM2 hZ2 hG2
  by_cases hc : c = 0
  · subst hc
    rw [if_pos rfl] at hrd2
    have HRD2 := Lib.hid hrd2
    clear hrd2
    have hM4 : (w2.setCell ⟨w.heap.size, 1, none⟩ (.int .i64 13)).heap[w.heap.size]? = some (.cells #[.slice ao rest.length cap, .int .i64 13] 57 (0, 0)) := by
      rw [heap_setCell_same _ _ _ _ _ _ HM2.out]; rfl
    have hZ4 : (w2.setCell ⟨w.heap.size, 1, none⟩ (.int .i64 13)).heap[w.heap.size + 1 + 1]? = some (.cells #[.slice none 0 0, .int .i64 0] 57 (0, 0)) := by
      rw [heap_setCell_other _ _ _ _ (by simp; omega)]; exact HZ2.out
    obtain ⟨q1, q2, _, _⟩ := blk2 hM4
    obtain ⟨q5, q6, q7, q8⟩ := blk2 hZ4
    have HM4 := Lib.hid hM4
    have HZ4 := Lib.hid hZ4
    clear hM4 hZ4
    go_wp2_with fail
    go_region_held3 (fun w' => w'.cell? ⟨w.heap.size, 0, none⟩ = some (.slice ao rest.length cap) ∧ w'.cell? ⟨w.heap.size, 1, none⟩ = some (.int .i64 13)) (go_keep) (first
      | (go_at_call 38; refine (same_any (rv := rv) (row := row) (place := place) (c := 13) (by have hrd2 := HRD2.out; (repeat (first | assumption | (refine Rd.drew ?_) | (refine Rd.setOther ?_ (by first | omega | (simp; done) | (simp; omega)))))) ao rest.length cap HLL.out).mono ?_; rintro e w5 ⟨rfl, hb5⟩
         have hM5 := (hb5.block w.heap.size (by simp; omega)).trans HM4.out
         have hZ5 := (hb5.block (w.heap.size + 1 + 1) (by simp; omega)).trans HZ4.out
         obtain ⟨s1, s2, s3, s4⟩ := blk2 hM5
         obtain ⟨s5, s6, s7, s8⟩ := blk2 hZ5
         have hrd5 : Rd w5 p rv row place 13 := Rd.below (by have hrd2 := HRD2.out; (repeat (first | assumption | (refine Rd.drew ?_) | (refine Rd.setOther ?_ (by first | omega | (simp; done) | (simp; omega)))))) hb5 (Nat.le_refl _)
         have hG5 : w.grownBy w5 (some p) := gbelow (by have hG2 := HG2.out; (repeat (first | assumption | (refine gdrew ?_) | (refine gset ?_ (by first | omega | (simp; done) | (simp; omega))) | (refine galloc ?_)))) hb5
         have HRD5 := Lib.hid hrd5
         have HG5 := Lib.hid hG5
         clear hb5 hM5 hZ5 hrd5 hG5))
    all_goals go_wp2
    all_goals exact bodyPost_ret (v := .tuple #[.agg #[.slice ao rest.length cap, .int .i64 13], .bool true]) (by simp [results, Try.results39, go_sem, s5, s6]) rfl (act_fin (c := 13) HREST.out.symm (by have hrd5 := HRD5.out; (repeat (first | assumption | (refine Rd.drew ?_) | (refine Rd.setOther ?_ (by first | omega | (simp; done) | (simp; omega)))))) (HRU.out.below (below_of_grown (by have hG5 := HG5.out; (repeat (first | assumption | (refine gdrew ?_) | (refine gset ?_ (by first | omega | (simp; done) | (simp; omega))) | (refine galloc ?_)))) hBp hBw)) (by have hG5 := HG5.out; (repeat (first | assumption | (refine gdrew ?_) | (refine gset ?_ (by first | omega | (simp; done) | (simp; omega))) | (refine galloc ?_)))))

  · have tc : ((c : Int) == 0) = false := by rw [beq_eq_false_iff_ne]; omega
    rw [if_neg hc] at hrd2
    have HRD2 := Lib.hid hrd2
    clear hrd2
    obtain ⟨q5, q6, q7, q8⟩ := blk2 HZ2.out
    have HM4 := HM2
    have HZ4 := HZ2
    go_wp2_with fail
    go_region_held3 (fun w' => w'.cell? ⟨w.heap.size, 0, none⟩ = some (.slice ao rest.length cap) ∧ w'.cell? ⟨w.heap.size, 1, none⟩ = some (.int .i64 (c : Int))) (go_keep) (first
      | (go_at_call 38; refine (same_any (rv := rv) (row := row) (place := place) (c := c) (by have hrd2 := HRD2.out; (repeat (first | assumption | (refine Rd.drew ?_) | (refine Rd.setOther ?_ (by first | omega | (simp; done) | (simp; omega)))))) ao rest.length cap HLL.out).mono ?_; rintro e w5 ⟨rfl, hb5⟩
         have hM5 := (hb5.block w.heap.size (by simp; omega)).trans HM4.out
         have hZ5 := (hb5.block (w.heap.size + 1 + 1) (by simp; omega)).trans HZ4.out
         obtain ⟨s1, s2, s3, s4⟩ := blk2 hM5
         obtain ⟨s5, s6, s7, s8⟩ := blk2 hZ5
         have hrd5 : Rd w5 p rv row place c := Rd.below (by have hrd2 := HRD2.out; (repeat (first | assumption | (refine Rd.drew ?_) | (refine Rd.setOther ?_ (by first | omega | (simp; done) | (simp; omega)))))) hb5 (Nat.le_refl _)
         have hG5 : w.grownBy w5 (some p) := gbelow (by have hG2 := HG2.out; (repeat (first | assumption | (refine gdrew ?_) | (refine gset ?_ (by first | omega | (simp; done) | (simp; omega))) | (refine galloc ?_)))) hb5
         have HRD5 := Lib.hid hrd5
         have HG5 := Lib.hid hG5
         clear hb5 hM5 hZ5 hrd5 hG5))
    all_goals go_wp2
    all_goals exact bodyPost_ret (v := .tuple #[.agg #[.slice ao rest.length cap, .int .i64 (c : Int)], .bool true]) (by simp [results, Try.results39, go_sem, s5, s6]) rfl (act_fin (c := c) HREST.out.symm (by have hrd5 := HRD5.out; (repeat (first | assumption | (refine Rd.drew ?_) | (refine Rd.setOther ?_ (by first | omega | (simp; done) | (simp; omega)))))) (HRU.out.below (below_of_grown (by have hG5 := HG5.out; (repeat (first | assumption | (refine gdrew ?_) | (refine gset ?_ (by first | omega | (simp; done) | (simp; omega))) | (refine galloc ?_)))) hBp hBw)) (by have hG5 := HG5.out; (repeat (first | assumption | (refine gdrew ?_) | (refine gset ?_ (by first | omega | (simp; done) | (simp; omega))) | (refine galloc ?_)))))


theorem act_any (B : Nat) {w : World} {p : Nat} {rv : Value} {row : List Nat} {place c : Nat} (h : Rd w p rv row place c) (hBp : B ≤ p) (ao : Option Addr) (cap : Nat) (hru : RdU w B (.slice ao (row.drop place).length cap) (row.drop place))
    (kind most : Int) (nn : Nat) (hm1 : -9223372036854775808 ≤ most) (hm2 : most ≤ 9223372036854775807) (hrow : row.length ≤ 10000000000000) :
    Calls Try.prog 39 #[.pointer (some ⟨p, 0, none⟩), .agg #[.slice ao (row.drop place).length cap, .int .i64 (c : Int)], .agg #[.int .i64 kind, .int .u64 (nn : Int), .int .i64 most]] w (ActPost B p rv row w) := by
  cases t0 : ((IntKind.u64.wrap kind).tmod 6 == 0)
  · cases t1 : ((IntKind.u64.wrap kind).tmod 6 == 1)
    · cases t2 : ((IntKind.u64.wrap kind).tmod 6 == 2)
      · cases t3 : ((IntKind.u64.wrap kind).tmod 6 == 3)
        · cases t4 : ((IntKind.u64.wrap kind).tmod 6 == 4)
          · exact act_fail B h hBp ao cap hru kind most nn t0 t1 t2 t3 t4
          · exact act_fixed B h hBp ao cap hru kind most nn hm1 hm2 hrow t0 t1 t2 t3 t4
        · exact act_list B h hBp ao cap hru kind most nn hm1 hm2 hrow t0 t1 t2 t3
      · exact act_text B h hBp ao cap hru kind most nn hm1 hm2 hrow t0 t1 t2
    · exact act_within B h hBp ao cap hru kind most nn hm1 hm2 hrow t0 t1
  · exact act_number B h hBp ao cap hru kind most nn hm1 hm2 hrow t0

end Go.Proofs.Ytlaloddmlkkbgaa
