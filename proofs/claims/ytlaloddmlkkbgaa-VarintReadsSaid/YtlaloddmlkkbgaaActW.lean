/- The contract of one act of both readers. -/
import Derived.Test.YtlaloddmlkkbgaaSameW
namespace Go.Proofs.Ytlaloddmlkkbgaa
open Go.RowKit
set_option linter.unusedVariables false

/-- Three new blocks, behind whatever has been made since. -/
theorem new3 {w w1 : World} {o1 o2 o3 : Obj} (hb : Below (((w.alloc o1).alloc o2).alloc o3).heap.size (((w.alloc o1).alloc o2).alloc o3) w1) :
    w1.heap[w.heap.size]? = some o1 ∧ w1.heap[w.heap.size + 1]? = some o2 ∧ w1.heap[w.heap.size + 1 + 1]? = some o3 := by
  refine ⟨?_, ?_, ?_⟩
  · rw [hb.block _ (by simp; omega), Below.heap_alloc _ _ _ (by simp; omega), Below.heap_alloc _ _ _ (by simp), heap_alloc_new]
  · rw [hb.block _ (by simp), Below.heap_alloc _ _ _ (by simp)]
    have := heap_alloc_new (w.alloc o1) o2
    simpa using this
  · rw [hb.block _ (by simp)]
    have := heap_alloc_new ((w.alloc o1).alloc o2) o3
    simpa using this

theorem below_of_grown {B p : Nat} {w w' : World} (hg : w.grownBy w' (some p)) (hp : B ≤ p) (hs : B ≤ w.heap.size) : Below B w w' :=
  ⟨hg.os, hg.tape, hg.output, hg.size, fun k hk => hg.block k (by omega) (fun e => by simp at e; omega)⟩

/-- What one act of both readers hands back: both stand the same. -/
def ActPost (B p : Nat) (rv : Value) (row : List Nat) (w : World) (e : Ending) (w' : World) : Prop :=
  ∃ (ao : Option Addr) (cap place c : Nat), e = .returned (.tuple #[.agg #[.slice ao (row.drop place).length cap, .int .i64 (c : Int)], .bool true]) ∧
    Rd w' p rv row place c ∧ RdU w' B (.slice ao (row.drop place).length cap) (row.drop place) ∧ w.grownBy w' (some p)

/-- A block of three cells. -/
theorem blk3 {w : World} {p : Nat} {a b c : Value} {t : TypeId} (h : w.heap[p]? = some (.cells #[a, b, c] t (0, 0))) :
    w.cell? ⟨p, 0, none⟩ = some a ∧ w.cell? ⟨p, 1, none⟩ = some b ∧ w.cell? ⟨p, 2, none⟩ = some c ∧ w.frozen? ⟨p, 0, none⟩ = false ∧ w.frozen? ⟨p, 1, none⟩ = false ∧ w.frozen? ⟨p, 2, none⟩ = false :=
  ⟨by rw [cell_of_row w p 0 _ _ _ h]; rfl, by rw [cell_of_row w p 1 _ _ _ h]; rfl, by rw [cell_of_row w p 2 _ _ _ h]; rfl, frozen_of_row w p 0 _ _ h, frozen_of_row w p 1 _ _ h, frozen_of_row w p 2 _ _ h⟩

theorem Rd.setOther {w : World} {p q i : Nat} {rv : Value} {row : List Nat} {place c : Nat} {v : Value} (h : Rd w p rv row place c) (hq : p < q) : Rd (w.setCell ⟨q, i, none⟩ v) p rv row place c :=
  h.grown (grown_set w q i v) (by simp; omega) (by cases hv : rv.ownBlock with | none => exact .inl rfl | some g => right; intro e; have := h.off g hv; simp at e; omega)
theorem gset {w w1 : World} {row : Option Nat} {q i : Nat} {v : Value} (h : w.grownBy w1 row) (hq : w.heap.size ≤ q) : w.grownBy (w1.setCell ⟨q, i, none⟩ v) row :=
  grownBy_trans h (grown_set w1 q i v) (fun j hj hlt => by simp at hj; omega)
theorem gdrew {w w1 : World} {row : Option Nat} (h : w.grownBy w1 row) : w.grownBy w1.drew row := ⟨h.os, h.tape, h.output, h.size, h.block⟩
theorem galloc {w w1 : World} {row : Option Nat} {o : Obj} (h : w.grownBy w1 row) : w.grownBy (w1.alloc o) row := grownBy_trans h (World.grownBy_alloc w1 o none) (fun j hj _ => by simp at hj)
theorem gbelow {w w1 w2 : World} {row : Option Nat} (h : w.grownBy w1 row) (hb : Below w1.heap.size w1 w2) : w.grownBy w2 row := grownBy_trans h (grown_of_below hb none) (fun j hj _ => by simp at hj)

theorem act_fin {B p : Nat} {rv : Value} {row r1 : List Nat} {place c cap : Nat} {ao : Option Addr} {w w' : World} (hr : r1 = row.drop place) (hrd : Rd w' p rv row place c) (hru : RdU w' B (.slice ao r1.length cap) r1) (hg : w.grownBy w' (some p)) :
    ActPost B p rv row w (.returned (.tuple #[.agg #[.slice ao r1.length cap, .int .i64 (c : Int)], .bool true])) w' := by
  subst hr
  exact ⟨ao, cap, place, c, rfl, hrd, hru, hg⟩

set_option maxHeartbeats 400000 in
set_option maxRecDepth 100000 in
theorem act_number (B : Nat) {w : World} {p : Nat} {rv : Value} {row : List Nat} {place c : Nat} (h : Rd w p rv row place c) (hBp : B ≤ p) (ao : Option Addr) (cap : Nat) (hru : RdU w B (.slice ao (row.drop place).length cap) (row.drop place))
    (kind most : Int) (nn : Nat) (hm1 : -9223372036854775808 ≤ most) (hm2 : most ≤ 9223372036854775807) (hrow : row.length ≤ 10000000000000)
    (t0 : ((IntKind.u64.wrap kind).tmod 6 == 0) = true)
    :
    Calls Try.prog 39 #[.pointer (some ⟨p, 0, none⟩), .agg #[.slice ao (row.drop place).length cap, .int .i64 (c : Int)], .agg #[.int .i64 kind, .int .u64 (nn : Int), .int .i64 most]] w (ActPost B p rv row w) := by
  have hpw := h.lt
  have hBw : B ≤ w.heap.size := by omega
  have hby : ∀ y ∈ row.drop place, y < 256 := fun y hy => h.byte y (List.mem_of_mem_drop hy)
  have hrl : (row.drop place).length ≤ 10000000000000 := by rw [List.length_drop]; omega
  have H := Lib.hid h
  have HRU := Lib.hid hru
  clear h hru
  generalize hrest : row.drop place = rest at *
  have HREST := Lib.hid hrest
  clear hrest
  go_enter Try.func39, Try.ntmps39
  go_wp2_with fail
  refine (rnumber_any B ao cap rest c _ (by simp; omega) (HRU.out.below ((((Below.refl _ _).alloc (by omega) _).alloc (by simp; omega) _).alloc (by simp; omega) _)) hby).mono ?_
  rintro e w1 ⟨n1, a1, p1, r1, c1, rfl, hn1, hr1, hb1⟩
  clear hby hrl
  obtain ⟨B1, B2, B3⟩ := new3 hb1
  have hz : w.heap.size + 1 + 1 < w1.heap.size := by have := hb1.size; simp at this; omega
  have hz1 : w.heap.size + 1 < w1.heap.size := by omega
  have hz0 : w.heap.size < w1.heap.size := by omega
  have hne1 : w.heap.size ≠ w1.heap.size := by omega
  have hne2 : w1.heap.size ≠ w.heap.size := by omega
  have hne3 : w.heap.size + 1 + 1 ≠ w.heap.size := by omega
  have hne4 : w.heap.size ≠ w.heap.size + 1 + 1 := by omega
  have hbw : Below w.heap.size w w1 := ((((Below.refl _ _).alloc (Nat.le_refl _) _).alloc (by simp) _).alloc (by simp; omega) _).trans (hb1.mono (by simp; omega))
  clear hb1
  -- the world of the second region: the next reader's block made
  have hnb := heap_alloc_new w1 (.cells #[.slice a1 r1.length p1, .int .i64 (c1 : Int)] 57)
  have hbw' : Below w.heap.size w (w1.alloc (.cells #[.slice a1 r1.length p1, .int .i64 (c1 : Int)] 57)) := hbw.alloc hbw.size _
  have C1 := (Below.heap_alloc w1 (.cells #[.slice a1 r1.length p1, .int .i64 (c1 : Int)] 57) _ hz0).trans B1
  have C2 := (Below.heap_alloc w1 (.cells #[.slice a1 r1.length p1, .int .i64 (c1 : Int)] 57) _ hz1).trans B2
  have C3 := (Below.heap_alloc w1 (.cells #[.slice a1 r1.length p1, .int .i64 (c1 : Int)] 57) _ hz).trans B3
  have hsz : (w1.alloc (.cells #[.slice a1 r1.length p1, .int .i64 (c1 : Int)] 57)).heap.size = w1.heap.size + 1 := by simp
  have hr1' := hr1.below (w' := w1.alloc (.cells #[.slice a1 r1.length p1, .int .i64 (c1 : Int)] 57)) ((Below.refl _ _).alloc (by omega) _)
  have HN1 := Lib.hid hn1
  have HG1 := Lib.hid (grown_of_below hbw' (some p))
  clear hn1
  obtain ⟨d1, d2, _, _⟩ := blk2 hnb
  obtain ⟨d3, d4, d5, d6⟩ := blk2 C1
  obtain ⟨f1, f2, f3, _, _, _⟩ := blk3 C2
  have HC1 := Lib.hid C1
  have HC3 := Lib.hid C3
  have HNB := Lib.hid hnb
  have HBW := Lib.hid hbw'
  have HR1 := Lib.hid hr1'
  clear B1 B2 B3 C1 C2 C3 hnb hbw hbw' hr1 hr1'
  go_wp2_with fail
  go_region_held3 (fun w' => w'.cell? ⟨w1.heap.size, 0, none⟩ = some (.slice a1 r1.length p1) ∧ w'.cell? ⟨w1.heap.size, 1, none⟩ = some (.int .i64 (c1 : Int))) (go_keep) (first
    | (go_at_call 28; refine (number_any (H.out.below (by have hbw' := HBW.out; (repeat (first | exact Below.refl _ _ | assumption | (refine Below.setCell ?_ (by first | omega | (simp; done) | (simp; omega)) _) | (refine Below.alloc ?_ (by first | omega | (simp; done) | (simp; omega)) _) | (refine Below.drew ?_) | (refine below_dn ?_)))) (Nat.le_refl _))).mono ?_; rintro e w2 ⟨n2, pl2, c2, rfl, hn2, hrd2, hg2⟩
       rw [HREST.out] at hn2
       obtain ⟨rfl, hrr, rfl⟩ := HN1.out.unique hn2
       have HRR := Lib.hid hrr
       clear hn2 hrr
       have hg2' := hg2
       have hN2 := (hg2.block w1.heap.size (by simp) (by simp; omega)).trans HNB.out
       have hM2 := (hg2.block w.heap.size (by simp; omega) (by simp; omega)).trans HC1.out
       have hZ2 := (hg2.block (w.heap.size + 1 + 1) (by simp; omega) (by simp; omega)).trans HC3.out
       obtain ⟨k1, k2, _, _⟩ := blk2 hN2
       obtain ⟨m1, m2, m3, m4⟩ := blk2 hM2
       have hz2 : w.heap.size + 1 + 1 < w2.heap.size := (Array.getElem?_eq_some_iff.1 hZ2).1
       have hB2 : Below B (w1.alloc (.cells #[.slice a1 r1.length p1, .int .i64 (c1 : Int)] 57)) w2 := Below.trans (by (repeat (first | exact Below.refl _ _ | assumption | (refine Below.setCell ?_ (by first | omega | (simp; done) | (simp; omega)) _) | (refine Below.alloc ?_ (by first | omega | (simp; done) | (simp; omega)) _) | (refine Below.drew ?_) | (refine below_dn ?_)))) (below_of_grown hg2 hBp (by simp; omega))
       have hG2 : w.grownBy w2 (some p) := grownBy_trans (by have hG1 := HG1.out; (repeat (first | assumption | (refine gdrew ?_) | (refine gset ?_ (by first | omega | (simp; done) | (simp; omega))) | (refine galloc ?_)))) hg2 (fun j hj _ => hj)
       have HM2 := Lib.hid hM2
       have HZ2 := Lib.hid hZ2
       have HRD2 := Lib.hid hrd2
       have HB2 := Lib.hid hB2
       have HG2 := Lib.hid hG2
       clear hg2 hg2' hN2 hM2 hZ2 hrd2 hB2 hG2))
  all_goals
    clear d1 d2 d3 d4 d5 d6 f1 f2 f3 k1 k2 m1 m2 m3 m4
    have hM4 := set2 (x := .slice a1 r1.length p1) (y := .int .i64 (c1 : Int)) HM2.out
    obtain ⟨q1, q2, _, _⟩ := blk2 hM4
    have hZ4 : ((w2.setCell ⟨w.heap.size, 0, none⟩ (.slice a1 r1.length p1)).setCell ⟨w.heap.size, 1, none⟩ (.int .i64 (c1 : Int))).heap[w.heap.size + 1 + 1]? = some (.cells #[.slice none 0 0, .int .i64 0] 57 (0, 0)) := by
      rw [heap_setCell_other _ _ _ _ (by simp; omega), heap_setCell_other _ _ _ _ (by simp; omega)]
      exact HZ2.out
    obtain ⟨q5, q6, q7, q8⟩ := blk2 hZ4
    have HM4 := Lib.hid hM4
    have HZ4 := Lib.hid hZ4
    have HLL := Lib.hid (show row.length - pl2 = r1.length by rw [HRR.out, List.length_drop])
    clear hM4 hZ4
    go_wp2_with fail
    go_region_held3 (fun w' => w'.cell? ⟨w.heap.size, 0, none⟩ = some (.slice a1 r1.length p1) ∧ w'.cell? ⟨w.heap.size, 1, none⟩ = some (.int .i64 (c1 : Int))) (go_keep) (first
      | (go_at_call 38; refine (same_any (rv := rv) (row := row) (place := pl2) (c := c1) (by have hrd2 := HRD2.out; (repeat (first | assumption | (refine Rd.drew ?_) | (refine Rd.setOther ?_ (by first | omega | (simp; done) | (simp; omega)))))) a1 r1.length p1 HLL.out).mono ?_; rintro e w5 ⟨rfl, hb5⟩
         have hM5 := (hb5.block w.heap.size (by simp; omega)).trans HM4.out
         have hZ5 := (hb5.block (w.heap.size + 1 + 1) (by simp; omega)).trans HZ4.out
         obtain ⟨s1, s2, s3, s4⟩ := blk2 hM5
         obtain ⟨s5, s6, s7, s8⟩ := blk2 hZ5
         have hrd5 : Rd w5 p rv row pl2 c1 := Rd.below (by have hrd2 := HRD2.out; (repeat (first | assumption | (refine Rd.drew ?_) | (refine Rd.setOther ?_ (by first | omega | (simp; done) | (simp; omega)))))) hb5 (Nat.le_refl _)
         have hB5 : Below B (w1.alloc (.cells #[.slice a1 r1.length p1, .int .i64 (c1 : Int)] 57)) w5 := Below.trans (by have hB2 := HB2.out; (repeat (first | exact Below.refl _ _ | assumption | (refine Below.setCell ?_ (by first | omega | (simp; done) | (simp; omega)) _) | (refine Below.alloc ?_ (by first | omega | (simp; done) | (simp; omega)) _) | (refine Below.drew ?_) | (refine below_dn ?_)))) (hb5.mono (by simp; omega))
         have hG5 : w.grownBy w5 (some p) := gbelow (by have hG2 := HG2.out; (repeat (first | assumption | (refine gdrew ?_) | (refine gset ?_ (by first | omega | (simp; done) | (simp; omega))) | (refine galloc ?_)))) hb5
         have HRD5 := Lib.hid hrd5
         have HB5 := Lib.hid hB5
         have HG5 := Lib.hid hG5
         clear hb5 hM5 hZ5 hrd5 hB5 hG5))
    all_goals go_wp2
    all_goals exact bodyPost_ret (v := .tuple #[.agg #[.slice a1 r1.length p1, .int .i64 (c1 : Int)], .bool true]) (by simp [results, Try.results39, go_sem, s5, s6]) rfl (act_fin HRR.out (by have hrd5 := HRD5.out; (repeat (first | assumption | (refine Rd.drew ?_) | (refine Rd.setOther ?_ (by first | omega | (simp; done) | (simp; omega)))))) (HR1.out.below (by have hB5 := HB5.out; (repeat (first | exact Below.refl _ _ | assumption | (refine Below.setCell ?_ (by first | omega | (simp; done) | (simp; omega)) _) | (refine Below.alloc ?_ (by first | omega | (simp; done) | (simp; omega)) _) | (refine Below.drew ?_) | (refine below_dn ?_))))) (by have hG5 := HG5.out; (repeat (first | assumption | (refine gdrew ?_) | (refine gset ?_ (by first | omega | (simp; done) | (simp; omega))) | (refine galloc ?_)))))


end Go.Proofs.Ytlaloddmlkkbgaa
