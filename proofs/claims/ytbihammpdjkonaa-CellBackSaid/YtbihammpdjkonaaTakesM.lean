/- The contract of package cell's Take. · What a nil reader gives: Take and TakeRun. · The law's own Are, of cells that are the document's. · Bytes that are written where they stand: a slice of cells whose data may change, byte for byte. · CellTakes, walked. -/
import Derived.Test.YtbihammpdjkonaaTakH
import Derived.Test.YtbihammpdjkonaaCelE
import Derived.Test.YtbihammpdjkonaaCelV
import Derived.Test.YtbihammpdjkonaaCelY
import Derived.Deep.RegionHeld3
import Derived.Test.YtbihammpdjkonaaCelK
namespace Go.Proofs.Ytbihammpdjkonaa
open Go.RowKit

/-- What Take answers. -/
def CTakePost (p : Nat) (rv : Value) (row : List Nat) (place c : Nat) (w : World) (e : Ending) (w' : World) : Prop :=
  ∃ (v' : Value) (k : Nat) (d : List Nat) (place' c' : Nat) (fin : List Nat), e = .returned (.agg #[.int .i64 (k : Int), v']) ∧ TCell (row.drop place) c k d c' fin ∧ Rd w' p rv row place' c' ∧ (c' = 0 → row.drop place' = fin) ∧
    Owns w' w.heap.size 5 .u8 v' d ∧ w.grownBy w' (some p)

theorem Rd.putC {w : World} {p q : Nat} {rv : Value} {row : List Nat} {place c : Nat} {cs : Array Value} (h : Rd w p rv row place c) (hq : w.heap[q]? = some (.cells cs 24 (0, 0))) (i : Nat) (x : Value) : Rd (w.setCell ⟨q, i, none⟩ x) p rv row place c := by
  refine h.grown (grown_set w q i x) ?_ ?_
  · intro e
    cases e
    have := hq.symm.trans h.blk
    cases this
  · cases hv : rv.ownBlock with
    | none => exact .inl rfl
    | some j =>
      right
      intro he
      cases he
      obtain ⟨c2, h2⟩ := h.own.ty hv
      have := h2.symm.trans hq
      cases this
theorem Owns.putC {w : World} {base q : Nat} {v : Value} {l : List Nat} {cs : Array Value} (h : Owns w base 5 .u8 v l) (hq : w.heap[q]? = some (.cells cs 24 (0, 0))) (i : Nat) (x : Value) : Owns (w.setCell ⟨q, i, none⟩ x) base 5 .u8 v l := by
  refine h.grown (grown_set w q i x) ?_
  cases hv : v.ownBlock with
  | none => exact .inl rfl
  | some j =>
    right
    intro he
    cases he
    obtain ⟨c2, h2⟩ := h.ty hv
    have := h2.symm.trans hq
    cases this
theorem grown_put {w w' : World} {p q : Nat} (h : w.grownBy w' (some p)) (hq : w.heap.size ≤ q) (i : Nat) (x : Value) : w.grownBy (w'.setCell ⟨q, i, none⟩ x) (some p) :=
  grownBy_trans h (grown_set w' q i x) (fun j hj h2 => by cases hj; omega)

set_option maxHeartbeats 4000000 in
set_option maxRecDepth 100000 in
theorem cellTake_any {w : World} {p : Nat} {rv : Value} {row : List Nat} {place c : Nat} (hr : Rd w p rv row place c) :
    Calls Try.prog 28 #[.pointer (some ⟨p, 0, none⟩)] w (CTakePost p rv row place c w) := by
  obtain ⟨W0, hW0⟩ : ∃ W0, W0 = w.alloc (.cells #[.int .i64 0, .slice none 0 0] 24) := ⟨_, rfl⟩
  have hb0 : Below w.heap.size w W0 := by rw [hW0]; exact (Below.refl _ _).alloc (Nat.le_refl _) _
  have hR0 : W0.heap[w.heap.size]? = some (.cells #[.int .i64 0, .slice none 0 0] 24 (0, 0)) := by rw [hW0]; exact heap_alloc_new _ _
  have HR0 := Lib.hid hR0
  have HRD0 := Lib.hid (hr.below hb0 (Nat.le_refl _))
  have HB0 := Lib.hid hb0
  have HPL : Hid (p < w.heap.size) := Lib.hid hr.lt
  clear hb0 hR0 hr
  go_enter Try.func28, Try.ntmps28
  go_wp2_with fail
  rw [← hW0]
  refine (within_any HRD0.out 3).mono ?_
  rintro e w1 ⟨n, pl1, c1, rfl, hn, hrd, hg⟩
  obtain ⟨z, hz⟩ : ∃ z, z = withinR n 3 := ⟨_, rfl⟩
  obtain ⟨d, hd⟩ : ∃ d, d = withinC n c1 3 := ⟨_, rfl⟩
  rw [← hd] at hrd
  rw [← hz]
  have HN := Lib.hid hn
  have HZ := Lib.hid hz
  have HD := Lib.hid hd
  have HSW : Hid (w.heap.size < w1.heap.size) := Lib.hid (Nat.lt_of_lt_of_le (Array.getElem?_eq_some_iff.1 HR0.out).1 hg.size)
  have HR1 : Hid (w1.heap[w.heap.size]? = some (.cells #[.int .i64 0, .slice none 0 0] 24 (0, 0))) := Lib.hid ((hg.block _ (Array.getElem?_eq_some_iff.1 HR0.out).1 (fun e => by have := HPL.out; cases e; omega)).trans HR0.out)
  have hg1 : w.grownBy w1 (some p) := grownBy_trans (row := some p) ⟨HB0.out.os, HB0.out.tape, HB0.out.output, HB0.out.size, fun j hj _ => HB0.out.block j hj⟩ hg (fun j hj _ => hj)
  obtain ⟨W2, hW2⟩ : ∃ W2, W2 = w1.alloc (.cells #[.int .i64 (z : Int), .slice none 0 0] 24) := ⟨_, rfl⟩
  have hb2 : Below w1.heap.size w1 W2 := by rw [hW2]; exact (Below.refl _ _).alloc (Nat.le_refl _) _
  have HQ2 : Hid (W2.heap[w1.heap.size]? = some (.cells #[.int .i64 (z : Int), .slice none 0 0] 24 (0, 0))) := Lib.hid (by rw [hW2]; exact heap_alloc_new _ _)
  have HR2 : Hid (W2.heap[w.heap.size]? = some (.cells #[.int .i64 0, .slice none 0 0] 24 (0, 0))) := Lib.hid ((hb2.block _ HSW.out).trans HR1.out)
  have HX2 := Lib.hid (hrd.below hb2 (Nat.le_refl _))
  have HG2 : Hid (w.grownBy W2 (some p)) := Lib.hid (grownBy_trans hg1 (row1 := none) ⟨hb2.os, hb2.tape, hb2.output, hb2.size, fun j hj _ => hb2.block j hj⟩ (fun j hj _ => by cases hj))
  have HS2 : Hid (w.heap.size ≤ W2.heap.size) := Lib.hid (by have := HSW.out; have := hb2.size; omega)
  obtain ⟨a0, a1, a2, a3⟩ := blk2 HQ2.out
  have HW2 := Lib.hid hW2
  clear hz hd hn hg hrd hb2 hW2 hg1 HB0 HRD0 HR0 HR1
  by_cases hz1 : z = 1
  · have hz1i : ((z : Int) == 1) = true := by rw [hz1]; rfl
    have HN1 : Hid (n = 1 ∧ d = c1 ∧ z = 1) := Lib.hid (by
      have h1 := HZ.out
      have h2 := HD.out
      unfold withinR at h1
      unfold withinC at h2
      split at h1
      · omega
      · have : n = 1 := by omega
        subst this
        rw [if_neg (by omega)] at h2
        exact ⟨rfl, h2, hz1⟩)
    clear hz1
    go_wp2_with fail
    rw [← HW2.out]
    refine (text_any HX2.out 64 (by decide) (by decide)).mono ?_
    rintro e w3 ⟨v3, out, m, pl2, c2, pl3, cc, rfl, hm, hf, ho, hrd3, hg3⟩
    obtain ⟨ao3, cap3, rfl, _, _, _⟩ := ho.reads.val
    have hbp : w1.heap.size ≠ p := by have := HPL.out; have := HSW.out; omega
    have HQ3 : Hid (w3.heap[w1.heap.size]? = some (.cells #[.int .i64 (z : Int), .slice none 0 0] 24 (0, 0))) := Lib.hid ((hg3.block _ (Array.getElem?_eq_some_iff.1 HQ2.out).1 (fun e => hbp (by cases e; rfl))).trans HQ2.out)
    have HR3 : Hid (w3.heap[w.heap.size]? = some (.cells #[.int .i64 0, .slice none 0 0] 24 (0, 0))) := Lib.hid ((hg3.block _ (Array.getElem?_eq_some_iff.1 HR2.out).1 (fun e => by have := HPL.out; cases e; omega)).trans HR2.out)
    obtain ⟨W4, hW4⟩ : ∃ W4, W4 = w3.setCell ⟨w1.heap.size, 1, none⟩ (.slice ao3 out.length cap3) := ⟨_, rfl⟩
    have HX4 : Hid (Rd W4 p rv row pl3 cc) := Lib.hid (by rw [hW4]; exact hrd3.putC HQ3.out 1 _)
    have HO4 : Hid (Owns W4 w.heap.size 5 .u8 (.slice ao3 out.length cap3) out) := Lib.hid (by rw [hW4]; exact (ho.mono HS2.out).putC HQ3.out 1 _)
    have HQ4 : Hid (W4.heap[w1.heap.size]? = some (.cells #[.int .i64 (z : Int), .slice ao3 out.length cap3] 24 (0, 0))) := Lib.hid (by rw [hW4, heap_setCell_same _ _ 1 _ _ _ HQ3.out]; rfl)
    have HR4 : Hid (W4.heap[w.heap.size]? = some (.cells #[.int .i64 0, .slice none 0 0] 24 (0, 0))) := Lib.hid (by rw [hW4, heap_setCell_other _ _ _ _ (by have := HSW.out; simp; omega)]; exact HR3.out)
    have HG4 : Hid (w.grownBy W4 (some p)) := Lib.hid (by rw [hW4]; exact grown_put (grownBy_trans HG2.out hg3 (fun j hj _ => hj)) (Nat.le_of_lt HSW.out) 1 _)
    obtain ⟨g0, g1, g2, g3⟩ := blk2 HQ3.out
    have HW4 := Lib.hid hW4
    have HM := Lib.hid hm
    have HF := Lib.hid hf
    clear hW4 hm hf ho hrd3 hg3 hbp a0 a1 a2 a3 HX2 HQ2 HR2 HG2
    go_wp2_with fail
    rw [← HW4.out]
    obtain ⟨r0, r1, r2, r3⟩ := blk2 HR4.out
    obtain ⟨q0, q1, q2, q3⟩ := blk2 HQ4.out
    have hz9 := set2 (x := .int .i64 (z : Int)) (y := .slice ao3 out.length cap3) HR4.out
    obtain ⟨s0, s1, _, _⟩ := blk2 hz9
    have hz8 := set2 (x := .int .i64 0) (y := .slice none 0 0) HR4.out
    obtain ⟨y0, y1, _, _⟩ := blk2 hz8
    clear hz9 hz8
    refine (err_any HX4.out).mono ?_
    rintro e w9 ⟨rfl, rfl⟩
    by_cases h0 : cc = 0
    · have HT : Hid (TCell (row.drop place) c z out cc (row.drop pl3)) := Lib.hid (⟨n, _, c1, HN.out, .inr ⟨HN1.out.1, m, _, c2, out, _, cc, by have := HM.out; rw [HN1.out.2.1] at this; exact this, HF.out, .inr ⟨h0, HN1.out.2.2, rfl, h0, rfl⟩⟩⟩)
      rw [h0, errV_zero]
      rw [h0] at HT
      have HXX := HX4
      rw [h0] at HXX
      clear h0
      go_wp2
      refine bodyPost_ret (v := .agg #[.int .i64 (z : Int), .slice ao3 out.length cap3]) (by simp [results, Try.results28, go_sem, s0, s1]) rfl ⟨.slice ao3 out.length cap3, z, out, pl3, 0, _, rfl, HT.out, ?_, fun _ => rfl, ?_, ?_⟩
      · exact (HXX.out.putC HR4.out 0 _).putC (heap_setCell_same _ _ 0 _ _ _ HR4.out) 1 _
      · exact (HO4.out.putC HR4.out 0 _).putC (heap_setCell_same _ _ 0 _ _ _ HR4.out) 1 _
      · exact grown_put (grown_put HG4.out (Nat.le_refl _) 0 _) (Nat.le_refl _) 1 _
    · have HT : Hid (TCell (row.drop place) c 0 [] cc []) := Lib.hid (⟨n, _, c1, HN.out, .inr ⟨HN1.out.1, m, _, c2, out, _, cc, by have := HM.out; rw [HN1.out.2.1] at this; exact this, HF.out, .inl ⟨h0, rfl, rfl, rfl, rfl⟩⟩⟩)
      have H0 := Lib.hid h0
      rw [errV_pos h0]
      clear h0
      go_wp2
      refine bodyPost_ret (v := .agg #[.int .i64 0, .slice none 0 0]) (by simp [results, Try.results28, go_sem, y0, y1]) rfl ⟨.slice none 0 0, 0, [], pl3, cc, [], rfl, HT.out, ?_, fun h => absurd h H0.out, owns_nil _ _ _ _, ?_⟩
      · exact (HX4.out.putC HR4.out 0 _).putC (heap_setCell_same _ _ 0 _ _ _ HR4.out) 1 _
      · exact grown_put (grown_put HG4.out (Nat.le_refl _) 0 _) (Nat.le_refl _) 1 _
  · have hz1i : ((z : Int) == 1) = false := by rw [beq_eq_false_iff_ne]; omega
    have HN1 : Hid (n ≠ 1 ∧ (d = 0 → z = n)) := Lib.hid (by
      have h1 := HZ.out
      have h2 := HD.out
      unfold withinR at h1
      unfold withinC at h2
      refine ⟨fun h => ?_, fun h => ?_⟩
      · subst h
        rw [if_neg (by omega)] at h1
        exact hz1 h1
      · split at h1
        · next h3 => rw [h] at h2; (repeat' split at h2) <;> omega
        · exact h1)
    clear hz1
    go_wp2_with fail
    rw [← HW2.out]
    obtain ⟨r0, r1, r2, r3⟩ := blk2 HR2.out
    obtain ⟨q0, q1, q2, q3⟩ := blk2 HQ2.out
    have hz9 := set2 (x := .int .i64 (z : Int)) (y := .slice none 0 0) HR2.out
    obtain ⟨s0, s1, _, _⟩ := blk2 hz9
    have hz8 := set2 (x := .int .i64 0) (y := .slice none 0 0) HR2.out
    obtain ⟨y0, y1, _, _⟩ := blk2 hz8
    clear hz9 hz8
    refine (err_any HX2.out).mono ?_
    rintro e w9 ⟨rfl, rfl⟩
    by_cases h0 : d = 0
    · have HT : Hid (TCell (row.drop place) c z [] d (row.drop pl1)) := Lib.hid (⟨n, _, c1, HN.out, .inl ⟨HN1.out.1, .inr ⟨by rw [← HD.out]; exact h0, HN1.out.2 h0, rfl, h0, rfl⟩⟩⟩)
      rw [h0, errV_zero]
      rw [h0] at HT
      have HXX := HX2
      rw [h0] at HXX
      clear h0
      go_wp2
      refine bodyPost_ret (v := .agg #[.int .i64 (z : Int), .slice none 0 0]) (by simp [results, Try.results28, go_sem, s0, s1]) rfl ⟨.slice none 0 0, z, [], pl1, 0, _, rfl, HT.out, ?_, fun _ => rfl, ?_, ?_⟩
      · exact (HXX.out.putC HR2.out 0 _).putC (heap_setCell_same _ _ 0 _ _ _ HR2.out) 1 _
      · exact ((owns_nil _ _ _ _ : Owns _ w.heap.size 5 .u8 (.slice none 0 0) []).putC HR2.out 0 _).putC (heap_setCell_same _ _ 0 _ _ _ HR2.out) 1 _
      · exact grown_put (grown_put HG2.out (Nat.le_refl _) 0 _) (Nat.le_refl _) 1 _
    · have HT : Hid (TCell (row.drop place) c 0 [] d []) := Lib.hid (⟨n, _, c1, HN.out, .inl ⟨HN1.out.1, .inl ⟨by rw [← HD.out]; exact h0, rfl, rfl, HD.out, rfl⟩⟩⟩)
      have H0 := Lib.hid h0
      rw [errV_pos h0]
      clear h0
      go_wp2
      refine bodyPost_ret (v := .agg #[.int .i64 0, .slice none 0 0]) (by simp [results, Try.results28, go_sem, y0, y1]) rfl ⟨.slice none 0 0, 0, [], pl1, d, [], rfl, HT.out, ?_, fun h => absurd h H0.out, owns_nil _ _ _ _, ?_⟩
      · exact (HX2.out.putC HR2.out 0 _).putC (heap_setCell_same _ _ 0 _ _ _ HR2.out) 1 _
      · exact grown_put (grown_put HG2.out (Nat.le_refl _) 0 _) (Nat.le_refl _) 1 _

end Go.Proofs.Ytbihammpdjkonaa

namespace Go.Proofs.Ytbihammpdjkonaa
open Go.RowKit

set_option maxHeartbeats 400000 in
set_option maxRecDepth 100000 in
theorem numberN (w : World) : Calls Try.prog 60 #[.pointer none] w fun e w' => e = .returned (.int .u64 0) ∧ w = w' := by
  go_enter Try.func60, Try.ntmps60
  go_wp2_with fail
  refine (err_nil w).mono ?_
  rintro e w' ⟨rfl, rfl⟩
  rw [errV_pos (by decide)]
  go_wp2
  go_ret
  exact ⟨rfl, rfl⟩

set_option maxHeartbeats 400000 in
set_option maxRecDepth 100000 in
theorem withinN (w : World) : Calls Try.prog 48 #[.pointer none, .int .u64 3] w fun e w' => e = .returned (.int .i64 0) ∧ w = w' := by
  go_enter Try.func48, Try.ntmps48
  go_wp2_with fail
  refine (numberN w).mono ?_
  rintro e w' ⟨rfl, rfl⟩
  go_wp2
  go_ret
  exact ⟨rfl, rfl⟩

set_option maxHeartbeats 1000000 in
set_option maxRecDepth 100000 in
theorem cellTakeN (w : World) : Calls Try.prog 28 #[.pointer none] w fun e w' => e = .returned (.agg #[.int .i64 0, .slice none 0 0]) ∧ Below w.heap.size w w' := by
  obtain ⟨hb0, hx1, hx2⟩ := two_boxes w (.slice none 0 0) (.slice none 0 0) 0 0
  obtain ⟨W0, hW0⟩ : ∃ W0, W0 = (w.alloc (.cells #[.int .i64 0, .slice none 0 0] 24)).alloc (.cells #[.int .i64 0, .slice none 0 0] 24) := ⟨_, rfl⟩
  rw [← hW0] at hb0 hx1 hx2
  obtain ⟨a0, a1, a2, a3⟩ := blk2 hx1
  have hz := set2 (x := .int .i64 0) (y := .slice none 0 0) hx1
  obtain ⟨s0, s1, _, _⟩ := blk2 hz
  have HB0 := Lib.hid hb0
  have HW0 := Lib.hid hW0
  clear hx1 hx2 hz hb0 hW0
  go_enter Try.func28, Try.ntmps28
  go_wp2_with fail
  refine (withinN _).mono ?_
  rintro e w' ⟨rfl, rfl⟩
  go_wp2_with fail
  rw [← HW0.out]
  refine (err_nil _).mono ?_
  rintro e w' ⟨rfl, rfl⟩
  rw [errV_pos (by decide)]
  go_wp2
  exact bodyPost_ret (v := .agg #[.int .i64 0, .slice none 0 0]) (by simp [results, Try.results28, go_sem, s0, s1]) rfl ⟨rfl, (HB0.out.setCell (Nat.le_refl _) _).setCell (Nat.le_refl _) _⟩

set_option maxHeartbeats 400000 in
set_option maxRecDepth 100000 in
theorem upToN {w : World} {t : Nat} {a b : Value} (h : w.heap[t]? = some (.cells #[.pointer none, a, b] 92 (0, 0))) (v : Value) :
    Calls Try.prog 52 #[.pointer (some ⟨t, 0, none⟩), .int .i64 64, v] w fun e w' => e = .returned (.int .i64 0) ∧ w = w' := by
  have c0 : w.cell? ⟨t, 0, none⟩ = some (.pointer none) := by rw [cell_of_row w t 0 _ _ _ h]; rfl
  clear h
  go_enter Try.func52, Try.ntmps52
  go_wp2_with fail
  refine (numberN _).mono ?_
  rintro e w' ⟨rfl, rfl⟩
  go_wp2
  go_ret
  exact ⟨rfl, rfl⟩

set_option maxHeartbeats 1000000 in
set_option maxRecDepth 100000 in
theorem takeRunN (w : World) : Calls Try.prog 33 #[.pointer none] w fun e w' => e = .returned (.slice none 0 0) ∧ Below w.heap.size w w' := by
  obtain ⟨W0, hW0⟩ : ∃ W0, W0 = w.alloc (.cells #[.pointer none, .slice none 0 0, .slice none 0 0] 92) := ⟨_, rfl⟩
  have hb0 : Below w.heap.size w W0 := by rw [hW0]; exact (Below.refl _ _).alloc (Nat.le_refl _) _
  have hx : W0.heap[w.heap.size]? = some (.cells #[.pointer none, .slice none 0 0, .slice none 0 0] 92 (0, 0)) := by rw [hW0]; exact heap_alloc_new _ _
  have c0 : W0.cell? ⟨w.heap.size, 0, none⟩ = some (.pointer none) := by rw [cell_of_row W0 _ 0 _ _ _ hx]; rfl
  have HX := Lib.hid hx
  have HB0 := Lib.hid hb0
  have HW0 := Lib.hid hW0
  clear hx hb0 hW0
  go_enter Try.func33, Try.ntmps33
  go_wp2_with fail
  rw [← HW0.out]
  refine (upToN HX.out _).mono ?_
  rintro e w' ⟨rfl, rfl⟩
  go_wp2
  go_loopw [] (fun wr => wr = W0) (fun _ => 0)
  case atStart => rfl
  case round =>
    subst hrel
    go_wp2_with fail
    refine (err_nil _).mono ?_
    rintro e w' ⟨rfl, rfl⟩
    rw [errV_pos (by decide)]
    go_wp2_with fail
    refine (err_nil _).mono ?_
    rintro e w' ⟨rfl, rfl⟩
    rw [errV_pos (by decide)]
    go_wp2
    exact bodyPost_ret (v := .slice none 0 0) (by simp [results, Try.results33, go_sem]) rfl ⟨rfl, HB0.out⟩

end Go.Proofs.Ytbihammpdjkonaa

namespace Go.Proofs.Ytbihammpdjkonaa
open Go.RowKit

set_option maxHeartbeats 2000000 in
set_option maxRecDepth 100000 in
theorem are_any (v m : Value) (cs : List IC) (w : World) (B : Nat → Prop) (base : Nat) (hr : CellsAt w B v cs) (hm : OwnsD w base m cs) (hl : cs.length ≤ 1000000) :
    Calls Try.prog 35 #[v, m] w fun e w' => e = .returned (.bool true) ∧ Below w.heap.size w w' := by
  obtain ⟨ao, cap, rfl, h1, h2, h3⟩ := hr.val
  obtain ⟨aom, capm, rfl⟩ := hm.form
  have HR := Lib.hid (hr.mono (C := fun j => j < w.heap.size) fun j hj _ => hj)
  have HM := Lib.hid hm
  clear hr hm
  go_enter Try.func35, Try.ntmps35
  go_wp2
  go_loopw [5, 13] (fun _ i wr => ∃ k : Nat, k ≤ cs.length ∧ i = .int .i64 (k : Int) ∧ Below w.heap.size w wr)
    (fun _ i _ => cs.length - (intOf i).toNat)
  case atStart => exact ⟨0, Nat.zero_le _, rfl, Below.refl _ _⟩
  case round =>
    obtain ⟨k, hk, rfl, hb⟩ := hrel
    have HB := Lib.hid hb
    clear hb
    by_cases hlt : k < cs.length
    · obtain ⟨b, off, x, rfl, hbb, _, c0, c1, hat⟩ := HR.out.at hlt
      obtain ⟨g, rfl, hgg, m0, m1⟩ := HM.out.at hlt
      have d0 := (HB.out.cell (p := ⟨b, off + k * 2, none⟩) hbb).trans c0
      have d1 := (HB.out.cell (p := ⟨b, off + k * 2 + 1, none⟩) hbb).trans c1
      have n0 := (HB.out.cell (p := ⟨g, k * 2, none⟩) hgg).trans m0
      have n1 := (HB.out.cell (p := ⟨g, k * 2 + 1, none⟩) hgg).trans m1
      generalize hg : cs.getD k (0, []) = gg at d0 d1 hat n0 n1
      obtain ⟨kk, d⟩ := gg
      simp only at d0 hat n0 n1
      obtain ⟨aot, capt, rfl, _, _, _⟩ := hat.reads.val
      have HAT := Lib.hid (hat.keep (kept_below HB.out))
      have HBB : Hid (b < wr.heap.size) := Lib.hid (Nat.lt_of_lt_of_le hbb HB.out.size)
      have HGG : Hid (g < wr.heap.size) := Lib.hid (Nat.lt_of_lt_of_le hgg HB.out.size)
      clear hg hat c0 c1 m0 m1 hbb hgg
      have D0 := Lib.hid d0
      have D1 := Lib.hid d1
      have N0 := Lib.hid n0
      have N1 := Lib.hid n1
      have hlti : (k : Int) < cs.length := by omega
      go_wp2_with fail
      go_region_held3 (fun w' => w'.cell? ⟨b, off + k * 2, none⟩ = some (.int .i64 kk) ∧ w'.cell? ⟨b, off + k * 2 + 1, none⟩ = some (.slice aot d.length capt) ∧ w'.cell? ⟨g, k * 2, none⟩ = some (.int .i64 kk) ∧ w'.cell? ⟨g, k * 2 + 1, none⟩ = some (.string (S8 d))) (go_keep) (first
        | (go_at_call 11; refine (document_any kk _ d _ (by first | exact HAT.out.reads | exact HAT.out.reads.drewN 1)).mono ?_; rintro e w1 ⟨rfl, hb1⟩
           have HB1 : Hid (Below wr.heap.size wr w1) := Lib.hid (by first | exact hb1 | exact ⟨hb1.os, hb1.tape, hb1.output, hb1.size, hb1.block⟩)
           have e0 := (HB1.out.cell (p := ⟨b, off + k * 2, none⟩) HBB.out).trans D0.out
           have e1 := (HB1.out.cell (p := ⟨b, off + k * 2 + 1, none⟩) HBB.out).trans D1.out
           have f0 := (HB1.out.cell (p := ⟨g, k * 2, none⟩) HGG.out).trans N0.out
           have f1 := (HB1.out.cell (p := ⟨g, k * 2 + 1, none⟩) HGG.out).trans N1.out
           clear hb1))
      all_goals
        have HB2 := Lib.hid (HB.out.trans (HB1.out.mono HB.out.size))
        clear HB HAT d0 d1 n0 n1 e0 e1 f0 f1
        go_wp2
        go_roundw
        case rel => exact ⟨k + 1, by omega, by go_num, by first | exact HB2.out | exact HB2.out.drew | exact HB2.out.drewN _⟩
        case measure => simp [intOf]; omega
    · obtain rfl : k = cs.length := by omega
      go_wp2
      go_ret
      exact ⟨rfl, HB.out⟩

end Go.Proofs.Ytbihammpdjkonaa

namespace Go.Proofs.Ytbihammpdjkonaa
open Go.RowKit

/-- A slice of bytes in a block of its own kind, at or behind base. -/
def D8 (w : World) (base : Nat) (v : Value) : Prop :=
  ∃ ao len cap, v = .slice ao len cap ∧ len ≤ 9223372036854775807 ∧ (len = 0 ∨ ∃ b off cs, ao = some ⟨b, off, none⟩ ∧ base ≤ b ∧ w.heap[b]? = some (.cells cs 5 (0, 0)) ∧ ∀ i, i < len → ∃ y : Int, cs[off + i]? = some (.int .u8 y))

theorem D8.set {w : World} {base : Nat} {v : Value} (h : D8 w base v) (q i : Nat) (y : Int) : D8 (w.setCell ⟨q, i, none⟩ (.int .u8 y)) base v := by
  obtain ⟨ao, len, cap, rfl, hle, h⟩ := h
  refine ⟨ao, len, cap, rfl, hle, ?_⟩
  rcases h with h | ⟨b, off, cs', rfl, hb, hbl, hc⟩
  · exact .inl h
  · right
    by_cases e : b = q
    · subst e
      refine ⟨b, off, cs'.setIfInBounds i (.int .u8 y), rfl, hb, heap_setCell_same _ _ i _ _ _ hbl, fun j hj => ?_⟩
      obtain ⟨z, hz⟩ := hc j hj
      by_cases e : i = off + j
      · subst e
        have hlt : off + j < cs'.size := (Array.getElem?_eq_some_iff.1 hz).1
        exact ⟨y, by rw [Array.getElem?_setIfInBounds, if_pos rfl, if_pos hlt]⟩
      · exact ⟨z, by rw [Array.getElem?_setIfInBounds, if_neg e]; exact hz⟩
    · exact ⟨b, off, cs', rfl, hb, by rw [heap_setCell_other _ _ _ _ (by simpa using e)]; exact hbl, hc⟩
theorem D8.of {w : World} {base : Nat} {v : Value} {l : List Nat} (h : At w (Own w base 5) .u8 v l) : D8 w base v := by
  obtain ⟨⟨ao, cap, rfl, h1, h2, _, h4⟩, h5⟩ := h
  refine ⟨ao, l.length, cap, rfl, by simp only [maxLen] at h2; omega, ?_⟩
  rcases h5 with rfl | ⟨b, off, n, cap', hv, hB, cs, hcs⟩
  · exact .inl rfl
  · simp only [Value.slice.injEq] at hv
    obtain ⟨rfl, _, _⟩ := hv
    rcases h4 with rfl | ⟨b', off', ha, _, hc⟩
    · exact .inl rfl
    · cases ha
      refine .inr ⟨b, off, cs, rfl, hB, hcs, fun i hi => ⟨((l.getD i 0 : Nat) : Int), ?_⟩⟩
      rw [← cell_of_row w b (off + i) cs _ _ hcs]
      exact hc i hi
theorem OwnsI.setU {w : World} {base : Nat} {v : Value} {l : List (Int × Value)} {q : Nat} {cs : Array Value} (h : OwnsI w base v l) (hq : w.heap[q]? = some (.cells cs 5 (0, 0))) (i : Nat) (x : Value) : OwnsI (w.setCell ⟨q, i, none⟩ x) base v l := by
  refine h.grown (grown_set w q i x) ?_
  cases hv : v.ownBlock with
  | none => exact .inl rfl
  | some j =>
    right
    intro he
    cases he
    obtain ⟨c2, h2⟩ := h.ty hv
    have := h2.symm.trans hq
    cases this

/-- A slice of cells whose data may change. -/
structure Flip (base : Nat) (v : Value) (acc : List (Int × Value)) (w0 w : World) : Prop where
  own : OwnsI w base v acc
  dat : ∀ i, (hi : i < acc.length) → D8 w base acc[i].2
  below : Below base w0 w
theorem Flip.set {base : Nat} {v : Value} {acc : List (Int × Value)} {w0 w : World} {q : Nat} {cs : Array Value} (h : Flip base v acc w0 w) (hq : w.heap[q]? = some (.cells cs 5 (0, 0))) (hb : base ≤ q) (i : Nat) (y : Int) :
    Flip base v acc w0 (w.setCell ⟨q, i, none⟩ (.int .u8 y)) :=
  ⟨h.own.setU hq i _, fun j hj => (h.dat j hj).set q i y, h.below.setCell hb _⟩

theorem wrap_succ64 (k : Nat) (h : k ≤ 64) : wrap64 ((k : Int) + 1) = ((k + 1 : Nat) : Int) := by
  have h2 : ((k : Int) + 1 + 9223372036854775808) % 18446744073709551616 = (k : Int) + 1 + 9223372036854775808 := Int.emod_eq_of_lt (by omega) (by omega)
  simp only [wrap64, h2]
  omega

end Go.Proofs.Ytbihammpdjkonaa

namespace Go.Proofs.Ytbihammpdjkonaa
open Go.RowKit

set_option maxHeartbeats 400000 in
set_option maxRecDepth 100000 in
theorem vnew_any (v : Value) (b : List Nat) (w : World) (hr : Reads w .u8 v b) (hb : ∀ y ∈ b, y < 256) (hl : b.length ≤ 90000000000000) :
    Calls Try.prog 27 #[v] w (NewPost b w) := by
  go_enter Try.func27, Try.ntmps27
  go_wp2_with fail
  refine (clone_any v b w hr (by omega)).mono ?_
  rintro e w1 ⟨v1, rfl, ho, hb1⟩
  obtain ⟨ao, cap, rfl, _, _, _⟩ := ho.reads.val
  go_wp2
  go_ret
  refine ⟨w1.heap.size, _, rfl, ⟨heap_alloc_new w1 _, (ho.mono (Nat.zero_le _)).alloc _, fun g hg => (ho.lt g hg).2, Nat.zero_le _, hb, hl⟩, hb1.alloc hb1.size _, hb1.size, fun g hg => (ho.lt g hg).1⟩

theorem Rd.putR {w : World} {p q : Nat} {rv : Value} {row : List Nat} {place c : Nat} {cs : Array Value} (h : Rd w p rv row place c) (hq : w.heap[q]? = some (.cells cs 57 (0, 0))) (i : Nat) (x : Value) : Rd (w.setCell ⟨q, i, none⟩ x) p rv row place c := by
  refine h.grown (grown_set w q i x) ?_ ?_
  · intro e
    cases e
    have := hq.symm.trans h.blk
    cases this
  · cases hv : rv.ownBlock with
    | none => exact .inl rfl
    | some j =>
      right
      intro he
      cases he
      obtain ⟨c2, h2⟩ := h.own.ty hv
      have := h2.symm.trans hq
      cases this
theorem trun_le {rest fin : List Nat} {run : List CC} {c : Nat} (hb : ∀ y ∈ rest, y < 256) (h : TRun rest 0 run c fin) : run.length ≤ 64 := by
  by_cases hc : c = 0
  · subst hc; exact (rbytes_trun hb h).2.1
  · obtain ⟨n, r1, c1, hn, h⟩ := h
    rcases h with ⟨_, rfl, _⟩ | ⟨_, _, rfl, _⟩ | ⟨_, _, run1, c2, fin1, ht, rfl, rfl, _⟩
    · simp
    · simp
    · rw [if_neg hc]; simp

theorem meas_succ64 {k n : Nat} (h : k < n) (hk : k ≤ 64) : n - (intOf (.int .i64 (wrap64 ((k : Int) + 1)))).toNat < n - (intOf (.int .i64 (k : Int))).toNat := by
  rw [wrap_succ64 k hk]
  show n - (((k + 1 : Nat) : Int)).toNat < n - ((k : Int)).toNat
  omega

set_option maxHeartbeats 8000000 in
set_option maxRecDepth 100000 in
theorem celTakes_walk (bv : Value) (b : List Nat) (w : World) (hru : RdU w w.heap.size bv b) (h8b : ∀ y ∈ b, y < 256) :
    Calls Try.prog 5 #[bv] w fun e w' => e = .returned (.bool true) ∧ Below w.heap.size w w' := by
  have hb := hru.reads
  obtain ⟨aob, capb, rfl, _, _, _⟩ := hb.val
  have HRU := Lib.hid hru
  clear hru
  have H8B := Lib.hid h8b
  clear h8b
  go_enter Try.func5, Try.ntmps5
  go_wp2_with fail
  refine (alive5_any w).mono ?_
  rintro e w1 ⟨rfl, hb1⟩
  have HB1 := Lib.hid hb1
  have HRB1 := Lib.hid (hb.new hb1)
  clear hb1 hb
  by_cases hbl : (3000 : Int) < (b.length : Int)
  · go_wp2
    go_ret
    exact ⟨rfl, HB1.out⟩
  have HE := Lib.hid (owns_empty w1 w1.heap.size 5 .u8 (Nat.le_refl _))
  have hal : Below w1.heap.size w1 (w1.alloc (.cells #[] 5)) := (Below.refl _ _).alloc (Nat.le_refl _) _
  have HAL := Lib.hid hal
  clear hal
  go_wp2_with (at_builtin; go_must (refine wpList_app _ rfl _ _ 22 rfl w1.heap.size 5 (.int .u8 0) 1 Try.underlying22 Try.info5 rfl .u8 _ [] rfl HE.out _ b rfl (HRB1.out.new HAL.out) (by decide) (by simp; omega) HAL.out.size ?_))
  intro v3 w3 ho3 hg3
  have hb13 : Below w1.heap.size w1 w3 := HAL.out.grown hg3 HAL.out.size (fun j hj => (HE.out.lt j hj).1)
  have HO3 : Hid (Owns w3 w1.heap.size 5 .u8 v3 b) := Lib.hid (by simpa using ho3)
  have HB3 := Lib.hid (HB1.out.trans (hb13.mono HB1.out.size))
  have HRB3 := Lib.hid (HRB1.out.new hb13)
  clear ho3 hg3 hb13 HE HAL HB1 HRB1
  obtain ⟨ao3, cap3, rfl, _, _, _⟩ := HO3.out.reads.val
  go_wp2_with fail
  refine (vnew_any _ b w3 HO3.out.reads H8B.out (by omega)).mono ?_
  rintro e w4 ⟨p, rv, rfl, hrd4, hb4, hp4, hrv4⟩
  have HB4 := Lib.hid (HB3.out.trans (hb4.mono HB3.out.size))
  have HRB4 := Lib.hid (HRB3.out.new hb4)
  have HRO4 := Lib.hid (HO3.out.reads.new hb4)
  have HRD4 := Lib.hid hrd4
  have HP4 : Hid (w3.heap.size ≤ p) := Lib.hid hp4
  have HB4X := Lib.hid hb4
  have HRO3 := Lib.hid HO3.out.reads
  have HS3 : Hid (w.heap.size ≤ w3.heap.size) := Lib.hid HB3.out.size
  clear hrd4 hb4 hp4 hrv4 HRB3 HO3
  go_wp2_with fail
  refine (cellTake_any HRD4.out).mono ?_
  rintro e w5 ⟨v5, k, d, pl5, c5, fin5, rfl, ht5, hrd5, hf5, ho5, hg5⟩
  have HC5 : Hid (Below w3.heap.size w3 w5) := Lib.hid ((HB4X.out).grown hg5 HB4X.out.size (fun j hj => by cases hj; exact HP4.out))
  have HT5 := Lib.hid ht5
  have HRD5 := Lib.hid hrd5
  have HF5 := Lib.hid hf5
  have HO5 := Lib.hid ho5
  obtain ⟨ao5, cap5, rfl, _, _, _⟩ := ho5.reads.val
  clear ht5 hrd5 hf5 ho5 hg5 HRD4 HRB4 HRO4 HB4
  have HB5 : Hid (Below w.heap.size w w5) := Lib.hid (HB3.out.trans (HC5.out.mono HB3.out.size))
  obtain ⟨W6, hW6⟩ : ∃ W6, W6 = w5.alloc (.cells #[.int .i64 (k : Int), .slice ao5 d.length cap5] 24) := ⟨_, rfl⟩
  have hb56 : Below w5.heap.size w5 W6 := by rw [hW6]; exact (Below.refl _ _).alloc (Nat.le_refl _) _
  have HX6 : Hid (W6.heap[w5.heap.size]? = some (.cells #[.int .i64 (k : Int), .slice ao5 d.length cap5] 24 (0, 0))) := Lib.hid (by rw [hW6]; exact heap_alloc_new _ _)
  have HB56 := Lib.hid hb56
  have HW6 := Lib.hid hW6
  have HB6 : Hid (Below w.heap.size w W6) := Lib.hid (HB5.out.trans (hb56.mono HB5.out.size))
  clear hb56 hW6 HB5
  go_wp2_with fail
  rw [← HW6.out]
  refine (rtcell_any w.heap.size aob capb b 0 W6 HB6.out.size (HRU.out.below HB6.out) H8B.out).mono ?_
  rintro e w7 ⟨k2, d2, ao7, n7, cap7, c7, fin7, rfl, ht7, hr7, hb7⟩
  obtain ⟨hk, hd, hc, hfin⟩ := HT5.out.unique (by simpa using ht7)
  subst hk hd hc hfin
  clear ht7
  have HN7 : Hid (endC n7 c5 = endC (b.length - pl5) c5) := Lib.hid (by
    by_cases h0 : c5 = 0
    · have h1 := (hr7 h0).1
      have h2 := congrArg List.length (HF5.out h0)
      rw [List.length_drop] at h2
      rw [h1, ← h2]
    · unfold endC; rw [if_pos h0, if_pos h0])
  obtain ⟨WA, hWA⟩ : ∃ WA, WA = (w7.alloc (.cells #[.int .i64 (k : Int), .string (S8 d)] 29)).alloc (.cells #[.slice ao7 n7 cap7, .int .i64 (c5 : Int)] 57) := ⟨_, rfl⟩
  have hb7A : Below w7.heap.size w7 WA := by rw [hWA]; exact ((Below.refl _ _).alloc (Nat.le_refl _) _).alloc (by simp) _
  have hA1 : WA.heap[w7.heap.size]? = some (.cells #[.int .i64 (k : Int), .string (S8 d)] 29 (0, 0)) := by rw [hWA, Below.heap_alloc _ _ _ (by simp)]; exact heap_alloc_new _ _
  have hA2 : WA.heap[w7.heap.size + 1]? = some (.cells #[.slice ao7 n7 cap7, .int .i64 (c5 : Int)] 57 (0, 0)) := by
    rw [hWA]
    have := heap_alloc_new (w7.alloc (.cells #[.int .i64 (k : Int), .string (S8 d)] 29)) (.cells #[.slice ao7 n7 cap7, .int .i64 (c5 : Int)] 57)
    simpa using this
  have hb6A : Below W6.heap.size W6 WA := hb7.trans (hb7A.mono hb7.size)
  have hb5A : Below w5.heap.size w5 WA := HB56.out.trans (hb6A.mono HB56.out.size)
  have hA0 : WA.heap[w5.heap.size]? = some (.cells #[.int .i64 (k : Int), .slice ao5 d.length cap5] 24 (0, 0)) := (hb6A.block _ (Array.getElem?_eq_some_iff.1 HX6.out).1).trans HX6.out
  obtain ⟨a0, a1, _, _⟩ := blk2 hA0
  obtain ⟨b0, b1, _, _⟩ := blk2 hA1
  obtain ⟨c0, c1, _, _⟩ := blk2 hA2
  have A0 := Lib.hid a0
  have A1 := Lib.hid a1
  have B0 := Lib.hid b0
  have B1 := Lib.hid b1
  have C0 := Lib.hid c0
  have C1 := Lib.hid c1
  have HL0 : Hid (w5.heap.size < WA.heap.size) := Lib.hid (Array.getElem?_eq_some_iff.1 hA0).1
  have HL1 : Hid (w7.heap.size < WA.heap.size) := Lib.hid (Array.getElem?_eq_some_iff.1 hA1).1
  have HL2 : Hid (w7.heap.size + 1 < WA.heap.size) := Lib.hid (Array.getElem?_eq_some_iff.1 hA2).1
  have HRDA : Hid (Rd WA p rv b pl5 c5) := Lib.hid (HRD5.out.below hb5A (Nat.le_refl _))
  have HRA : Hid (Reads WA .u8 (.slice ao5 d.length cap5) d) := Lib.hid (HO5.out.reads.new hb5A)
  have HCA : Hid (Below w3.heap.size w3 WA) := Lib.hid (HC5.out.trans (hb5A.mono HC5.out.size))
  have HD : Hid (Below WA.heap.size WA WA) := Lib.hid (Below.refl _ _)
  have HWA := Lib.hid hWA
  have HBX2 := Lib.hid hA2
  have HGE : Hid (w3.heap.size ≤ w7.heap.size + 1) := Lib.hid (by have h1 := HC5.out.size; have h2 := HB56.out.size; have h3 := hb7.size; omega)
  clear hWA hb7A hA1 hA2 hb6A hb5A hA0 hb7 hr7 HX6 HB56 HW6 HB6 HC5 HRD5 HO5 HT5 HF5 HB4X
  go_wp2_with fail
  rw [← HWA.out]
  go_region_held3 (fun w' => w'.cell? ⟨w5.heap.size, 0, none⟩ = some (.int .i64 (k : Int)) ∧ w'.cell? ⟨w5.heap.size, 1, none⟩ = some (.slice ao5 d.length cap5) ∧ w'.cell? ⟨w7.heap.size, 0, none⟩ = some (.int .i64 (k : Int)) ∧ w'.cell? ⟨w7.heap.size, 1, none⟩ = some (.string (S8 d)) ∧
      w'.cell? ⟨w7.heap.size + 1, 0, none⟩ = some (.slice ao7 n7 cap7) ∧ w'.cell? ⟨w7.heap.size + 1, 1, none⟩ = some (.int .i64 (c5 : Int))) (go_keep) (first
    | (go_at_call 13; refine (num_any _ _).mono ?_; rintro e wx ⟨rfl, rfl⟩)
    | (go_at_call 30; refine (err_any (HRDA.out.below HD.out (Nat.le_refl _))).mono ?_; rintro e wx ⟨rfl, rfl⟩)
    | (go_at_call 31; refine (end_any (HRDA.out.below HD.out (Nat.le_refl _))).mono ?_; rintro e wx ⟨rfl, nn, hwx⟩
       have hbx := below_dN (n := nn) HD.out
       rw [← hwx] at hbx
       have HD := Lib.hid hbx
       have a0 := (HD.out.cell (p := ⟨w5.heap.size, 0, none⟩) HL0.out).trans A0.out
       have a1 := (HD.out.cell (p := ⟨w5.heap.size, 1, none⟩) HL0.out).trans A1.out
       have b0 := (HD.out.cell (p := ⟨w7.heap.size, 0, none⟩) HL1.out).trans B0.out
       have b1 := (HD.out.cell (p := ⟨w7.heap.size, 1, none⟩) HL1.out).trans B1.out
       have c0 := (HD.out.cell (p := ⟨w7.heap.size + 1, 0, none⟩) HL2.out).trans C0.out
       have c1 := (HD.out.cell (p := ⟨w7.heap.size + 1, 1, none⟩) HL2.out).trans C1.out
       clear hbx hwx)
    | (go_at_call 32; refine (rend_any ao7 n7 cap7 c5 _).mono ?_; rw [HN7.out]; rintro e wx ⟨rfl, hbx⟩
       have HD := Lib.hid (HD.out.trans (hbx.mono HD.out.size))
       have a0 := (HD.out.cell (p := ⟨w5.heap.size, 0, none⟩) HL0.out).trans A0.out
       have a1 := (HD.out.cell (p := ⟨w5.heap.size, 1, none⟩) HL0.out).trans A1.out
       have b0 := (HD.out.cell (p := ⟨w7.heap.size, 0, none⟩) HL1.out).trans B0.out
       have b1 := (HD.out.cell (p := ⟨w7.heap.size, 1, none⟩) HL1.out).trans B1.out
       have c0 := (HD.out.cell (p := ⟨w7.heap.size + 1, 0, none⟩) HL2.out).trans C0.out
       have c1 := (HD.out.cell (p := ⟨w7.heap.size + 1, 1, none⟩) HL2.out).trans C1.out
       clear hbx)
    | (go_at_call 11; refine (document_any (k : Int) _ d _ (by first | exact HRA.out | exact HRA.out.drewN 1)).mono ?_; rintro e wx ⟨rfl, hbx⟩
       have HD : Hid (Below WA.heap.size WA wx) := Lib.hid (by first | exact hbx | exact ⟨hbx.os, hbx.tape, hbx.output, hbx.size, hbx.block⟩)
       have a0 := (HD.out.cell (p := ⟨w5.heap.size, 0, none⟩) HL0.out).trans A0.out
       have a1 := (HD.out.cell (p := ⟨w5.heap.size, 1, none⟩) HL0.out).trans A1.out
       have b0 := (HD.out.cell (p := ⟨w7.heap.size, 0, none⟩) HL1.out).trans B0.out
       have b1 := (HD.out.cell (p := ⟨w7.heap.size, 1, none⟩) HL1.out).trans B1.out
       have c0 := (HD.out.cell (p := ⟨w7.heap.size + 1, 0, none⟩) HL2.out).trans C0.out
       have c1 := (HD.out.cell (p := ⟨w7.heap.size + 1, 1, none⟩) HL2.out).trans C1.out
       clear hbx))
  have HCX := Lib.hid (HCA.out.trans (HD.out.mono HCA.out.size))
  have HBX3 := Lib.hid ((HD.out.block _ HL2.out).trans HBX2.out)
  have HLX := Lib.hid (Nat.lt_of_lt_of_le HL2.out HD.out.size)
  have HLW : Hid (w7.heap.size + 1 ≥ w3.heap.size) := Lib.hid HGE.out
  clear a0 a1 b0 b1 c0 c1 HCA HD HBX2 A0 A1 B0 B1 C0 C1 HL0 HL1 HL2 HRDA HRA HN7 HWA
  go_wp2_with fail
  refine (vnew_any _ b _ (HRO3.out.new HCX.out) H8B.out (by omega)).mono ?_
  rintro e w8 ⟨p8, rv8, rfl, hrd8, hb8, hp8, hrv8⟩
  have HB8 := Lib.hid hb8
  have HRD8 := Lib.hid hrd8
  have HC8 := Lib.hid (HCX.out.trans (hb8.mono HCX.out.size))
  have HP8 := Lib.hid hp8
  clear hrd8 hb8 hp8 hrv8
  go_wp2_with fail
  refine (takeRun_any HRD8.out).mono ?_
  rintro e w9 ⟨v9, run, pl9, c9, fin9, rfl, ht9, hrd9, hf9, hg9, hce9, acc, hoi9, hal9, hdt9⟩
  obtain ⟨ics, hics⟩ : ∃ ics, ics = run.map toIC := ⟨_, rfl⟩
  rw [← hics] at hce9
  obtain ⟨ao9, cap9, rfl, _, _, _⟩ := hce9.val
  have hicl : ics.length ≤ 64 := by rw [hics, List.length_map]; exact trun_le H8B.out (by simpa using ht9)
  have HT9 := Lib.hid ht9
  have HRD9 := Lib.hid hrd9
  have HF9 := Lib.hid hf9
  have HCE9 := Lib.hid hce9
  have HOI9 := Lib.hid hoi9
  have HAL9 := Lib.hid hal9
  have HDT9 := Lib.hid hdt9
  have HICS := Lib.hid hics
  have HICL := Lib.hid hicl
  have HC9 := Lib.hid (HC8.out.grown hg9 HC8.out.size (fun j hj => by cases hj; exact Nat.le_trans HCX.out.size HP8.out))
  have HB9 := Lib.hid (HB3.out.trans (HC9.out.mono HB3.out.size))
  have HL8 := Lib.hid (Nat.lt_of_lt_of_le HLX.out HB8.out.size)
  have HL9 := Lib.hid (Nat.lt_of_lt_of_le HL8.out hg9.size)
  have HS89 := Lib.hid hg9.size
  have HS38 := Lib.hid HC8.out.size
  have HBX9 := Lib.hid ((hg9.block _ HL8.out (fun e => by have := HLX.out; have := HP8.out; cases e; omega)).trans ((HB8.out.block _ HLX.out).trans HBX3.out))
  clear ht9 hrd9 hf9 hg9 hce9 hoi9 hal9 hdt9 hics hicl HRD8 HC8 HB8 HBX3 HCX
  go_wp2_with fail
  refine (rtrun_any w.heap.size aob capb b 0 w9 HB9.out.size (HRU.out.below HB9.out) H8B.out).mono ?_
  rintro e w10 ⟨ov, run2, ao10, n10, cap10, c10, fin10, rfl, ht10, ho10, hr10, hb10⟩
  obtain ⟨hrn, hcc, hfin⟩ := (show TRun b 0 run c9 fin9 by have := HT9.out; simpa using this).unique ht10
  subst hrn hcc hfin
  clear ht10
  have HN10 : Hid (endC n10 c9 = endC (b.length - pl9) c9) := Lib.hid (by
    by_cases h0 : c9 = 0
    · have h1 := (hr10 h0).1
      have h2 := congrArg List.length (HF9.out h0)
      rw [List.length_drop] at h2
      rw [h1, ← h2]
    · unfold endC; rw [if_pos h0, if_pos h0])
  have hoD := ho10.toD
  rw [← HICS.out] at hoD
  obtain ⟨aom, capm, rfl⟩ := hoD.form
  have HBX10 := Lib.hid ((hb10.block _ HL9.out).trans HBX9.out)
  have hz := set2 (x := .slice ao10 n10 cap10) (y := .int .i64 (c9 : Int)) HBX10.out
  obtain ⟨W11, hW11⟩ : ∃ W11, W11 = (w10.setCell ⟨w7.heap.size + 1, 0, none⟩ (.slice ao10 n10 cap10)).setCell ⟨w7.heap.size + 1, 1, none⟩ (.int .i64 (c9 : Int)) := ⟨_, rfl⟩
  rw [← hW11] at hz
  obtain ⟨c0, c1, _, _⟩ := blk2 hz
  have C0 := Lib.hid c0
  have C1 := Lib.hid c1
  have HL11 : Hid (w7.heap.size + 1 < W11.heap.size) := Lib.hid (Array.getElem?_eq_some_iff.1 hz).1
  have HRDA : Hid (Rd W11 p8 rv8 b pl9 c9) := Lib.hid (by
    rw [hW11]
    exact ((HRD9.out.below hb10 (Nat.le_refl _)).putR HBX10.out 0 _).putR (heap_setCell_same _ _ 0 _ _ _ HBX10.out) 1 _)
  have hblk : ∀ j, j ≠ w7.heap.size + 1 → W11.heap[j]? = w10.heap[j]? := fun j hj => by
    rw [hW11, heap_setCell_other _ _ _ _ (fun e => hj (by rw [e])), heap_setCell_other _ _ _ _ (fun e => hj (by rw [e]))]
  have hsz11 : W11.heap.size = w10.heap.size := by rw [hW11]; simp
  have HCE11 : Hid (CellsAt W11 (fun j => w8.heap.size ≤ j ∧ ∃ cs fr, w9.heap[j]? = some (.cells cs fr (0, 0))) (.slice ao9 ics.length cap9) ics) := Lib.hid
    ((HCE9.out.keep (kept_new hb10 _)).keep ⟨by omega, fun j _ hB => hblk j (by have := HL8.out; have := hB.1; omega)⟩)
  have HOD11 : Hid (OwnsD W11 w9.heap.size (.slice aom ics.length capm) ics) := Lib.hid (by
    have hne : ∀ u : Nat, u < w9.heap.size → (Value.slice aom ics.length capm).ownBlock = none ∨ (Value.slice aom ics.length capm).ownBlock ≠ some u := fun u hu => by
      cases hv : (Value.slice aom ics.length capm).ownBlock with
      | none => exact .inl rfl
      | some j => exact .inr fun he => by have := (hoD.lt j hv).1; cases he; omega
    rw [hW11]
    exact (hoD.grown (grown_set _ _ 0 _) (hne _ HL9.out)).grown (grown_set _ _ 1 _) (hne _ HL9.out))
  have HC11 : Hid (Below w3.heap.size w3 W11) := Lib.hid (by
    rw [hW11]
    exact ((HC9.out.trans (hb10.mono HC9.out.size)).setCell HLW.out _).setCell HLW.out _)
  have HGR11 : Hid (w9.grownBy W11 (some (w7.heap.size + 1))) := Lib.hid (by
    rw [hW11]
    exact grownBy_trans (grownBy_trans (row := some (w7.heap.size + 1)) (show w9.grownBy w10 (some (w7.heap.size + 1)) from ⟨hb10.os, hb10.tape, hb10.output, hb10.size, fun j hj _ => hb10.block j hj⟩) (grown_set _ _ 0 _) (fun j hj _ => hj)) (grown_set _ _ 1 _) (fun j hj _ => hj))
  have HW11 := Lib.hid hW11
  have HD : Hid (Below W11.heap.size W11 W11) := Lib.hid (Below.refl _ _)
  obtain ⟨_, _, f2, f3⟩ := blk2 HBX10.out
  have HBX9B := Lib.hid HBX9.out
  clear hz hW11 hblk hoD ho10 hr10 hb10 hsz11 HT9 HF9 HRD9 HCE9 HC9 HB9 HBX9 HBX10
  go_wp2_with fail
  rw [← HW11.out]
  go_region_held3 (fun w' => w'.cell? ⟨w7.heap.size + 1, 0, none⟩ = some (.slice ao10 n10 cap10) ∧ w'.cell? ⟨w7.heap.size + 1, 1, none⟩ = some (.int .i64 (c9 : Int))) (go_keep) (first
    | (go_at_call 13; refine (num_any _ _).mono ?_; rintro e wx ⟨rfl, rfl⟩)
    | (go_at_call 30; refine (err_any (HRDA.out.below HD.out (Nat.le_refl _))).mono ?_; rintro e wx ⟨rfl, rfl⟩)
    | (go_at_call 31; refine (end_any (HRDA.out.below HD.out (Nat.le_refl _))).mono ?_; rintro e wx ⟨rfl, nn, hwx⟩
       have hbx := below_dN (n := nn) HD.out
       rw [← hwx] at hbx
       have HD := Lib.hid hbx
       have c0 := (HD.out.cell (p := ⟨w7.heap.size + 1, 0, none⟩) HL11.out).trans C0.out
       have c1 := (HD.out.cell (p := ⟨w7.heap.size + 1, 1, none⟩) HL11.out).trans C1.out
       clear hbx hwx)
    | (go_at_call 32; refine (rend_any ao10 n10 cap10 c9 _).mono ?_; rw [HN10.out]; rintro e wx ⟨rfl, hbx⟩
       have HD := Lib.hid (HD.out.trans (hbx.mono HD.out.size))
       have c0 := (HD.out.cell (p := ⟨w7.heap.size + 1, 0, none⟩) HL11.out).trans C0.out
       have c1 := (HD.out.cell (p := ⟨w7.heap.size + 1, 1, none⟩) HL11.out).trans C1.out
       clear hbx)
    | (go_at_call 35; refine (are_any _ _ ics _ _ w9.heap.size (by first | exact HCE11.out | exact HCE11.out.keep ⟨Nat.le_refl _, fun _ _ _ => rfl⟩) (by first | exact HOD11.out | exact HOD11.out.grown (row := none) ⟨rfl, rfl, rfl, Nat.le_refl _, fun _ _ _ => rfl⟩ (Classical.em _)) (by have := HICL.out; omega)).mono ?_; rintro e wx ⟨rfl, hbx⟩
       have HD : Hid (Below W11.heap.size W11 wx) := Lib.hid (by first | exact hbx | exact ⟨hbx.os, hbx.tape, hbx.output, hbx.size, hbx.block⟩)
       have c0 := (HD.out.cell (p := ⟨w7.heap.size + 1, 0, none⟩) HL11.out).trans C0.out
       have c1 := (HD.out.cell (p := ⟨w7.heap.size + 1, 1, none⟩) HL11.out).trans C1.out
       clear hbx))
  have hk1 : Kept (Own w9 w8.heap.size 5) w9 W11 := kept_u8 HGR11.out (fun j hj => by
    cases hj
    rintro ⟨c2, h2⟩
    have := h2.symm.trans HBX9B.out
    cases this)
  have hne9 : (Value.slice ao9 ics.length cap9).ownBlock ≠ some (w7.heap.size + 1) := fun e => by
    have := (HOI9.out.lt _ e).1
    have := HL8.out
    omega
  have HFL : Hid (Flip w8.heap.size (.slice ao9 ics.length cap9) acc W11 _) := Lib.hid ⟨(HOI9.out.grown HGR11.out (.inr hne9)).below HD.out, fun i hi => .of (((HDT9.out i hi).own hk1).own (kept_new HD.out _)), HD.out.mono (Nat.le_trans HS89.out HGR11.out.size)⟩
  have HAI : Hid (acc.length = ics.length) := Lib.hid (by rw [HAL9.out, HICS.out, List.length_map])
  have HC12 := Lib.hid (HC11.out.trans (HD.out.mono HC11.out.size))
  clear hk1 hne9 HD c0 c1 C0 C1 HRDA HCE11 HOD11 HN10 HOI9 HDT9 HW11 HL11 HBX9B HGR11
  go_wp2
  go_loopw [10, 82] (fun _ i wr => ∃ k : Nat, k ≤ ics.length ∧ i = .int .i64 (k : Int) ∧ Flip w8.heap.size (.slice ao9 ics.length cap9) acc W11 wr)
    (fun _ i _ => ics.length - (intOf i).toNat)
  case atStart => exact ⟨0, Nat.zero_le _, rfl, HFL.out⟩
  case round =>
    clear HFL
    obtain ⟨k, hk, rfl, hfl⟩ := hrel
    have HFL := Lib.hid hfl
    by_cases hlt : k < ics.length
    · have hka : k < acc.length := by have := HAI.out; omega
      obtain ⟨g, rfl, _, _, e1⟩ := hfl.own.at hka
      obtain ⟨ao2, len2, cap2, hv2, hle2, hd2⟩ := hfl.dat k hka
      have HLE := Lib.hid hle2
      rw [hv2] at e1
      have HV2 := Lib.hid hv2
      have hlti : (k : Int) < ics.length := by omega
      have HKT := Lib.hid hlt
      clear hfl hv2 hd2 hle2
      go_wp2
      go_loopw [11, 91] (fun _ i wr => ∃ j : Nat, j ≤ len2 ∧ i = .int .i64 (j : Int) ∧ Flip w8.heap.size (.slice (some ⟨g, 0, none⟩) ics.length cap9) acc W11 wr)
        (fun _ i _ => len2 - (intOf i).toNat)
      case atStart => exact ⟨0, Nat.zero_le _, rfl, HFL.out⟩
      case round =>
        obtain ⟨j, hj, rfl, hfl⟩ := hrel
        have HFL2 := Lib.hid hfl
        by_cases hjl : j < len2
        · obtain ⟨g', hg', _, _, e1⟩ := hfl.own.at hka
          obtain ⟨ao, len, cap, hv, _, hd⟩ := hfl.dat k hka
          rw [HV2.out] at e1 hv
          clear hfl
          cases hg'
          cases hv
          rcases hd with h0 | ⟨b2, off2, cs2, rfl, hb2, hbl2, hc2⟩
          · omega
          obtain ⟨y, hy⟩ := hc2 j hjl
          have e2 := (cell_of_row wr b2 (off2 + j) cs2 _ _ hbl2).trans hy
          have e3 := frozen_of_row wr b2 (off2 + j) _ _ hbl2
          have HBL := Lib.hid hbl2
          have HB2 := Lib.hid hb2
          have hjli : (j : Int) < len2 := by omega
          have HJ := Lib.hid hjl
          clear hy hc2 hbl2 hb2 HV2
          go_wp2
          go_roundw
          case rel => exact ⟨j + 1, by have := HJ.out; omega, by have := HJ.out; have := HLE.out; go_num, HFL2.out.set HBL.out HB2.out _ _⟩
          case measure =>
            have := HJ.out
            have := HLE.out
            simp [intOf]
            omega
        · obtain rfl : j = len2 := by omega
          clear hfl
          go_wp2
          go_roundw
          case rel => exact ⟨k + 1, Nat.succ_le_of_lt HKT.out, congrArg (Value.int .i64) (wrap_succ64 k (Nat.le_trans (Nat.le_of_lt HKT.out) HICL.out)), HFL2.out⟩
          case measure => exact meas_succ64 HKT.out (Nat.le_trans (Nat.le_of_lt HKT.out) HICL.out)
    · obtain rfl : k = ics.length := by omega
      have HCW := Lib.hid (HC11.out.trans (hfl.below.mono HS38.out))
      have HBW := Lib.hid (HB3.out.trans (HCW.out.mono HB3.out.size))
      have hro := HRO3.out.new HCW.out
      have hri := HRU.out.reads.new HBW.out
      have HRO := Lib.hid hro
      have HRI := Lib.hid hri
      clear hfl hro hri
      go_wp2_with fail
      refine (numBytes_any _ _ b b _ HRO.out HRI.out H8B.out H8B.out).mono ?_
      rintro e wx ⟨rfl, rfl⟩
      rw [decide_eq_true rfl]
      go_wp2_with fail
      refine (takeRunN _).mono ?_
      rintro e wy ⟨rfl, hby⟩
      go_wp2_with fail
      refine (cellTakeN _).mono ?_
      rintro e wz ⟨rfl, hbz⟩
      have hb2 := hby.trans (hbz.mono hby.size)
      go_wp2_with fail
      refine (same_any 0 0 _ _ [] [] _ (reads_none _ _) (reads_none _ _) (by simp) (by simp)).mono ?_
      rintro e wt ⟨rfl, hbt⟩
      have hb3 := hb2.trans (hbt.mono hb2.size)
      rw [show sameC 0 [] 0 [] = true from by decide]
      go_wp2
      go_ret
      exact ⟨rfl, HBW.out.trans (hb3.mono HBW.out.size)⟩

end Go.Proofs.Ytbihammpdjkonaa
