/- The contract of 'do both readers stand the same'. -/
import Derived.Test.YtlaloddmlkkbgaaRrD
namespace Go.Proofs.Ytlaloddmlkkbgaa
open Go.RowKit

theorem below_dn {B : Nat} {a w : World} {n : Nat} (h : Below B a w) : Below B a (w.drewN n) := ⟨h.os, h.tape, h.output, h.size, h.block⟩

theorem num_any (c : Nat) (w : World) : Calls Try.prog 24 #[errV c] w fun e w' => e = .returned (.int .i64 (c : Int)) ∧ w = w' := by
  by_cases h : c = 0
  · subst h; exact num_nil w
  · rw [errV_pos h]; exact num_err (c : Int) (by omega) w

theorem left_any {w : World} {p : Nat} {rv : Value} {row : List Nat} {place c : Nat} (h : Rd w p rv row place c) :
    Calls Try.prog 33 #[.pointer (some ⟨p, 0, none⟩)] w (Drawn w (.int .i64 ((if c = 0 then row.length - place else 0 : Nat) : Int))) := by
  by_cases hc : c = 0
  · subst hc; exact left_ok h
  · rw [if_neg hc]; exact (left_err h hc).mono fun e w' ⟨he, hw⟩ => ⟨he, 0, hw.symm⟩

set_option maxHeartbeats 2000000 in
set_option maxRecDepth 100000 in
theorem same_any {w : World} {p : Nat} {rv : Value} {row : List Nat} {place c : Nat} (h : Rd w p rv row place c) (ao : Option Addr) (L cap : Nat) (hL : row.length - place = L) :
    Calls Try.prog 38 #[.pointer (some ⟨p, 0, none⟩), .agg #[.slice ao L cap, .int .i64 (c : Int)]] w fun e w' => e = .returned (.bool true) ∧ Below w.heap.size w w' := by
  have hw0 : Below w.heap.size w (w.alloc (.cells #[.slice ao L cap, .int .i64 (c : Int)] 57)) := (Below.refl _ _).alloc (Nat.le_refl _) _
  have hblk := heap_alloc_new w (.cells #[.slice ao L cap, .int .i64 (c : Int)] 57)
  obtain ⟨g1, g2, _, _⟩ := blk2 hblk
  have hrd0 : ∀ W, Below (w.heap.size + 1) (w.alloc (.cells #[.slice ao L cap, .int .i64 (c : Int)] 57)) W → Rd W p rv row place c := fun W hW => (h.below hw0 (Nat.le_refl _)).below hW (by simp)
  have HRD := Lib.hid hrd0
  have HL := Lib.hid hL
  obtain ⟨lf, hlf⟩ : ∃ lf : Nat, lf = if c = 0 then L else 0 := ⟨_, rfl⟩
  have HLF := Lib.hid hlf
  have HW0 := Lib.hid hw0
  have G1 := Lib.hid g1
  have G2 := Lib.hid g2
  clear hrd0 hL hw0 hblk h g1 g2
  by_cases hc : c = 0
  · subst hc
    rw [if_pos rfl] at hlf
    subst hlf
    go_enter Try.func38, Try.ntmps38
    go_wp2_with fail
    go_region_held3 (fun w' => w'.cell? ⟨w.heap.size, 0, none⟩ = some (.slice ao lf cap) ∧ w'.cell? ⟨w.heap.size, 1, none⟩ = some (.int .i64 0)) (go_keep) (first
      | (go_at_call 33; refine (left_any (HRD.out _ (by (repeat (first | exact Below.refl _ _ | assumption | (refine Below.setCell ?_ (by first | (simp; done) | (simp; omega)) _) | (refine Below.alloc ?_ (by first | (simp; done) | (simp; omega)) _) | (refine Below.drew ?_) | (refine below_dn ?_)))))).mono ?_; rintro e w2 ⟨rfl, n2, rfl⟩; first | rw [HL.out, if_pos rfl] | rw [HL.out, ← HLF.out])
      | (go_at_call 35; refine (err_any (HRD.out _ (by (repeat (first | exact Below.refl _ _ | assumption | (refine Below.setCell ?_ (by first | (simp; done) | (simp; omega)) _) | (refine Below.alloc ?_ (by first | (simp; done) | (simp; omega)) _) | (refine Below.drew ?_) | (refine below_dn ?_)))))).mono ?_; rintro e w2 ⟨rfl, rfl⟩)
      | (go_at_call 24; refine (num_any _ _).mono ?_; rintro e w2 ⟨rfl, rfl⟩)
      | (go_at_call 36; refine (end_any (HRD.out _ (by (repeat (first | exact Below.refl _ _ | assumption | (refine Below.setCell ?_ (by first | (simp; done) | (simp; omega)) _) | (refine Below.alloc ?_ (by first | (simp; done) | (simp; omega)) _) | (refine Below.drew ?_) | (refine below_dn ?_)))))).mono ?_; rintro e w2 ⟨rfl, n2, rfl⟩; rw [HL.out])
      | (go_at_call 57; refine (rend_any ao lf cap 0 _).mono ?_; rintro e w2 ⟨rfl, hb2⟩
         have hX : Below (w.heap.size + 1) (w.alloc (.cells #[.slice ao lf cap, .int .i64 0] 57)) w2 := Below.trans (by (repeat (first | exact Below.refl _ _ | assumption | (refine Below.setCell ?_ (by first | (simp; done) | (simp; omega)) _) | (refine Below.alloc ?_ (by first | (simp; done) | (simp; omega)) _) | (refine Below.drew ?_) | (refine below_dn ?_)))) (hb2.mono (by simp))
         have z1 := (hX.cell (p := ⟨w.heap.size, 0, none⟩) (by simp)).trans G1.out
         have z2 := (hX.cell (p := ⟨w.heap.size, 1, none⟩) (by simp)).trans G2.out
         clear hb2))
    all_goals go_wp2
    all_goals (go_ret; exact ⟨rfl, by (repeat (first | exact Below.refl _ _ | assumption | (refine Below.setCell ?_ (by first | (simp; done) | (simp; omega)) _) | (refine Below.alloc ?_ (by first | (simp; done) | (simp; omega)) _) | (refine Below.drew ?_) | (refine below_dn ?_) | exact HW0.out.trans (Below.mono (by assumption) (by omega))))⟩)
  · have t1 : ((c : Int) != 0) = true := by rw [bne_iff_ne]; omega
    rw [if_neg hc] at hlf
    subst hlf
    go_enter Try.func38, Try.ntmps38
    go_wp2_with fail
    go_region_held3 (fun w' => w'.cell? ⟨w.heap.size, 0, none⟩ = some (.slice ao L cap) ∧ w'.cell? ⟨w.heap.size, 1, none⟩ = some (.int .i64 (c : Int))) (go_keep) (first
      | (go_at_call 33; refine (left_any (HRD.out _ (by (repeat (first | exact Below.refl _ _ | assumption | (refine Below.setCell ?_ (by first | (simp; done) | (simp; omega)) _) | (refine Below.alloc ?_ (by first | (simp; done) | (simp; omega)) _) | (refine Below.drew ?_) | (refine below_dn ?_)))))).mono ?_; rintro e w2 ⟨rfl, n2, rfl⟩; first | rw [HL.out, if_pos rfl] | rw [HL.out, ← HLF.out])
      | (go_at_call 35; refine (err_any (HRD.out _ (by (repeat (first | exact Below.refl _ _ | assumption | (refine Below.setCell ?_ (by first | (simp; done) | (simp; omega)) _) | (refine Below.alloc ?_ (by first | (simp; done) | (simp; omega)) _) | (refine Below.drew ?_) | (refine below_dn ?_)))))).mono ?_; rintro e w2 ⟨rfl, rfl⟩)
      | (go_at_call 24; refine (num_any _ _).mono ?_; rintro e w2 ⟨rfl, rfl⟩)
      | (go_at_call 36; refine (end_any (HRD.out _ (by (repeat (first | exact Below.refl _ _ | assumption | (refine Below.setCell ?_ (by first | (simp; done) | (simp; omega)) _) | (refine Below.alloc ?_ (by first | (simp; done) | (simp; omega)) _) | (refine Below.drew ?_) | (refine below_dn ?_)))))).mono ?_; rintro e w2 ⟨rfl, n2, rfl⟩; rw [HL.out])
      | (go_at_call 57; refine (rend_any ao L cap c _).mono ?_; rintro e w2 ⟨rfl, hb2⟩
         have hX : Below (w.heap.size + 1) (w.alloc (.cells #[.slice ao L cap, .int .i64 (c : Int)] 57)) w2 := Below.trans (by (repeat (first | exact Below.refl _ _ | assumption | (refine Below.setCell ?_ (by first | (simp; done) | (simp; omega)) _) | (refine Below.alloc ?_ (by first | (simp; done) | (simp; omega)) _) | (refine Below.drew ?_) | (refine below_dn ?_)))) (hb2.mono (by simp))
         have z1 := (hX.cell (p := ⟨w.heap.size, 0, none⟩) (by simp)).trans G1.out
         have z2 := (hX.cell (p := ⟨w.heap.size, 1, none⟩) (by simp)).trans G2.out
         clear hb2))
    all_goals go_wp2
    all_goals (go_ret; exact ⟨rfl, by (repeat (first | exact Below.refl _ _ | assumption | (refine Below.setCell ?_ (by first | (simp; done) | (simp; omega)) _) | (refine Below.alloc ?_ (by first | (simp; done) | (simp; omega)) _) | (refine Below.drew ?_) | (refine below_dn ?_) | exact HW0.out.trans (Below.mono (by assumption) (by omega))))⟩)
end Go.Proofs.Ytlaloddmlkkbgaa
