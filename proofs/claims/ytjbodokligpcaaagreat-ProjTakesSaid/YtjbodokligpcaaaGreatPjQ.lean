/- The document's own projections: Same; a projection as the document's. -/
import Derived.Test.YtjbodokligpcaaaGreatPjP
namespace Go.Proofs.YtjbodokligpcaaaGreat
open Go.RowKit

set_option maxHeartbeats 1000000 in
set_option maxRecDepth 100000 in
theorem document11_any (ep : Int) (ao : Option Addr) (n cap : Nat) (w : World) :
    Calls Tryz.prog 10 #[.agg #[.int .i64 ep, .slice ao n cap]] w fun e w' => e = .returned (.agg #[.int .i64 ep, .slice ao n cap]) ∧ Below w.heap.size w w' := by
  go_enter Tryz.func10, Tryz.ntmps10
  go_wp2
  exact bodyPost_ret (v := .agg #[.int .i64 ep, .slice ao n cap]) (by simp [results, Tryz.results10, go_sem]) rfl ⟨rfl, by
    (repeat (first | exact Below.refl _ _ | (refine Below.setCell ?_ (by first | (simp; done) | (simp; omega)) _) | (refine Below.alloc ?_ (by first | (simp; done) | (simp; omega)) _)))⟩

set_option maxHeartbeats 4000000 in
set_option maxRecDepth 100000 in
theorem rpsame_any (e1 e2 : Int) (v1 v2 : Value) (a b : List (List Int)) (w : World) (A B : Nat → Prop) (h1 : Chs w A v1 a) (h2 : Chs w B v2 b) :
    Calls Tryz.prog 9 #[.agg #[.int .i64 e1, v1], .agg #[.int .i64 e2, v2]] w fun e w' => e = .returned (.bool (psame e1 a e2 b)) ∧ Below w.heap.size w w' := by
  obtain ⟨ao1, cap1, rfl, l1, m1, _⟩ := h1.val
  obtain ⟨ao2, cap2, rfl, l2, m2, _⟩ := h2.val
  obtain ⟨W1, hW1⟩ : ∃ W1, W1 = (w.alloc (.cells #[.int .i64 e1, .slice ao1 a.length cap1] 32)).alloc (.cells #[.int .i64 e2, .slice ao2 b.length cap2] 32) := ⟨_, rfl⟩
  have hb1 : Below w.heap.size w W1 := by rw [hW1]; exact ((Below.refl _ _).alloc (Nat.le_refl _) _).alloc (by simp) _
  have hx1 : Box2 W1 w.heap.size (.int .i64 e1) (.slice ao1 a.length cap1) := by rw [hW1]; exact (box2_new _ _ _ _).old ((Below.refl _ _).alloc (Nat.le_refl _) _)
  have hx2 : Box2 W1 (w.heap.size + 1) (.int .i64 e2) (.slice ao2 b.length cap2) := by
    have := box2_new (w.alloc (.cells #[.int .i64 e1, .slice ao1 a.length cap1] 32)) (.int .i64 e2) (.slice ao2 b.length cap2) 32
    rw [hW1]; simpa using this
  have HB1 := Lib.hid hb1
  have c0 := hx1.c0
  have c1 := hx1.c1
  have d0 := hx2.c0
  have d1 := hx2.c1
  have H1 := Lib.hid (h1.old hb1)
  have H2 := Lib.hid (h2.old hb1)
  have HWW := Lib.hid hW1
  unfold maxLen at m1 m2
  clear h1 h2 hb1 hx1 hx2 hW1
  by_cases he : e1 = e2
  rotate_left
  · have heq : (e1 != e2) = true := by rw [bne_iff_ne]; exact he
    have HS : Hid (psame e1 a e2 b = false) := Lib.hid (by unfold psame; rw [decide_eq_false he, Bool.false_and])
    clear he
    go_enter Tryz.func9, Tryz.ntmps9
    go_wp2_with fail
    rw [← HWW.out]
    go_wp2
    go_ret
    exact ⟨by rw [HS.out]; rfl, HB1.out⟩
  have heq : (e1 != e2) = false := by rw [bne_eq_false_iff_eq]; exact he
  have HS : Hid (psame e1 a e2 b = decide (a = b)) := Lib.hid (by unfold psame; rw [decide_eq_true he, Bool.true_and])
  clear he
  by_cases hl : a.length = b.length
  rotate_left
  · have hli : ((a.length : Int) != (b.length : Int)) = true := by rw [bne_iff_ne]; omega
    have HN : Hid (a ≠ b) := Lib.hid fun h => hl (by rw [h])
    clear hl
    go_enter Tryz.func9, Tryz.ntmps9
    go_wp2_with fail
    rw [← HWW.out]
    go_wp2
    go_ret
    exact ⟨by rw [HS.out, decide_eq_false HN.out]; rfl, HB1.out⟩
  have hli : ((a.length : Int) != (b.length : Int)) = false := by rw [bne_eq_false_iff_eq, hl]
  have HL := Lib.hid hl
  clear hl
  obtain ⟨na, hna⟩ : ∃ n, n = a.length := ⟨_, rfl⟩
  obtain ⟨nb, hnb⟩ : ∃ n, n = b.length := ⟨_, rfl⟩
  rw [← hna, ← hnb] at hli
  rw [← hna] at c1 l1 HWW ⊢
  rw [← hnb] at d1 l2 HWW ⊢
  have HNA := Lib.hid hna
  have HNB := Lib.hid hnb
  clear hna hnb
  go_enter Tryz.func9, Tryz.ntmps9
  go_wp2_with fail
  rw [← HWW.out]
  go_wp2
  go_loopw [5, 6, 24] (fun _ _ i wr => ∃ k d : Nat, k ≤ na ∧ i = .int .i64 (k : Int) ∧ a.take k = b.take k ∧ wr = W1.drewN d)
    (fun _ _ i _ => na - (intOf i).toNat)
  case atStart => exact ⟨0, 0, Nat.zero_le _, rfl, by simp, rfl⟩
  case round =>
    obtain ⟨k, d, hk, rfl, hp, rfl⟩ := hrel
    have HP := Lib.hid hp; clear hp
    by_cases hlt : k < na
    · have hlta : k < a.length := by rw [← HNA.out]; exact hlt
      have hltb : k < b.length := by rw [← HL.out]; exact hlta
      have hltn : k < nb := by rw [HNB.out]; exact hltb
      obtain ⟨b1, off1, x1, rfl, _, _, cc1, ha1⟩ := H1.out.at hlta
      obtain ⟨b2, off2, x2, rfl, _, _, cc2, ha2⟩ := H2.out.at hltb
      obtain ⟨aox1, capx1, rfl, lx1, mx1, _⟩ := ha1.val
      obtain ⟨aox2, capx2, rfl, lx2, mx2, _⟩ := ha2.val
      have HNE : Hid (a.getD k [] ≠ b.getD k [] → a ≠ b) := Lib.hid fun h he => h (by rw [he])
      have HEQ : Hid (a.getD k [] = b.getD k [] → a.take (k + 1) = b.take (k + 1)) := Lib.hid fun h => chains_snoc HL.out hlta HP.out h
      generalize a.getD k [] = s1 at cc1 ha1 lx1 HNE HEQ
      generalize b.getD k [] = s2 at cc2 ha2 lx2 HNE HEQ
      obtain ⟨n1, hn1⟩ : ∃ n, n = s1.length := ⟨_, rfl⟩
      obtain ⟨n2, hn2⟩ : ∃ n, n = s2.length := ⟨_, rfl⟩
      rw [← hn1] at cc1 lx1
      rw [← hn2] at cc2 lx2
      have HN1 := Lib.hid hn1
      have HN2 := Lib.hid hn2
      have HA1 : Hid (IRow W1 A (.slice aox1 n1 capx1) s1) := Lib.hid (by rw [hn1]; exact ha1)
      have HA2 : Hid (IRow W1 B (.slice aox2 n2 capx2) s2) := Lib.hid (by rw [hn2]; exact ha2)
      have hlti : (k : Int) < na := by omega
      have hltj : (k : Int) < nb := by omega
      unfold maxLen at mx1 mx2
      clear hn1 hn2 ha1 ha2 hlta hltb
      by_cases hnn : n1 = n2
      rotate_left
      · have hni : ((n1 : Int) != (n2 : Int)) = true := by rw [bne_iff_ne]; omega
        have HX : Hid (a ≠ b) := Lib.hid (HNE.out fun h => hnn (by rw [HN1.out, HN2.out, h]))
        clear hnn
        go_wp2_with fail
        go_quiet (fail)
        go_wp2
        go_ret
        exact ⟨by rw [HS.out, decide_eq_false HX.out]; rfl, below_draws (below_draws HB1.out _) _⟩
      have hni : ((n1 : Int) != (n2 : Int)) = false := by rw [bne_eq_false_iff_eq, hnn]
      have HNN := Lib.hid hnn
      clear hnn
      go_wp2_with fail
      go_quiet (fail)
      go_wp2
      go_loopw [6, 46] (fun _ j wq => ∃ q z : Nat, q ≤ n1 ∧ j = .int .i64 (q : Int) ∧ s1.take q = s2.take q ∧ wq = W1.drewN z) (fun _ j _ => n1 - (intOf j).toNat)
      case atStart => exact ⟨0, _, Nat.zero_le _, rfl, by simp, rfl⟩
      case round =>
        obtain ⟨q, z, hq, rfl, hpq, rfl⟩ := hrel
        have HPQ := Lib.hid hpq; clear hpq
        by_cases hlq : q < n1
        · have q1 : q < s1.length := by rw [← HN1.out]; exact hlq
          have q2 : q < s2.length := by rw [← HN2.out, ← HNN.out]; exact hlq
          have q2n : q < n2 := by rw [← HNN.out]; exact hlq
          obtain ⟨g1, o1, rfl, _, _, h1⟩ := HA1.out.at q1
          obtain ⟨g2, o2, rfl, _, _, h2⟩ := HA2.out.at q2
          have k1 := h1 q q1
          have k2 := h2 q q2
          have HE : Hid (s1.getD q 0 = s2.getD q 0 → s1.take (q + 1) = s2.take (q + 1)) := Lib.hid fun h => ints_snoc (by rw [← HN1.out, ← HN2.out, HNN.out]) q1 HPQ.out h
          have HF : Hid (s1.getD q 0 ≠ s2.getD q 0 → a ≠ b) := Lib.hid fun h => HNE.out fun he => h (by rw [he])
          generalize s1.getD q 0 = y1 at k1 HE HF
          generalize s2.getD q 0 = y2 at k2 HE HF
          have qi1 : (q : Int) < n1 := by omega
          have qi2 : (q : Int) < n2 := by omega
          clear h1 h2 q1 q2
          by_cases hy : y1 = y2
          · have hye : (y1 != y2) = false := by rw [bne_eq_false_iff_eq]; exact hy
            have HS2 := Lib.hid (HE.out hy)
            clear hy HE HF
            go_wp2_with fail
            go_quiet (fail)
            go_wp2
            go_roundw
            case rel => exact ⟨q + 1, _, by omega, by go_num, HS2.out, rfl⟩
            case measure => simp [intOf]; omega
          · have hye : (y1 != y2) = true := by rw [bne_iff_ne]; exact hy
            have HX := Lib.hid (HF.out hy)
            clear hy HE HF
            go_wp2_with fail
            go_quiet (fail)
            go_wp2
            go_ret
            exact ⟨by rw [HS.out, decide_eq_false HX.out]; rfl, below_draws (below_draws HB1.out _) _⟩
        · obtain rfl : q = n1 := by omega
          have HX : Hid (a.take (k + 1) = b.take (k + 1)) := Lib.hid (HEQ.out (by
            have h := HPQ.out
            rw [HN1.out, List.take_length, ← HN1.out, HNN.out, HN2.out, List.take_length] at h
            exact h))
          go_wp2
          go_roundw
          case rel => exact ⟨k + 1, _, by omega, by go_num, HX.out, rfl⟩
          case measure => simp [intOf]; omega
    · obtain rfl : k = na := by omega
      have hp := HP.out
      rw [HNA.out, List.take_length] at hp
      have HE : Hid (a = b) := Lib.hid (by rw [hp, HL.out, List.take_length])
      have hnl : decide (k < nb) = false := decide_eq_false (by rw [HNB.out, ← HL.out, ← HNA.out]; omega)
      clear hp
      go_wp2
      go_ret
      exact ⟨by rw [HS.out, decide_eq_true HE.out]; rfl, below_draws HB1.out _⟩

end Go.Proofs.YtjbodokligpcaaaGreat
