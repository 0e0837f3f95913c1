/- ProjHomes' walk. -/
import Derived.Test.YtgjdablifncbaaaPjO
namespace Go.Proofs.Ytgjdablifncbaaa
open Go.RowKit

theorem tmod_home {a b n : Int} : (Int.tmod (a - b) n == 0) = decide (a % n = b % n) := by
  rw [Bool.eq_iff_iff, beq_iff_eq, decide_eq_true_iff, ← Int.dvd_iff_tmod_eq_zero, Int.emod_eq_emod_iff_emod_sub_eq_zero, Int.dvd_iff_emod_eq_zero]
theorem homeC_le (ep : Int) (cs : List (List Int)) (a : Int) : homeC ep cs a ≤ 2 := by
  have := pchk_le ep cs
  unfold homeC
  repeat' split
  all_goals omega
theorem homeC_zero {ep : Int} {cs : List (List Int)} {a : Int} (h : homeC ep cs a = 0) : pchk ep cs = 0 ∧ addrB a = true := by
  unfold homeC at h
  split at h
  · exact absurd h ‹_›
  · rename_i h1
    split at h
    · cases h
    · rename_i h2
      exact ⟨Classical.not_not.1 h1, (Bool.not_eq_false _).mp h2⟩

set_option maxHeartbeats 4000000 in
set_option maxRecDepth 100000 in
theorem projHomes_walk (ep : Int) (v : Value) (cs : List (List Int)) (a b : Int) (w : World) (B : Nat → Prop) (h : Chs w B v cs) :
    Calls Try.prog 4 #[.agg #[.int .i64 ep, v], .int .i64 a, .int .i64 b] w fun e w' => e = .returned (.bool true) ∧ Below w.heap.size w w' := by
  obtain ⟨ao, cap, rfl, l1, m1, _⟩ := h.val
  obtain ⟨W1, hW1⟩ : ∃ W1, W1 = w.alloc (.cells #[.int .i64 ep, .slice ao cs.length cap] 24) := ⟨_, rfl⟩
  have hb1 : Below w.heap.size w W1 := by rw [hW1]; exact (Below.refl _ _).alloc (Nat.le_refl _) _
  have hx1 : Box2 W1 w.heap.size (.int .i64 ep) (.slice ao cs.length cap) := by rw [hW1]; exact box2_new _ _ _ _
  have HX1 := Lib.hid hx1
  have HB1 := Lib.hid hb1
  have HR := Lib.hid (h.old hb1)
  have HA := Lib.hid (alive11_any W1)
  clear h hb1 l1 m1 hx1
  subst hW1
  go_enter Try.func4, Try.ntmps4
  go_wp2_with fail
  refine HA.out.mono ?_
  rintro e w2 ⟨rfl, hb2⟩
  have q2 := HX1.out.old hb2
  have c0 := q2.c0
  have c1 := q2.c1
  have HX2 := Lib.hid q2
  have HB2 : Hid (Below w.heap.size w w2) := Lib.hid (HB1.out.trans (hb2.mono HB1.out.size))
  have HR2 := Lib.hid (HR.out.old hb2)
  have HLO := Lib.hid (long11_any ep _ cs w2 B (HR.out.old hb2))
  clear hb2 q2
  by_cases g1 : longP cs = true
  · rw [g1] at HLO
    clear g1
    go_wp2_with fail
    refine HLO.out.mono ?_
    rintro e w3 ⟨rfl, hb3⟩
    have HB3 : Hid (Below w.heap.size w w3) := Lib.hid (HB2.out.trans (hb3.mono HB2.out.size))
    clear hb3
    go_wp2
    go_ret
    exact ⟨rfl, HB3.out⟩
  have g1 : longP cs = false := Bool.eq_false_iff.2 g1
  rw [g1] at HLO
  clear g1
  go_wp2_with fail
  refine HLO.out.mono ?_
  rintro e w3 ⟨rfl, hb3⟩
  have q3 := HX2.out.old hb3
  have c0 := q3.c0
  have c1 := q3.c1
  have HX3 := Lib.hid q3
  have HB3 : Hid (Below w.heap.size w w3) := Lib.hid (HB2.out.trans (hb3.mono HB2.out.size))
  have HR3 := Lib.hid (HR2.out.old hb3)
  have HHA := Lib.hid (home_any ep _ cs a w3 B (HR2.out.old hb3))
  clear hb3 q3
  go_wp2_with fail
  refine HHA.out.mono ?_
  rintro e w4 ⟨rfl, hb4⟩
  have q4 := HX3.out.old hb4
  have c0 := q4.c0
  have c1 := q4.c1
  have HX4 := Lib.hid q4
  have HB4 : Hid (Below w.heap.size w w4) := Lib.hid (HB3.out.trans (hb4.mono HB3.out.size))
  have HHB := Lib.hid (home_any ep _ cs b w4 B (HR3.out.old hb4))
  clear hb4 q4
  by_cases g2 : homeC ep cs a = 0
  rotate_left
  · have HV : Hid (homeR ep cs a = 0) := Lib.hid (by unfold homeR; rw [if_neg g2])
    rw [errV_pos g2, HV.out]
    clear g2
    go_wp2_with fail
    refine HHB.out.mono ?_
    rintro e w5 ⟨rfl, hb5⟩
    have HB5 : Hid (Below w.heap.size w w5) := Lib.hid (HB4.out.trans (hb5.mono HB4.out.size))
    clear hb5
    go_wp2
    go_ret
    exact ⟨rfl, HB5.out⟩
  by_cases g3 : homeC ep cs b = 0
  rotate_left
  · have HV : Hid (homeR ep cs b = 0) := Lib.hid (by unfold homeR; rw [if_neg g3])
    have HE : Hid (errV (homeC ep cs b) = .iface 48 (.int .i64 (homeC ep cs b : Int))) := Lib.hid (errV_pos g3)
    rw [g2, errV_zero]
    obtain ⟨x, hx⟩ : ∃ x, x = homeR ep cs a := ⟨_, rfl⟩
    rw [← hx]
    clear g2 g3 hx
    go_wp2_with fail
    refine HHB.out.mono ?_
    rintro e w5 ⟨rfl, hb5⟩
    rw [HE.out, HV.out]
    have HB5 : Hid (Below w.heap.size w w5) := Lib.hid (HB4.out.trans (hb5.mono HB4.out.size))
    clear hb5
    by_cases hx0 : x = 0
    · have hxb : (x == 0) = true := by rw [beq_iff_eq]; exact hx0
      clear hx0
      go_wp2
      go_ret
      exact ⟨rfl, HB5.out⟩
    · have hxb : (x == 0) = false := by rw [beq_eq_false_iff_ne]; exact hx0
      clear hx0
      go_wp2
      go_ret
      exact ⟨rfl, HB5.out⟩
  have HZA := Lib.hid (homeC_zero g2)
  have HZB := Lib.hid (homeC_zero g3)
  have few := formed_few (pchk_zero.1 HZA.out.1).2.1
  have HVA : Hid (homeR ep cs a = a % (cs.length : Int)) := Lib.hid (by unfold homeR; rw [if_pos g2])
  have HVB : Hid (homeR ep cs b = b % (cs.length : Int)) := Lib.hid (by unfold homeR; rw [if_pos g3])
  rw [g2, HVA.out, errV_zero]
  rw [g3, HVB.out, errV_zero] at HHB
  obtain ⟨a1, a2⟩ := addrB_iff.1 HZA.out.2
  obtain ⟨b1, b2⟩ := addrB_iff.1 HZB.out.2
  obtain ⟨n, hn⟩ : ∃ n : Int, n = (cs.length : Int) := ⟨_, rfl⟩
  have hn1 : 1 ≤ n := by omega
  have hn4 : n ≤ 4 := by omega
  have HTM := Lib.hid (tmod_home (a := a) (b := b) (n := n))
  have xa := Int.emod_nonneg a (show n ≠ 0 by omega)
  have xa2 := Int.emod_lt_of_pos a (show 0 < n by omega)
  have xb := Int.emod_nonneg b (show n ≠ 0 by omega)
  have xb2 := Int.emod_lt_of_pos b (show 0 < n by omega)
  rw [← hn] at HHB ⊢
  have HN := Lib.hid hn
  generalize a % n = x at *
  generalize b % n = y at *
  clear g2 g3 few hn HVA HVB
  go_wp2_with fail
  refine HHB.out.mono ?_
  rintro e w5 ⟨rfl, hb5⟩
  have q5 := HX4.out.old hb5
  have c0 := q5.c0
  have c1 := q5.c1
  have HB5 : Hid (Below w.heap.size w w5) := Lib.hid (HB4.out.trans (hb5.mono HB4.out.size))
  clear hb5 q5
  have hxl : x < (cs.length : Int) := by rw [← HN.out]; exact xa2
  have hyl : y < (cs.length : Int) := by rw [← HN.out]; exact xb2
  have htm := HTM.out
  rw [HN.out] at htm
  have hl1 : 1 ≤ (cs.length : Int) := by rw [← HN.out]; exact hn1
  have hl0 : ((cs.length : Int) == 0) = false := by rw [beq_eq_false_iff_ne]; omega
  clear xa xa2 xb xb2 hn1 hn4
  by_cases hxy : x = y
  · have hb : (x == y) = true := by rw [beq_iff_eq]; exact hxy
    rw [decide_eq_true hxy] at htm
    clear hxy
    go_wp2
    go_ret
    exact ⟨rfl, HB5.out⟩
  · have hb : (x == y) = false := by rw [beq_eq_false_iff_ne]; exact hxy
    rw [decide_eq_false hxy] at htm
    clear hxy
    go_wp2
    go_ret
    exact ⟨rfl, HB5.out⟩

end Go.Proofs.Ytgjdablifncbaaa
