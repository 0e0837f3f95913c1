/- Law 12: the fixed fact; SeqCovers' walk. -/
import Derived.Test.YtjbodokligpcaaaSqE
import Derived.Test.YtjbodokligpcaaaPjA
namespace Go.Proofs.Ytjbodokligpcaaa
open Go.RowKit

set_option maxHeartbeats 1000000 in
set_option maxRecDepth 100000 in
theorem alive12_any (w : World) : Calls Try.prog 6 #[] w fun e w' => e = .returned (.bool true) ∧ Below w.heap.size w w' := by
  go_enter Try.func6, Try.ntmps6
  go_wp2_with fail
  refine (qnew_any w).mono ?_
  rintro e w1 ⟨rfl, hs1, hb1⟩
  have H2 := Lib.hid (qtake_any hs1 qok_zero 0 2)
  have HB1 := Lib.hid hb1
  clear hs1 hb1
  go_wp2_with fail
  refine H2.out.mono ?_
  rintro e w2 ⟨rfl, hs2, hg2⟩
  have e2 : qtakeS ⟨0, 0⟩ 0 2 = ⟨0, 2⟩ := rfl
  rw [e2] at hs2
  have HB2 : Hid (Below w.heap.size w w2) := Lib.hid (HB1.out.grown hg2 HB1.out.size fun j hj => by cases hj; exact Nat.le_refl _)
  have H3 := Lib.hid (qtake_any hs2 ⟨by decide, by decide, by decide, by decide⟩ 0 1)
  rw [show qtakeN ⟨0, 0⟩ 0 2 = 0 by rfl, show qtakeC ⟨0, 0⟩ 0 2 = 0 by rfl, errV_zero]
  clear hs2 hg2 e2
  go_wp2_with fail
  refine H3.out.mono ?_
  rintro e w3 ⟨rfl, _, hg3⟩
  rw [show qtakeN ⟨0, 2⟩ 0 1 = 2 by rfl, show qtakeC ⟨0, 2⟩ 0 1 = 0 by rfl, errV_zero]
  have HB3 : Hid (Below w.heap.size w w3) := Lib.hid (HB2.out.grown hg3 HB2.out.size fun j hj => by cases hj; exact Nat.le_refl _)
  clear hg3
  go_wp2
  go_ret
  exact ⟨rfl, HB3.out⟩

theorem qcur_own (a n : Int) : qcur ⟨a, n⟩ a = 0 := by unfold qcur; rw [if_neg (by simp), if_neg (by simp)]

set_option maxHeartbeats 2000000 in
set_option maxRecDepth 100000 in
theorem seqCovers_walk (from' : Int) (v : Value) (l : List Int) (w : World) (B : Nat → Prop) (h : IRow w B v l) :
    Calls Try.prog 5 #[.int .i64 from', v] w fun e w' => e = .returned (.bool true) ∧ Below w.heap.size w w' := by
  obtain ⟨ao, cap, rfl, l1, m1, _⟩ := h.val
  have HA := Lib.hid (alive12_any w)
  have HR := Lib.hid h
  obtain ⟨n, hn⟩ : ∃ n, n = l.length := ⟨_, rfl⟩
  rw [← hn]
  have HN := Lib.hid hn
  clear h l1 m1 hn
  go_enter Try.func5, Try.ntmps5
  go_wp2_with fail
  refine HA.out.mono ?_
  rintro e w1 ⟨rfl, hb1⟩
  have HB1 := Lib.hid hb1
  have HR1 := Lib.hid (HR.out.old hb1)
  clear hb1
  by_cases g0 : (n : Int) > 100
  · go_wp2
    go_ret
    exact ⟨rfl, HB1.out⟩
  have HNW := Lib.hid (qnew_any w1)
  have hn1 : (n : Int) ≤ 100 := by omega
  clear g0
  go_wp2_with fail
  refine HNW.out.mono ?_
  rintro e w2 ⟨rfl, hs2, hb2⟩
  have HB2 : Hid (Below w.heap.size w w2) := Lib.hid (HB1.out.trans (hb2.mono HB1.out.size))
  have HR2 := Lib.hid (HR1.out.old hb2)
  have HPW : Hid (w.heap.size ≤ w1.heap.size) := Lib.hid HB1.out.size
  have HSE := Lib.hid (qset_any hs2 1 from')
  obtain ⟨p, hp⟩ : ∃ p, p = w1.heap.size := ⟨_, rfl⟩
  rw [← hp] at HSE HPW
  rw [← hp]
  clear hs2 hb2 hp
  by_cases g1 : 0 ≤ from' ∧ from' ≤ 1048576
  rotate_left
  · have hC : qsetC ⟨0, 0⟩ 1 from' = 1 := by unfold qsetC; rw [if_pos (by omega)]
    rw [hC] at HSE
    by_cases g2 : from' < 0
    · clear g1 hC
      go_wp2_with fail
      refine HSE.out.mono ?_
      rintro e w3 ⟨rfl, _, hg3⟩
      have HB3 : Hid (Below w.heap.size w w3) := Lib.hid (HB2.out.grown hg3 HB2.out.size fun j hj => by cases hj; exact HPW.out)
      rw [errV_pos (by decide)]
      clear hg3
      go_wp2
      go_ret
      exact ⟨rfl, HB3.out⟩
    · have g3 : from' > 1048576 := by omega
      clear g1 hC
      go_wp2_with fail
      refine HSE.out.mono ?_
      rintro e w3 ⟨rfl, _, hg3⟩
      have HB3 : Hid (Below w.heap.size w w3) := Lib.hid (HB2.out.grown hg3 HB2.out.size fun j hj => by cases hj; exact HPW.out)
      rw [errV_pos (by decide)]
      clear hg3
      go_wp2
      go_ret
      exact ⟨rfl, HB3.out⟩
  have hC : qsetC ⟨0, 0⟩ 1 from' = 0 := by unfold qsetC; rw [if_neg (by omega), if_neg (by decide)]
  have hS : qsetS ⟨0, 0⟩ 1 from' = ⟨1, from'⟩ := by unfold qsetS; rw [hC, if_pos rfl]
  rw [hC, hS, errV_zero] at HSE
  have HG1 := Lib.hid g1
  clear hC hS g1
  go_wp2_with fail
  refine HSE.out.mono ?_
  rintro e w3 ⟨rfl, hs3, hg3⟩
  have HB3 : Hid (Below w.heap.size w w3) := Lib.hid (HB2.out.grown hg3 HB2.out.size fun j hj => by cases hj; exact HPW.out)
  have HS3 := Lib.hid hs3
  have HRW := Lib.hid HR.out.all
  clear hs3 hg3
  go_wp2
  go_loopw [6, 8, 9, 10, 32] (fun av _ _ _ i wr => ∃ (k : Nat) (a : Int), k ≤ n ∧ i = .int .i64 (k : Int) ∧ av = .int .i64 a ∧ 0 ≤ a ∧ a ≤ 1048576 ∧ Sq wr p ⟨1, a⟩ ∧ Below w.heap.size w wr)
    (fun _ _ _ _ i _ => n - (intOf i).toNat)
  case atStart => exact ⟨0, from', Nat.zero_le _, rfl, rfl, HG1.out.1, HG1.out.2, HS3.out, HB3.out⟩
  case round =>
    obtain ⟨k, a, hk, rfl, rfl, ha0, ha1, hs, hb⟩ := hrel
    have HB := Lib.hid hb
    have HT := Lib.hid (qtail_any hs 1)
    have HS := Lib.hid hs
    by_cases hlt : k < n
    · have hltl : k < l.length := by rw [← HN.out]; exact hlt
      obtain ⟨b, off, rfl, _, _, hc⟩ := (HN.out ▸ HR.out.old hb : IRow wr B _ l).at hltl
      have hcc := hc k hltl
      obtain ⟨u, hu⟩ : ∃ u, u = l.getD k 0 := ⟨_, rfl⟩
      rw [← hu] at hcc
      have hlti : (k : Int) < n := by omega
      have HTK := Lib.hid (qtake_any hs ⟨by simp, by simp, ha0, ha1⟩ 1 u)
      clear hc hltl hs hb hu
      by_cases g1 : u < 1
      · have hC : qtakeC ⟨1, a⟩ 1 u = 1 := by unfold qtakeC; rw [if_pos (by omega)]
        have hS : qtakeS ⟨1, a⟩ 1 u = ⟨1, a⟩ := by unfold qtakeS; rw [hC, if_neg (by decide)]
        rw [hC, hS, errV_pos (by decide)] at HTK
        clear hC hS
        go_wp2_with fail
        refine HTK.out.mono ?_
        rintro e w4 ⟨rfl, hs4, hg4⟩
        have HS4 := Lib.hid hs4
        have HB4 : Hid (Below w.heap.size w w4) := Lib.hid (HB.out.grown hg4 HB.out.size fun j hj => by cases hj; exact HPW.out)
        clear hs4 hg4
        go_wp2
        go_roundw
        case rel => exact ⟨k + 1, a, by omega, by go_num, rfl, ha0, ha1, HS4.out, HB4.out⟩
        case measure => simp [intOf]; omega
      by_cases g2 : u > 64
      · have hC : qtakeC ⟨1, a⟩ 1 u = 1 := by unfold qtakeC; rw [if_pos (by omega)]
        have hS : qtakeS ⟨1, a⟩ 1 u = ⟨1, a⟩ := by unfold qtakeS; rw [hC, if_neg (by decide)]
        rw [hC, hS, errV_pos (by decide)] at HTK
        clear hC hS
        go_wp2_with fail
        refine HTK.out.mono ?_
        rintro e w4 ⟨rfl, hs4, hg4⟩
        have HS4 := Lib.hid hs4
        have HB4 : Hid (Below w.heap.size w w4) := Lib.hid (HB.out.grown hg4 HB.out.size fun j hj => by cases hj; exact HPW.out)
        clear hs4 hg4
        go_wp2
        go_roundw
        case rel => exact ⟨k + 1, a, by omega, by go_num, rfl, ha0, ha1, HS4.out, HB4.out⟩
        case measure => simp [intOf]; omega
      by_cases g3 : a + u > 1048576
      · have hC : qtakeC ⟨1, a⟩ 1 u = 5 := by unfold qtakeC; rw [if_neg (by omega), qcur_own, if_neg (by simp), if_pos (by simp only; omega)]
        have hS : qtakeS ⟨1, a⟩ 1 u = ⟨1, a⟩ := by unfold qtakeS; rw [hC, if_neg (by decide)]
        rw [hC, hS, errV_pos (by decide)] at HTK
        have hsum : wrap64 (a + u) = a + u := by simp only [wrap64]; omega
        clear hC hS
        go_wp2_with fail
        refine HTK.out.mono ?_
        rintro e w4 ⟨rfl, hs4, hg4⟩
        have HS4 := Lib.hid hs4
        have HB4 : Hid (Below w.heap.size w w4) := Lib.hid (HB.out.grown hg4 HB.out.size fun j hj => by cases hj; exact HPW.out)
        clear hs4 hg4
        go_wp2
        go_roundw
        case rel => exact ⟨k + 1, a, by omega, by go_num, rfl, ha0, ha1, HS4.out, HB4.out⟩
        case measure => simp [intOf]; omega
      · have hC : qtakeC ⟨1, a⟩ 1 u = 0 := by unfold qtakeC; rw [if_neg (by omega), qcur_own, if_neg (by simp), if_neg (by simp only; omega)]
        have hS : qtakeS ⟨1, a⟩ 1 u = ⟨1, a + u⟩ := by unfold qtakeS; rw [hC, if_pos rfl]
        have hN : qtakeN ⟨1, a⟩ 1 u = a := by unfold qtakeN; rw [hC, if_pos rfl]
        rw [hC, hS, hN, errV_zero] at HTK
        have hsum : wrap64 (a + u) = a + u := by simp only [wrap64]; omega
        have ha2 : 0 ≤ a + u := by omega
        have ha3 : a + u ≤ 1048576 := by omega
        clear hC hS hN
        go_wp2_with fail
        refine HTK.out.mono ?_
        rintro e w4 ⟨rfl, hs4, hg4⟩
        have HS4 := Lib.hid hs4
        have HB4 : Hid (Below w.heap.size w w4) := Lib.hid (HB.out.grown hg4 HB.out.size fun j hj => by cases hj; exact HPW.out)
        clear hs4 hg4
        go_wp2
        go_roundw
        case rel => exact ⟨k + 1, a + u, by omega, by go_num, by first | rfl | rw [hsum], ha2, ha3, HS4.out, HB4.out⟩
        case measure => simp [intOf]; omega
    · have HTT := HT.out
      have hN : qtailN ⟨1, a⟩ 1 = a := by unfold qtailN; rw [qcur_own, if_pos rfl]
      rw [hN, qcur_own, errV_zero] at HTT
      have HTT := Lib.hid HTT
      clear hs hb hN
      go_wp2_with fail
      refine HTT.out.mono ?_
      rintro e w4 ⟨rfl, rfl⟩
      go_wp2
      go_ret
      exact ⟨rfl, HB.out⟩

end Go.Proofs.Ytjbodokligpcaaa
