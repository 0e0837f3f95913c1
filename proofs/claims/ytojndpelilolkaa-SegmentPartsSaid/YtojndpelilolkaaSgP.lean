/- The document's own segments: Check, Same, Put; alive. -/
import Derived.Test.YtojndpelilolkaaSgN
namespace Go.Proofs.Ytojndpelilolkaa
open Go.RowKit

set_option maxHeartbeats 2000000 in
set_option maxRecDepth 100000 in
theorem rsgcheck_any (f : Int) (v : Value) (cs : List IC) (w : World) (B : Nat → Prop) (h : Dc w B v cs) (hf : -9223372036854775808 ≤ f ∧ f ≤ 9223372036854775807) :
    Calls Try.prog 9 #[.agg #[.int .i64 f, v]] w fun e w' => e = .returned (.int .i64 (sgC f cs : Nat)) ∧ Below w.heap.size w w' := by
  obtain ⟨ao, cap, rfl, l1, m1, _⟩ := h.val
  obtain ⟨W1, hW1⟩ : ∃ W1, W1 = w.alloc (.cells #[.int .i64 f, .slice ao cs.length cap] 29) := ⟨_, rfl⟩
  have hb1 : Below w.heap.size w W1 := by rw [hW1]; exact (Below.refl _ _).alloc (Nat.le_refl _) _
  have hx1 : SdB W1 w.heap.size (.int .i64 f) (.slice ao cs.length cap) := by rw [hW1]; exact sdb_new _ _ _
  have HX1 := Lib.hid hx1
  have HB1 := Lib.hid hb1
  have HR := Lib.hid (h.old hb1)
  obtain ⟨n, hn⟩ : ∃ n, n = cs.length := ⟨_, rfl⟩
  rw [← hn] at HX1 HR hW1 ⊢
  have HN := Lib.hid hn
  obtain ⟨z, hz⟩ : ∃ z, z = sgC f cs := ⟨_, rfl⟩
  rw [← hz]
  have HZ := Lib.hid hz
  have HW1 := Lib.hid hW1
  clear h hb1 l1 m1 hx1 hn hz hW1
  by_cases g1 : f < 0
  · obtain rfl : z = 1 := by rw [HZ.out, sgC, if_pos (.inl g1)]
    go_enter Try.func9, Try.ntmps9
    go_wp2
    go_ret
    exact ⟨rfl, by rw [← HW1.out]; exact HB1.out⟩
  by_cases g2 : f > 1048576
  · obtain rfl : z = 1 := by rw [HZ.out, sgC, if_pos (.inr (by omega))]
    go_enter Try.func9, Try.ntmps9
    go_wp2
    go_ret
    exact ⟨rfl, by rw [← HW1.out]; exact HB1.out⟩
  by_cases g3 : (n : Int) > 64
  · obtain rfl : z = 3 := by rw [HZ.out, sgC, if_neg (by omega), if_pos (by rw [← HN.out]; omega)]
    go_enter Try.func9, Try.ntmps9
    go_wp2
    go_ret
    exact ⟨rfl, by rw [← HW1.out]; exact HB1.out⟩
  have hwr : wrap64 (f + (n : Int)) = f + (n : Int) := w64_in (by omega) (by omega)
  by_cases g4 : f + (n : Int) > 1048576
  · obtain rfl : z = 1 := by rw [HZ.out, sgC, if_neg (by omega), if_neg (by rw [← HN.out]; omega), if_pos (by rw [← HN.out]; omega)]
    go_enter Try.func9, Try.ntmps9
    go_wp2
    go_ret
    exact ⟨rfl, by rw [← HW1.out]; exact HB1.out⟩
  have HZB : Hid (z = firstBad cs) := Lib.hid (by rw [HZ.out, sgC, if_neg (by omega), if_neg (by rw [← HN.out]; omega), if_neg (by rw [← HN.out]; omega)])
  have hn64 : (n : Int) ≤ 64 := by omega
  clear g3
  obtain ⟨c0, c1, _, _⟩ := HX1.out.x
  rw [HW1.out] at c0 c1
  go_enter Try.func9, Try.ntmps9
  go_wp2
  clear c0 c1
  go_loopw [3, 4] (fun i _ wr => ∃ k : Nat, k ≤ n ∧ i = .int .i64 (k : Int) ∧ (∀ c ∈ cs.take k, chk c.1 c.2.length = 0) ∧ Below W1.heap.size W1 wr)
    (fun i _ _ => n - (intOf i).toNat)
  case atStart => exact ⟨0, Nat.zero_le _, rfl, by simp, by rw [← HW1.out]; exact Below.refl _ _⟩
  case round =>
    obtain ⟨k, hk, rfl, hno, hb⟩ := hrel
    have HB := Lib.hid hb
    have HNO := Lib.hid hno
    obtain ⟨e0, e1, _, _⟩ := (HX1.out.old hb).x
    clear hb hno
    by_cases hlt : k < n
    · have hltc : k < cs.length := by rw [← HN.out]; exact hlt
      obtain ⟨b, off, rfl, _, _, c0, c1⟩ := (HR.out.old HB.out).at hltc
      have HST := Lib.hid (firstBad_take hltc HNO.out)
      have HTK := Lib.hid (take_snocI cs k hltc)
      generalize hg : cs.getD k (0, []) = g at c0 c1
      rw [hg] at HST HTK
      obtain ⟨kk, d⟩ := g
      simp only at c0 c1
      have HCK := Lib.hid (refCheck_any kk (S8 d) wr)
      rw [S8_size] at HCK
      obtain ⟨s, hs⟩ : ∃ s, s = S8 d := ⟨_, rfl⟩
      rw [← hs] at c1 HCK
      clear hg hltc hs
      have hlti : (k : Int) < (n : Int) := by omega
      go_wp2_with fail
      refine HCK.out.mono ?_
      rintro e w3 ⟨rfl, hb3⟩
      have HB3 := Lib.hid (HB.out.trans (hb3.mono HB.out.size))
      clear hb3 c0 c1 e0 e1
      by_cases hc : chk kk d.length = 0
      · have HN1 : Hid (∀ c ∈ cs.take (k + 1), chk c.1 c.2.length = 0) := Lib.hid (by
          intro c hcm
          rw [HTK.out] at hcm
          rcases List.mem_append.1 hcm with hcm | hcm
          · exact HNO.out c hcm
          · obtain rfl := List.mem_singleton.1 hcm
            exact hc)
        rw [hc]
        clear hc HST
        go_wp2
        go_roundw
        case rel => exact ⟨k + 1, by omega, by go_num, HN1.out, HB3.out⟩
        case measure => simp [intOf]; omega
      · have HE : Hid (z = chk kk d.length) := Lib.hid (by rw [HZB.out, HST.out hc])
        obtain ⟨y, hy⟩ : ∃ y, y = chk kk d.length := ⟨_, rfl⟩
        rw [← hy] at HE hc ⊢
        have hyb : ((y : Int) != 0) = true := by simp; omega
        have hyi : ¬ (y : Int) = 0 := by omega
        clear HST hc
        go_wp2
        go_ret
        exact ⟨by rw [HE.out, hy]; rfl, HB1.out.trans (HB3.out.mono HB1.out.size)⟩
    · obtain rfl : k = n := by omega
      have HE : Hid (z = 0) := Lib.hid (by
        have := HNO.out
        rw [HN.out, List.take_length] at this
        rw [HZB.out, firstBad_good this])
      go_wp2
      go_ret
      exact ⟨by rw [HE.out]; rfl, HB1.out.trans (HB.out.mono HB1.out.size)⟩

set_option maxHeartbeats 2000000 in
set_option maxRecDepth 100000 in
theorem rsgsame_any (f1 f2 : Int) (v1 v2 : Value) (a b : List IC) (w : World) (A B : Nat → Prop) (h1 : Dc w A v1 a) (h2 : Dc w B v2 b) (ha : ∀ c ∈ a, ∀ y ∈ c.2, y < 256) (hb : ∀ c ∈ b, ∀ y ∈ c.2, y < 256) :
    Calls Try.prog 18 #[.agg #[.int .i64 f1, v1], .agg #[.int .i64 f2, v2]] w fun e w' => e = .returned (.bool (sgSame f1 a f2 b)) ∧ Below w.heap.size w w' := by
  obtain ⟨ao1, cap1, rfl, l1, m1, _⟩ := h1.val
  obtain ⟨ao2, cap2, rfl, _, _, _⟩ := h2.val
  obtain ⟨W1, hW1⟩ : ∃ W1, W1 = (w.alloc (.cells #[.int .i64 f1, .slice ao1 a.length cap1] 29)).alloc (.cells #[.int .i64 f2, .slice ao2 b.length cap2] 29) := ⟨_, rfl⟩
  have hb1 : Below w.heap.size w W1 := by rw [hW1]; exact ((Below.refl _ _).alloc (Nat.le_refl _) _).alloc (by simp) _
  have hx1 : SdB W1 w.heap.size (.int .i64 f1) (.slice ao1 a.length cap1) := by rw [hW1]; exact (sdb_new _ _ _).old ((Below.refl _ _).alloc (Nat.le_refl _) _)
  have hy1 : SdB W1 (w.heap.size + 1) (.int .i64 f2) (.slice ao2 b.length cap2) := by
    have := sdb_new (w.alloc (.cells #[.int .i64 f1, .slice ao1 a.length cap1] 29)) (.int .i64 f2) (.slice ao2 b.length cap2)
    rw [hW1]; simpa using this
  have hbig : (a.length : Int) ≤ 9223372036854775807 := by unfold maxLen at m1; omega
  have HX1 := Lib.hid hx1
  have HY1 := Lib.hid hy1
  have HB1 := Lib.hid hb1
  have HR1 := Lib.hid (h1.old hb1)
  have HR2 := Lib.hid (h2.old hb1)
  have HA := Lib.hid ha
  have HB8 := Lib.hid hb
  obtain ⟨n1, hn1⟩ : ∃ n, n = a.length := ⟨_, rfl⟩
  obtain ⟨n2, hn2⟩ : ∃ n, n = b.length := ⟨_, rfl⟩
  rw [← hn1] at HX1 HR1 hW1 hbig ⊢
  rw [← hn2] at HY1 HR2 hW1 ⊢
  have HN1 := Lib.hid hn1
  have HN2 := Lib.hid hn2
  obtain ⟨z, hz⟩ : ∃ z, z = sgSame f1 a f2 b := ⟨_, rfl⟩
  rw [← hz]
  have HZ := Lib.hid hz
  have HW1 := Lib.hid hW1
  clear h1 h2 hb1 l1 m1 hx1 hy1 hn1 hn2 hz hW1 ha hb
  by_cases g1 : f1 = f2
  rotate_left
  · obtain rfl : z = false := by rw [HZ.out, sgSame, decide_eq_false g1, Bool.false_and]
    have g1b : (f1 != f2) = true := by simp [g1]
    go_enter Try.func18, Try.ntmps18
    go_wp2
    go_ret
    exact ⟨rfl, by rw [← HW1.out]; exact HB1.out⟩
  have g1b : (f1 != f2) = false := by simp [g1]
  have HZ2 : Hid (z = decide (a = b)) := Lib.hid (by rw [HZ.out, sgSame, decide_eq_true g1, Bool.true_and])
  clear g1
  by_cases g2 : n1 = n2
  rotate_left
  · have g2b : ((n1 : Int) != (n2 : Int)) = true := by simp; omega
    obtain rfl : z = false := by rw [HZ2.out]; exact decide_eq_false fun e => g2 (by rw [HN1.out, HN2.out, e])
    clear g2
    go_enter Try.func18, Try.ntmps18
    go_wp2
    go_ret
    exact ⟨rfl, by rw [← HW1.out]; exact HB1.out⟩
  subst g2
  have g2b : ((n1 : Int) != (n1 : Int)) = false := by simp
  go_enter Try.func18, Try.ntmps18
  go_wp2
  go_loopw [5] (fun i wr => ∃ k : Nat, k ≤ n1 ∧ i = .int .i64 (k : Int) ∧ a.take k = b.take k ∧ Below W1.heap.size W1 wr)
    (fun i _ => n1 - (intOf i).toNat)
  case atStart => exact ⟨0, Nat.zero_le _, rfl, rfl, by rw [← HW1.out]; exact Below.refl _ _⟩
  case round =>
    obtain ⟨k, hk, rfl, hsm, hb⟩ := hrel
    have HB := Lib.hid hb
    have HS := Lib.hid hsm
    obtain ⟨x0, x1, _, _⟩ := (HX1.out.old hb).x
    obtain ⟨y0, y1, _, _⟩ := (HY1.out.old hb).x
    clear hb hsm
    by_cases hlt : k < n1
    · have hla : k < a.length := by rw [← HN1.out]; exact hlt
      have hlb : k < b.length := by rw [← HN2.out]; exact hlt
      obtain ⟨b1, off1, rfl, _, _, c0, c1⟩ := (HR1.out.old HB.out).at hla
      obtain ⟨b2, off2, rfl, _, _, e0, e1⟩ := (HR2.out.old HB.out).at hlb
      have HNX := Lib.hid (take_eq_next HS.out hla hlb)
      have hma : ∀ y ∈ (a.getD k (0, [])).2, y < 256 := HA.out _ (by rw [List.getD_eq_getElem?_getD, List.getElem?_eq_getElem hla]; exact List.getElem_mem hla)
      have hmb : ∀ y ∈ (b.getD k (0, [])).2, y < 256 := HB8.out _ (by rw [List.getD_eq_getElem?_getD, List.getElem?_eq_getElem hlb]; exact List.getElem_mem hlb)
      have HDF : Hid (a.getD k (0, []) ≠ b.getD k (0, []) → decide (a = b) = false) := Lib.hid fun h => decide_eq_false fun e => h (by rw [e])
      generalize hg1 : a.getD k (0, []) = g1 at c0 c1 hma
      generalize hg2 : b.getD k (0, []) = g2 at e0 e1 hmb
      rw [hg1, hg2] at HNX HDF
      obtain ⟨k1, d1⟩ := g1
      obtain ⟨k2, d2⟩ := g2
      simp only at c0 c1 hma e0 e1 hmb
      have hneq := fun W => neq_cells k1 k2 d1 d2 hma hmb W
      obtain ⟨sm, hsm⟩ : ∃ s, s = sameC k1 d1 k2 d2 := ⟨_, rfl⟩
      simp only [← hsm] at hneq
      have HSM := Lib.hid hsm
      obtain ⟨s1, hs1⟩ : ∃ s, s = S8 d1 := ⟨_, rfl⟩
      obtain ⟨s2, hs2⟩ : ∃ s, s = S8 d2 := ⟨_, rfl⟩
      rw [← hs1] at c1
      rw [← hs2] at e1
      simp only [← hs1, ← hs2] at hneq
      have hki : (k : Int) < (n1 : Int) := by omega
      clear hg1 hg2 hma hmb hla hlb hsm hs1 hs2
      have HDX : Hid (sm = false → z = false) := Lib.hid fun h => by
        rw [HZ2.out]
        refine HDF.out fun e => ?_
        have := (sameC_iff k1 k2 d1 d2).2 e
        rw [← HSM.out, h] at this
        cases this
      have HNN : Hid (sm = true → a.take (k + 1) = b.take (k + 1)) := Lib.hid fun h => HNX.out ((sameC_iff k1 k2 d1 d2).1 (HSM.out.symm.trans h))
      cases sm
      · have HD : Hid (z = false) := Lib.hid (HDX.out rfl)
        clear HDX HNN HSM
        go_wp2
        go_region
        go_wp2
        go_ret
        exact ⟨by rw [HD.out]; rfl, (HB1.out.trans (HB.out.mono HB1.out.size)).drew⟩
      · have HN := Lib.hid (HNN.out rfl)
        clear HDX HNN HSM
        go_wp2
        go_region
        go_wp2
        go_roundw
        case rel => exact ⟨k + 1, by omega, by go_num, HN.out, HB.out.drew⟩
        case measure => simp [intOf]; omega
    · obtain rfl : k = n1 := by omega
      have HD : Hid (z = true) := Lib.hid (by rw [HZ2.out]; exact decide_eq_true (by
        have := HS.out
        rw [HN1.out, List.take_length] at this
        rw [← HN1.out, HN2.out, List.take_length] at this
        exact this))
      go_wp2
      go_ret
      exact ⟨by rw [HD.out]; rfl, HB1.out.trans (HB.out.mono HB1.out.size)⟩

end Go.Proofs.Ytojndpelilolkaa
