/- The contracts of package cell's Check, Same, May, Copy, Later, Word. -/
import Derived.Test.YtnhffeppbliabaaCelC
import Derived.Test.YtnhffeppbliabaaCloneA
namespace Go.Proofs.Ytnhffeppbliabaa
open Go.RowKit

/-- Are two cells the same? -/
def sameC (k1 : Int) (d1 : List Nat) (k2 : Int) (d2 : List Nat) : Bool := k1 == k2 && decide (d1 = d2)
/-- May one become another? -/
def mayC (k1 : Int) (d1 : List Nat) (k2 : Int) (d2 : List Nat) : Bool :=
  if chk k1 d1.length ≠ 0 then false else if chk k2 d2.length ≠ 0 then false else (k1 == 0 || k2 == 3) || sameC k1 d1 k2 d2

theorem chk_le (k : Int) (n : Nat) : chk k n = 0 ∨ chk k n = 1 ∨ chk k n = 2 ∨ chk k n = 3 := by
  unfold chk
  split
  · exact .inr (.inl rfl)
  · split
    · exact .inr (.inr (.inr rfl))
    · split
      · exact .inr (.inr (.inl rfl))
      · exact .inl rfl
theorem chk_zero {k : Int} {n : Nat} (h : chk k n = 0) : 0 ≤ k ∧ k ≤ 3 ∧ n ≤ 64 ∧ (k ≠ 1 → n = 0) := by
  unfold chk at h
  split at h
  · cases h
  · split at h
    · cases h
    · split at h
      · cases h
      · omega

set_option maxHeartbeats 400000 in
set_option maxRecDepth 100000 in
theorem equal_any (v1 v2 : Value) (a b : List Nat) (w : World) (h1 : Reads w .u8 v1 a) (h2 : Reads w .u8 v2 b) (ha : ∀ x ∈ a, x < 256) (hb : ∀ x ∈ b, x < 256) :
    Calls Try.prog 58 #[v1, v2] w fun e w' => e = .returned (.bool (decide (a = b))) ∧ w = w' := by
  have c1 := conv_reads v1 a w h1
  have c2 := conv_reads v2 b w h2
  have hs := str_beq ha hb
  generalize strOfNums (a.map (fun n : Nat => (n : Int))) = sa at c1 hs
  generalize strOfNums (b.map (fun n : Nat => (n : Int))) = sb at c2 hs
  have HS := Lib.hid hs; clear hs
  go_enter Try.func58, Try.ntmps58
  go_wp2
  go_ret
  exact ⟨congrArg (fun b => Ending.returned (Value.bool b)) HS.out, rfl⟩

set_option maxHeartbeats 400000 in
set_option maxRecDepth 100000 in
theorem check_any (k : Int) (v : Value) (d : List Nat) (w : World) (hr : Reads w .u8 v d) :
    Calls Try.prog 63 #[.agg #[.int .i64 k, v]] w fun e w' => e = .returned (errV (chk k d.length)) ∧ Below w.heap.size w w' := by
  obtain ⟨ao, cap, rfl, _, _, _⟩ := hr.val
  have e1 : Value.iface 77 (.int .i64 1) = errV 1 := (errV_pos (by decide)).symm
  have e2 : Value.iface 77 (.int .i64 2) = errV 2 := (errV_pos (by decide)).symm
  have e3 : Value.iface 77 (.int .i64 3) = errV 3 := (errV_pos (by decide)).symm
  have e0 : Value.nilIface = errV 0 := errV_zero.symm
  have E0 := Lib.hid e0
  have E1 := Lib.hid e1
  have E2 := Lib.hid e2
  have E3 := Lib.hid e3
  clear e0 e1 e2 e3 hr
  generalize hn : d.length = n
  clear hn
  unfold chk
  by_cases h1 : k < 0
  · rw [if_pos (.inl h1), ← E1.out]
    go_enter Try.func63, Try.ntmps63
    go_wp2
    go_ret
    exact ⟨rfl, (Below.refl _ _).alloc (Nat.le_refl _) _⟩
  by_cases h2 : 3 < k
  · rw [if_pos (.inr h2), ← E1.out]
    go_enter Try.func63, Try.ntmps63
    go_wp2
    go_ret
    exact ⟨rfl, (Below.refl _ _).alloc (Nat.le_refl _) _⟩
  rw [if_neg (by omega)]
  by_cases h3 : (64 : Int) < (n : Int)
  · rw [if_pos (by omega), ← E3.out]
    go_enter Try.func63, Try.ntmps63
    go_wp2
    go_ret
    exact ⟨rfl, (Below.refl _ _).alloc (Nat.le_refl _) _⟩
  rw [if_neg (by omega)]
  by_cases h5 : (0 : Int) < (n : Int)
  · by_cases h4 : (k != 1) = true
    · have hk : k ≠ 1 := by simpa using h4
      rw [if_pos ⟨hk, by omega⟩, ← E2.out]
      go_enter Try.func63, Try.ntmps63
      go_wp2
      go_ret
      exact ⟨rfl, (Below.refl _ _).alloc (Nat.le_refl _) _⟩
    · have hk : k = 1 := by simpa using h4
      rw [if_neg (by omega), ← E0.out]
      subst hk
      go_enter Try.func63, Try.ntmps63
      go_wp2
      go_ret
      exact ⟨rfl, (Below.refl _ _).alloc (Nat.le_refl _) _⟩
  · rw [if_neg (by omega), ← E0.out]
    go_enter Try.func63, Try.ntmps63
    go_wp2
    go_ret
    exact ⟨rfl, (Below.refl _ _).alloc (Nat.le_refl _) _⟩

/-- Two boxes of cells, made one behind the other. -/
theorem two_boxes (w : World) (x y : Value) (k1 k2 : Int) :
    Below w.heap.size w ((w.alloc (.cells #[.int .i64 k1, x] 49)).alloc (.cells #[.int .i64 k2, y] 49)) ∧
    ((w.alloc (.cells #[.int .i64 k1, x] 49)).alloc (.cells #[.int .i64 k2, y] 49)).heap[w.heap.size]? = some (.cells #[.int .i64 k1, x] 49 (0, 0)) ∧
    ((w.alloc (.cells #[.int .i64 k1, x] 49)).alloc (.cells #[.int .i64 k2, y] 49)).heap[w.heap.size + 1]? = some (.cells #[.int .i64 k2, y] 49 (0, 0)) := by
  refine ⟨((Below.refl _ _).alloc (Nat.le_refl _) _).alloc (by simp) _, ?_, ?_⟩
  · rw [Below.heap_alloc _ _ _ (by simp)]; exact heap_alloc_new _ _
  · have := heap_alloc_new (w.alloc (.cells #[.int .i64 k1, x] 49)) (.cells #[.int .i64 k2, y] 49)
    simpa using this

set_option maxHeartbeats 400000 in
set_option maxRecDepth 100000 in
theorem same_any (k1 k2 : Int) (v1 v2 : Value) (d1 d2 : List Nat) (w : World) (h1 : Reads w .u8 v1 d1) (h2 : Reads w .u8 v2 d2) (ha : ∀ x ∈ d1, x < 256) (hb : ∀ x ∈ d2, x < 256) :
    Calls Try.prog 21 #[.agg #[.int .i64 k1, v1], .agg #[.int .i64 k2, v2]] w fun e w' => e = .returned (.bool (sameC k1 d1 k2 d2)) ∧ Below w.heap.size w w' := by
  obtain ⟨ao1, cap1, rfl, _, _, _⟩ := h1.val
  obtain ⟨ao2, cap2, rfl, _, _, _⟩ := h2.val
  obtain ⟨hb0, hx1, hx2⟩ := two_boxes w (.slice ao1 d1.length cap1) (.slice ao2 d2.length cap2) k1 k2
  obtain ⟨W0, hW0⟩ : ∃ W0, W0 = (w.alloc (.cells #[.int .i64 k1, .slice ao1 d1.length cap1] 49)).alloc (.cells #[.int .i64 k2, .slice ao2 d2.length cap2] 49) := ⟨_, rfl⟩
  rw [← hW0] at hb0
  have HR1 := Lib.hid (h1.new hb0)
  have HR2 := Lib.hid (h2.new hb0)
  have HB0 := Lib.hid hb0
  obtain ⟨a0, a1, _, _⟩ := blk2 hx1
  obtain ⟨b0, b1, _, _⟩ := blk2 hx2
  have HW0 := Lib.hid hW0
  clear hb0 hx1 hx2 h1 h2 hW0
  unfold sameC
  cases he : (k1 == k2)
  · go_enter Try.func21, Try.ntmps21
    go_wp2
    go_ret
    exact ⟨rfl, by rw [← HW0.out]; exact HB0.out⟩
  · go_enter Try.func21, Try.ntmps21
    go_wp2_with fail
    rw [← HW0.out]
    refine (equal_any _ _ d1 d2 W0 HR1.out HR2.out ha hb).mono ?_
    rintro e w1 ⟨rfl, rfl⟩
    go_wp2
    go_ret
    exact ⟨rfl, HB0.out⟩

set_option maxHeartbeats 1000000 in
set_option maxRecDepth 100000 in
theorem may_aux (k1 k2 : Int) (v1 v2 : Value) (d1 d2 : List Nat) (w : World) (h1 : Reads w .u8 v1 d1) (h2 : Reads w .u8 v2 d2) (ha : ∀ x ∈ d1, x < 256) (hb : ∀ x ∈ d2, x < 256) (m : Bool) (hm : m = mayC k1 d1 k2 d2) :
    Calls Try.prog 26 #[.agg #[.int .i64 k1, v1], .agg #[.int .i64 k2, v2]] w fun e w' => e = .returned (.bool m) ∧ Below w.heap.size w w' := by
  have HM := Lib.hid hm; clear hm
  obtain ⟨ao1, cap1, rfl, _, _, _⟩ := h1.val
  obtain ⟨ao2, cap2, rfl, _, _, _⟩ := h2.val
  obtain ⟨hb0, hx1, hx2⟩ := two_boxes w (.slice ao1 d1.length cap1) (.slice ao2 d2.length cap2) k1 k2
  obtain ⟨W0, hW0⟩ : ∃ W0, W0 = (w.alloc (.cells #[.int .i64 k1, .slice ao1 d1.length cap1] 49)).alloc (.cells #[.int .i64 k2, .slice ao2 d2.length cap2] 49) := ⟨_, rfl⟩
  rw [← hW0] at hb0 hx1 hx2
  have HR1 := Lib.hid (h1.new hb0)
  have HR2 := Lib.hid (h2.new hb0)
  have HX1 := Lib.hid hx1
  have HX2 := Lib.hid hx2
  have HB0 := Lib.hid hb0
  have HA := Lib.hid ha
  have HB := Lib.hid hb
  clear hx1 hx2 hb0 h1 h2 ha hb
  go_enter Try.func26, Try.ntmps26
  go_wp2_with fail
  rw [← hW0]
  refine (check_any k1 _ d1 _ HR1.out).mono ?_
  rintro e w1 ⟨rfl, hb1⟩
  have HB1 : Hid (Below w.heap.size w w1) := Lib.hid (HB0.out.trans (hb1.mono HB0.out.size))
  have hy1 := (hb1.block _ (Array.getElem?_eq_some_iff.1 HX1.out).1).trans HX1.out
  have hy2 := (hb1.block _ (Array.getElem?_eq_some_iff.1 HX2.out).1).trans HX2.out
  have HS1 := Lib.hid (HR1.out.new hb1)
  have HS2 := Lib.hid (HR2.out.new hb1)
  have HW0 := Lib.hid hW0
  clear hb1 HX1 HX2 HB0 HR1 HR2 hW0
  obtain ⟨a0, a1, _, _⟩ := blk2 hy1
  obtain ⟨b0, b1, _, _⟩ := blk2 hy2
  have HY1 := Lib.hid hy1
  have HY2 := Lib.hid hy2
  by_cases hc1 : chk k1 d1.length = 0
  · rw [hc1, errV_zero]
    have HC1 := Lib.hid hc1
    clear hc1 hy1 hy2
    go_wp2_with fail
    refine (check_any k2 _ d2 _ HS2.out).mono ?_
    rintro e w2 ⟨rfl, hb2⟩
    have HB2 : Hid (Below w.heap.size w w2) := Lib.hid (HB1.out.trans (hb2.mono HB1.out.size))
    have hy1 := (hb2.block _ (Array.getElem?_eq_some_iff.1 HY1.out).1).trans HY1.out
    have hy2 := (hb2.block _ (Array.getElem?_eq_some_iff.1 HY2.out).1).trans HY2.out
    have HT1 := Lib.hid (HS1.out.new hb2)
    have HT2 := Lib.hid (HS2.out.new hb2)
    clear hb2 HB1 HY1 HY2 a0 a1 b0 b1 HS1 HS2
    obtain ⟨a0, a1, _, _⟩ := blk2 hy1
    obtain ⟨b0, b1, _, _⟩ := blk2 hy2
    by_cases hc2 : chk k2 d2.length = 0
    · rw [hc2, errV_zero]
      have HE : Hid (m = ((k1 == 0 || k2 == 3) || sameC k1 d1 k2 d2)) := Lib.hid (by
        rw [HM.out]
        unfold mayC
        rw [if_neg (by simpa using HC1.out), if_neg (by simpa using hc2)])
      clear hc2 hy1 hy2 HC1
      cases hq1 : (k1 == 0)
      · cases hq2 : (k2 == 3)
        · go_wp2_with fail
          refine (same_any k1 k2 _ _ d1 d2 w2 HT1.out HT2.out HA.out HB.out).mono ?_
          rintro e w3 ⟨rfl, hb3⟩
          go_wp2
          go_ret
          exact ⟨by rw [HE.out, hq1, hq2]; rfl, HB2.out.trans (hb3.mono HB2.out.size)⟩
        · go_wp2
          go_ret
          exact ⟨by rw [HE.out, hq1, hq2]; rfl, HB2.out⟩
      · go_wp2
        go_ret
        exact ⟨by rw [HE.out, hq1]; rfl, HB2.out⟩
    · have HE : Hid (m = false) := Lib.hid (by rw [HM.out]; unfold mayC; rw [if_neg (by simpa using HC1.out), if_pos hc2])
      rw [errV_pos hc2]
      clear hc2
      go_wp2
      go_ret
      exact ⟨by rw [HE.out]; rfl, HB2.out⟩
  · have HE : Hid (m = false) := Lib.hid (by rw [HM.out]; unfold mayC; rw [if_pos hc1])
    rw [errV_pos hc1]
    clear hc1
    go_wp2
    go_ret
    exact ⟨by rw [HE.out]; rfl, HB1.out⟩

theorem may_any (k1 k2 : Int) (v1 v2 : Value) (d1 d2 : List Nat) (w : World) (h1 : Reads w .u8 v1 d1) (h2 : Reads w .u8 v2 d2) (ha : ∀ x ∈ d1, x < 256) (hb : ∀ x ∈ d2, x < 256) :
    Calls Try.prog 26 #[.agg #[.int .i64 k1, v1], .agg #[.int .i64 k2, v2]] w fun e w' => e = .returned (.bool (mayC k1 d1 k2 d2)) ∧ Below w.heap.size w w' := may_aux k1 k2 v1 v2 d1 d2 w h1 h2 ha hb _ rfl

end Go.Proofs.Ytnhffeppbliabaa
