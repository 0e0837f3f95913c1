/- The contracts of the document's own cells: Check, May, Bytes, common. -/
import Derived.Test.YtbihammpdjkonaaAtA
import Derived.Test.YtbihammpdjkonaaCelM
import Derived.Test.YtbihammpdjkonaaRrD
import Derived.Test.YtbihammpdjkonaaByteA
import Derived.Laws.StructEq
namespace Go.Proofs.Ytbihammpdjkonaa
open Go.RowKit

/-- Bytes as a string. -/
def S8 (l : List Nat) : ByteArray := strOfNums (l.map (fun n : Nat => (n : Int)))
theorem S8_size (l : List Nat) : (S8 l).size = l.length := by unfold S8; rw [strOfNums_size, List.length_map]

/-- A cell's error by its number. -/
def chk (k : Int) (n : Nat) : Nat := if k < 0 ∨ 3 < k then 1 else if 64 < n then 3 else if k ≠ 1 ∧ 0 < n then 2 else 0

set_option maxHeartbeats 400000 in
set_option maxRecDepth 100000 in
theorem refCheck_any (k : Int) (s : ByteArray) (w : World) :
    Calls Try.prog 12 #[.agg #[.int .i64 k, .string s]] w fun e w' => e = .returned (.int .i64 (chk k s.size : Nat)) ∧ Below w.heap.size w w' := by
  unfold chk
  by_cases h1 : k < 0
  · rw [if_pos (.inl h1)]
    go_enter Try.func12, Try.ntmps12
    go_wp2
    go_ret
    exact ⟨rfl, (Below.refl _ _).alloc (Nat.le_refl _) _⟩
  by_cases h2 : 3 < k
  · rw [if_pos (.inr h2)]
    go_enter Try.func12, Try.ntmps12
    go_wp2
    go_ret
    exact ⟨rfl, (Below.refl _ _).alloc (Nat.le_refl _) _⟩
  rw [if_neg (by omega)]
  by_cases h3 : (64 : Int) < (s.size : Int)
  · rw [if_pos (by omega)]
    go_enter Try.func12, Try.ntmps12
    go_wp2
    go_ret
    exact ⟨rfl, (Below.refl _ _).alloc (Nat.le_refl _) _⟩
  rw [if_neg (by omega)]
  by_cases h4 : (k != 1) = true
  · have hk : k ≠ 1 := by simpa using h4
    by_cases h5 : (0 : Int) < (s.size : Int)
    · rw [if_pos ⟨hk, by omega⟩]
      go_enter Try.func12, Try.ntmps12
      go_wp2
      go_ret
      exact ⟨rfl, (Below.refl _ _).alloc (Nat.le_refl _) _⟩
    · rw [if_neg (by omega)]
      go_enter Try.func12, Try.ntmps12
      go_wp2
      go_ret
      exact ⟨rfl, (Below.refl _ _).alloc (Nat.le_refl _) _⟩
  · have hk : k = 1 := by simpa using h4
    rw [if_neg (by omega)]
    subst hk
    go_enter Try.func12, Try.ntmps12
    go_wp2
    go_ret
    exact ⟨rfl, (Below.refl _ _).alloc (Nat.le_refl _) _⟩

/-- May one become another? -/
def mayI (k1 : Int) (s1 : ByteArray) (k2 : Int) (s2 : ByteArray) : Bool :=
  if chk k1 s1.size ≠ 0 then false else if chk k2 s2.size ≠ 0 then false else (k1 == k2 && s1.toList == s2.toList) || k1 == 0 || ((k1 == 1 || k1 == 2) && k2 == 3)

set_option maxRecDepth 100000 in
theorem eql_cells (k1 k2 : Int) (s1 s2 : ByteArray) (w : World) :
    (binOp .eql 29 (.agg #[.int .i64 k1, .string s1]) (.agg #[.int .i64 k2, .string s2])).run Try.prog w = .ok (.bool (k1 == k2 && s1.toList == s2.toList)) w := by
  have ht : Try.prog.underlying 29 = some (.struct (Try.prog.fieldsOf 29)) := by kernel_rfl
  have hp : Try.prog.stoodInHeld 29 = false := by kernel_rfl
  have h1 : Try.prog.underlying 3 = some (.int .i64) := Try.underlying3
  have h2 : Try.prog.underlying 9 = some .string := Try.underlying9
  obtain ⟨L, hL⟩ : ∃ L, L = (Try.prog.fieldsOf 29).toList := ⟨_, rfl⟩
  have hm : (L.map fun f => (f.name, f.type, f.offset)) = [("Kind", 3, 0), ("Data", 9, 1)] := by rw [hL]; kernel_rfl
  obtain ⟨f0, f1, hf, n0, hf0, g0, n1, hf1, g1⟩ : ∃ f0 f1, L = [f0, f1] ∧ f0.name = "Kind" ∧ f0.type = 3 ∧ f0.offset = 0 ∧ f1.name = "Data" ∧ f1.type = 9 ∧ f1.offset = 1 := by
    rcases L with _ | ⟨f0, _ | ⟨f1, _ | ⟨f2, r⟩⟩⟩
    · have := congrArg List.length hm; simp at this
    · have := congrArg List.length hm; simp at this
    · simp only [List.map_cons, List.map_nil, List.cons.injEq, Prod.mk.injEq, and_true] at hm
      exact ⟨f0, f1, rfl, hm.1.1, hm.1.2.1, hm.1.2.2, hm.2.1, hm.2.2.1, hm.2.2.2⟩
    · have := congrArg List.length hm
      simp at this
  rw [hL] at hf
  clear hm hL
  have hn0 : ¬ f0.name = "_" := by rw [n0]; decide
  have hn1 : ¬ f1.name = "_" := by rw [n1]; decide
  clear n0 n1
  rw [run_eql_struct, run_equalIn_agg _ _ _ _ _ ht hp, hf]
  go_simp
  by_cases e1 : k1 = k2
  · by_cases e2 : s1.toList = s2.toList
    · simp [e1, e2]
    · simp [e1, e2]
  · simp [e1]

set_option maxHeartbeats 1000000 in
set_option maxRecDepth 100000 in
theorem refMay_aux (k1 : Int) (s1 : ByteArray) (k2 : Int) (s2 : ByteArray) (w : World) (m : Bool) (hm : m = mayI k1 s1 k2 s2) :
    Calls Try.prog 17 #[.agg #[.int .i64 k1, .string s1], .agg #[.int .i64 k2, .string s2]] w fun e w' => e = .returned (.bool m) ∧ Below w.heap.size w w' := by
  have HM := Lib.hid hm; clear hm
  have hb0 : Below w.heap.size w ((w.alloc (.cells #[.int .i64 k1, .string s1] 29)).alloc (.cells #[.int .i64 k2, .string s2] 29)) := ((Below.refl _ _).alloc (Nat.le_refl _) _).alloc (by simp) _
  obtain ⟨W0, hW0⟩ : ∃ W0, W0 = (w.alloc (.cells #[.int .i64 k1, .string s1] 29)).alloc (.cells #[.int .i64 k2, .string s2] 29) := ⟨_, rfl⟩
  have hx1 : W0.heap[w.heap.size]? = some (.cells #[.int .i64 k1, .string s1] 29 (0, 0)) := by
    rw [hW0, Below.heap_alloc _ _ _ (by simp)]; exact heap_alloc_new _ _
  have hx2 : W0.heap[w.heap.size + 1]? = some (.cells #[.int .i64 k2, .string s2] 29 (0, 0)) := by
    have := heap_alloc_new (w.alloc (.cells #[.int .i64 k1, .string s1] 29)) (.cells #[.int .i64 k2, .string s2] 29)
    rw [hW0]; simpa using this
  rw [← hW0] at hb0
  have HX1 := Lib.hid hx1
  have HX2 := Lib.hid hx2
  have HB0 := Lib.hid hb0
  clear hx1 hx2 hb0
  go_enter Try.func17, Try.ntmps17
  go_wp2_with fail
  refine (refCheck_any k1 s1 _).mono ?_
  rintro e w1 ⟨rfl, hb1⟩
  rw [← hW0] at hb1
  have HB1 : Hid (Below w.heap.size w w1) := Lib.hid (HB0.out.trans (hb1.mono HB0.out.size))
  have hy1 := (hb1.block _ (Array.getElem?_eq_some_iff.1 HX1.out).1).trans HX1.out
  have hy2 := (hb1.block _ (Array.getElem?_eq_some_iff.1 HX2.out).1).trans HX2.out
  clear hb1 HX1 HX2 HB0
  obtain ⟨a0, a1, _, _⟩ := blk2 hy1
  obtain ⟨b0, b1, _, _⟩ := blk2 hy2
  have HY1 := Lib.hid hy1
  have HY2 := Lib.hid hy2
  by_cases hc1 : chk k1 s1.size = 0
  · have hi1 : (((chk k1 s1.size : Nat) : Int) != 0) = false := by rw [bne_eq_false_iff_eq]; omega
    have HC1 := Lib.hid hc1
    generalize chk k1 s1.size = z1 at hi1
    clear hc1 hy1 hy2
    go_wp2_with fail
    refine (refCheck_any k2 s2 _).mono ?_
    rintro e w2 ⟨rfl, hb2⟩
    have HB2 : Hid (Below w.heap.size w w2) := Lib.hid (HB1.out.trans (hb2.mono HB1.out.size))
    have hy1 := (hb2.block _ (Array.getElem?_eq_some_iff.1 HY1.out).1).trans HY1.out
    have hy2 := (hb2.block _ (Array.getElem?_eq_some_iff.1 HY2.out).1).trans HY2.out
    clear hb2 HB1 HY1 HY2 a0 a1 b0 b1
    obtain ⟨a0, a1, _, _⟩ := blk2 hy1
    obtain ⟨b0, b1, _, _⟩ := blk2 hy2
    by_cases hc2 : chk k2 s2.size = 0
    · have hi2 : (((chk k2 s2.size : Nat) : Int) != 0) = false := by rw [bne_eq_false_iff_eq]; omega
      have HE : Hid (m = ((k1 == k2 && s1.toList == s2.toList) || k1 == 0 || ((k1 == 1 || k1 == 2) && k2 == 3))) := Lib.hid (by
        rw [HM.out]
        unfold mayI
        rw [if_neg (by simpa using HC1.out), if_neg (by simpa using hc2)])
      have heq := fun w => eql_cells k1 k2 s1 s2 w
      generalize (s1.toList == s2.toList) = q at heq HE
      generalize chk k2 s2.size = z2 at hi2
      clear hc2 hy1 hy2 HC1
      cases hq1 : (k1 == k2 && q)
      · cases hq2 : (k1 == 0)
        · cases hq3 : (k1 == 1)
          · cases hq4 : (k1 == 2)
            · go_wp2
              go_ret
              exact ⟨by rw [HE.out, hq1, hq2, hq3, hq4]; rfl, HB2.out⟩
            · go_wp2
              go_ret
              exact ⟨by rw [HE.out, hq1, hq2, hq3, hq4]; rfl, HB2.out⟩
          · go_wp2
            go_ret
            exact ⟨by rw [HE.out, hq1, hq2, hq3]; rfl, HB2.out⟩
        · go_wp2
          go_ret
          exact ⟨by rw [HE.out, hq1, hq2]; rfl, HB2.out⟩
      · go_wp2
        go_ret
        exact ⟨by rw [HE.out, hq1]; rfl, HB2.out⟩
    · have hi2 : (((chk k2 s2.size : Nat) : Int) != 0) = true := by rw [bne_iff_ne]; omega
      have HE : Hid (m = false) := Lib.hid (by rw [HM.out]; unfold mayI; rw [if_neg (by simpa using HC1.out), if_pos hc2])
      generalize chk k2 s2.size = z2 at hi2
      clear hc2
      go_wp2
      go_ret
      exact ⟨by rw [HE.out]; rfl, HB2.out⟩
  · have hi1 : (((chk k1 s1.size : Nat) : Int) != 0) = true := by rw [bne_iff_ne]; omega
    have HE : Hid (m = false) := Lib.hid (by rw [HM.out]; unfold mayI; rw [if_pos hc1])
    generalize chk k1 s1.size = z1 at hi1
    clear hc1
    go_wp2
    go_ret
    exact ⟨by rw [HE.out]; rfl, HB1.out⟩

theorem refMay_any (k1 : Int) (s1 : ByteArray) (k2 : Int) (s2 : ByteArray) (w : World) :
    Calls Try.prog 17 #[.agg #[.int .i64 k1, .string s1], .agg #[.int .i64 k2, .string s2]] w fun e w' => e = .returned (.bool (mayI k1 s1 k2 s2)) ∧ Below w.heap.size w w' := refMay_aux k1 s1 k2 s2 w _ rfl

end Go.Proofs.Ytbihammpdjkonaa
