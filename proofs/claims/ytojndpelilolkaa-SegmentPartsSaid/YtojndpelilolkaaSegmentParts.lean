/- SegmentParts' walk. -/
import Derived.Test.YtojndpelilolkaaSgT
import Derived.Test.YtojndpelilolkaaSgI
import Derived.Test.YtojndpelilolkaaSegmentBack
import Derived.Deep.Cut
import Derived.Deep.CutBlock
namespace Go.Proofs.Ytojndpelilolkaa
open Go.RowKit

theorem sd_keep_set {w : World} {q : Nat} {D : Nat → Prop} {a b v : Value} {cs : List IC} (h : Dc w D v cs) (hD : ∀ j, D j → j ≠ q) : Dc ((w.setCell ⟨q, 0, none⟩ a).setCell ⟨q, 1, none⟩ b) (fun _ => True) v cs := by
  refine (h.keep ⟨by simp, fun j _ hB => ?_⟩).mono fun _ _ _ => trivial
  rw [heap_setCell_other _ _ _ _ (hD j hB), heap_setCell_other _ _ _ _ (hD j hB)]
theorem sgJ_cases (fa : Int) (a : List IC) (fb : Int) (b : List IC) : (sgJ fa a fb b).2.1 = [] ∨ ((sgJ fa a fb b).2.1 = a ++ b ∧ (a ++ b).length ≤ 64) := by
  unfold sgJ
  split
  · exact .inl rfl
  split
  · exact .inl rfl
  split
  · exact .inl rfl
  split
  · exact .inl rfl
  · rename_i h
    exact .inr ⟨rfl, (sgC_zero (Classical.not_not.1 h)).2.2.1⟩
theorem sgS_cases (f : Int) (cs : List IC) (lo hi : Int) : (sgS f cs lo hi).2.1 = [] ∨ ((sgS f cs lo hi).2.1 = (cs.drop (lo - f).toNat).take (hi - lo).toNat ∧ cs.length ≤ 64) := by
  unfold sgS
  split
  · exact .inl rfl
  rename_i h
  split
  · exact .inl rfl
  · exact .inr ⟨rfl, (sgC_zero (Classical.not_not.1 h)).2.2.1⟩

set_option maxHeartbeats 8000000 in
set_option maxRecDepth 100000 in
theorem segmentParts_walk (fa fb lo hi : Int) (v1 v2 : Value) (a b : List IC) (w : World) (A B : Nat → Prop) (h1 : CellsAt w A v1 a) (h2 : CellsAt w B v2 b) (ha8 : ∀ c ∈ a, ∀ y ∈ c.2, y < 256) (hb8 : ∀ c ∈ b, ∀ y ∈ c.2, y < 256)
    (hla : a.length ≤ 9223372036854775807) (hlb : b.length ≤ 9223372036854775807) (hfa : -9223372036854775808 ≤ fa ∧ fa ≤ 9223372036854775807) (hfb : -9223372036854775808 ≤ fb ∧ fb ≤ 9223372036854775807) :
    Calls Try.prog 4 #[.agg #[.int .i64 fa, v1], .agg #[.int .i64 fb, v2], .agg #[.int .i64 lo, .int .i64 hi]] w fun e w' => e = .returned (.bool true) ∧ Below w.heap.size w w' := by
  obtain ⟨ao1, cap1, rfl, _, _, _⟩ := h1.val
  obtain ⟨ao2, cap2, rfl, _, _, _⟩ := h2.val
  obtain ⟨W1, hW1⟩ : ∃ W1, W1 = ((w.alloc (.cells #[.int .i64 fa, .slice ao1 a.length cap1] 24)).alloc (.cells #[.int .i64 fb, .slice ao2 b.length cap2] 24)).alloc (.cells #[.int .i64 lo, .int .i64 hi] 53) := ⟨_, rfl⟩
  have hb1 : Below w.heap.size w W1 := by rw [hW1]; exact (((Below.refl _ _).alloc (Nat.le_refl _) _).alloc (by simp) _).alloc (by simp; omega) _
  have hx1 : SgB W1 w.heap.size (.int .i64 fa) (.slice ao1 a.length cap1) := by rw [hW1]; exact ((sgb_new _ _ _).old ((Below.refl _ _).alloc (Nat.le_refl _) _)).old ((Below.refl _ _).alloc (Nat.le_refl _) _)
  have hy1 : SgB W1 (w.heap.size + 1) (.int .i64 fb) (.slice ao2 b.length cap2) := by
    have := (sgb_new (w.alloc (.cells #[.int .i64 fa, .slice ao1 a.length cap1] 24)) (.int .i64 fb) (.slice ao2 b.length cap2)).old ((Below.refl _ _).alloc (Nat.le_refl _) (.cells #[.int .i64 lo, .int .i64 hi] 53))
    rw [hW1]; simpa using this
  have hz1 : W1.heap[w.heap.size + 1 + 1]? = some (.cells #[.int .i64 lo, .int .i64 hi] 53 (0, 0)) := by
    have := heap_alloc_new ((w.alloc (.cells #[.int .i64 fa, .slice ao1 a.length cap1] 24)).alloc (.cells #[.int .i64 fb, .slice ao2 b.length cap2] 24)) (.cells #[.int .i64 lo, .int .i64 hi] 53)
    rw [hW1]; simpa using this
  have HX1 := Lib.hid hx1
  have HY1 := Lib.hid hy1
  have HB1 := Lib.hid hb1
  have HR1 := Lib.hid (h1.old hb1)
  have HR2 := Lib.hid (h2.old hb1)
  have HA8 := Lib.hid ha8
  have HB8 := Lib.hid hb8
  have HLA := Lib.hid hla
  have HLB := Lib.hid hlb
  have HFA := Lib.hid hfa
  have HFB := Lib.hid hfb
  have HAL := Lib.hid (alive14_any W1)
  obtain ⟨n1, hn1⟩ : ∃ n, n = a.length := ⟨_, rfl⟩
  obtain ⟨n2, hn2⟩ : ∃ n, n = b.length := ⟨_, rfl⟩
  rw [← hn1] at HX1 HR1 hW1 ⊢
  rw [← hn2] at HY1 HR2 hW1 ⊢
  have HN1 := Lib.hid hn1
  have HN2 := Lib.hid hn2
  have HW1 := Lib.hid hW1
  have HX0 : Hid (∀ W, Below W1.heap.size W1 W → (W.cell? ⟨w.heap.size, 0, none⟩ = some (.int .i64 fa) ∧ W.cell? ⟨w.heap.size, 1, none⟩ = some (.slice ao1 n1 cap1)) ∧
      (W.cell? ⟨w.heap.size + 1, 0, none⟩ = some (.int .i64 fb) ∧ W.cell? ⟨w.heap.size + 1, 1, none⟩ = some (.slice ao2 n2 cap2)) ∧
      W.cell? ⟨w.heap.size + 1 + 1, 0, none⟩ = some (.int .i64 lo) ∧ W.cell? ⟨w.heap.size + 1 + 1, 1, none⟩ = some (.int .i64 hi)) := Lib.hid fun W hb => by
    obtain ⟨p0, p1, _, _⟩ := (HX1.out.old hb).x
    obtain ⟨q0, q1, _, _⟩ := (HY1.out.old hb).x
    obtain ⟨r0, r1, _, _⟩ := blk2 ((hb.block _ (Array.getElem?_eq_some_iff.1 hz1).1).trans hz1)
    exact ⟨⟨p0, p1⟩, ⟨q0, q1⟩, r0, r1⟩
  clear h1 h2 ha8 hb8 hla hlb hfa hfb hb1 hx1 hy1 hn1 hn2 hW1
  go_enter Try.func4, Try.ntmps4
  go_wp2_with fail
  rw [← HW1.out]
  refine HAL.out.mono ?_
  rintro e w2 ⟨rfl, hb2⟩
  have HB2 := Lib.hid hb2
  have HLG := Lib.hid (long_any _ a 80 w2 A (HR1.out.old hb2) HLA.out)
  obtain ⟨⟨a0, a1⟩, ⟨b0, b1⟩, e0, e1⟩ := HX0.out w2 hb2
  clear hb2
  by_cases hlg : longB a 80 = true
  · rw [hlg] at HLG
    clear hlg
    go_wp2_with fail
    refine HLG.out.mono ?_
    rintro e w3 ⟨rfl, hb3⟩
    have HB3 := Lib.hid (HB2.out.trans (hb3.mono HB2.out.size))
    clear hb3
    go_wp2
    go_ret
    exact ⟨rfl, HB1.out.trans (HB3.out.mono HB1.out.size)⟩
  have hlg : longB a 80 = false := by simpa using hlg
  have HFW := Lib.hid (longB_few hlg)
  rw [hlg] at HLG
  clear hlg
  go_wp2_with fail
  refine HLG.out.mono ?_
  rintro e w3 ⟨rfl, hb3⟩
  have HB3 := Lib.hid (HB2.out.trans (hb3.mono HB2.out.size))
  have HLG2 := Lib.hid (long_any _ b 80 w3 B (HR2.out.old HB3.out) HLB.out)
  clear hb3 a0 a1 b0 b1 e0 e1
  obtain ⟨⟨a0, a1⟩, ⟨b0, b1⟩, e0, e1⟩ := HX0.out w3 HB3.out
  by_cases hlg2 : longB b 80 = true
  · rw [hlg2] at HLG2
    clear hlg2
    go_wp2_with fail
    refine HLG2.out.mono ?_
    rintro e w4 ⟨rfl, hb4⟩
    have HB4 := Lib.hid (HB3.out.trans (hb4.mono HB3.out.size))
    clear hb4
    go_wp2
    go_ret
    exact ⟨rfl, HB1.out.trans (HB4.out.mono HB1.out.size)⟩
  have hlg2 : longB b 80 = false := by simpa using hlg2
  have HFW2 := Lib.hid (longB_few hlg2)
  rw [hlg2] at HLG2
  clear hlg2
  go_wp2_with fail
  refine HLG2.out.mono ?_
  rintro e w4 ⟨rfl, hb4⟩
  have HB4 := Lib.hid (HB3.out.trans (hb4.mono HB3.out.size))
  clear hb4 a0 a1 b0 b1 e0 e1
  obtain ⟨⟨a0, a1⟩, ⟨b0, b1⟩, e0, e1⟩ := HX0.out w4 HB4.out
  -- the two joined
  have hjo := sgjoin_any fa fb _ _ a b w4 A B (HR1.out.old HB4.out) (HR2.out.old HB4.out)
  have hrj := fun (W : World) (o : Option Addr) (c : Nat) (o' : Option Addr) (c' : Nat) (ha : Dc W (fun _ => True) (.slice o n1 c) a) (hb : Dc W (fun _ => True) (.slice o' n2 c') b) => rsgjoin_any fa fb _ _ a b W _ _ ha hb HFA.out HFB.out
  have hjc := sgJ_cases fa a fb b
  generalize sgJ fa a fb b = X at hjo hrj hjc
  obtain ⟨jf, jcs, jc⟩ := X
  simp only at hjc
  have HJB : Hid ((∀ c ∈ jcs, ∀ y ∈ c.2, y < 256) ∧ jcs.length ≤ 64) := Lib.hid (by
    rcases hjc with rfl | ⟨rfl, h⟩
    · exact ⟨by simp, by simp⟩
    · refine ⟨fun c hc => ?_, h⟩
      rcases List.mem_append.1 hc with hc | hc
      · exact HA8.out c hc
      · exact HB8.out c hc)
  have HJO := Lib.hid hjo
  have HRJ : Hid (∀ (W : World) (o : Option Addr) (c : Nat) (o' : Option Addr) (c' : Nat), Dc W (fun _ => True) (.slice o n1 c) a → Dc W (fun _ => True) (.slice o' n2 c') b → Calls Try.prog 22 #[.agg #[.int .i64 fa, .slice o n1 c], .agg #[.int .i64 fb, .slice o' n2 c']] W
      fun e w' => ∃ (oj : Option Addr) (nj cj : Nat), e = .returned (.tuple #[.agg #[.int .i64 jf, .slice oj nj cj], .int .i64 (jc : Int)]) ∧ Dc w' (fun j => W.heap.size ≤ j) (.slice oj nj cj) jcs ∧ Below W.heap.size W w') := Lib.hid fun W o c o' c' h h' => by
    refine (hrj W o c o' c' h h').mono ?_
    rintro e w' ⟨hb, v, rfl, hc⟩
    obtain ⟨oj, cj, rfl, _⟩ := hc.val
    exact ⟨oj, _, cj, rfl, hc, hb⟩
  clear hjo hrj hjc
  go_wp2_with fail
  refine HJO.out.mono ?_
  rintro e w4' ⟨hbj, vj, rfl, hcj⟩
  simp only at hcj
  obtain ⟨oJ, cJ, rfl, _, _, _⟩ := hcj.val
  obtain ⟨nJ, hnJ⟩ : ∃ n, n = jcs.length := ⟨_, rfl⟩
  rw [← hnJ] at hcj ⊢
  obtain ⟨W5, hW5⟩ : ∃ W, W = w4'.alloc (.cells #[.int .i64 jf, .slice oJ nJ cJ] 24) := ⟨_, rfl⟩
  have hb5 : Below w4'.heap.size w4' W5 := by rw [hW5]; exact (Below.refl _ _).alloc (Nat.le_refl _) _
  have hx5 : SgB W5 w4'.heap.size (.int .i64 jf) (.slice oJ nJ cJ) := by rw [hW5]; exact sgb_new _ _ _
  have hb45 : Below w4.heap.size w4 W5 := hbj.trans (hb5.mono hbj.size)
  have HB5 : Hid (Below W1.heap.size W1 W5) := Lib.hid (HB4.out.trans (hb45.mono HB4.out.size))
  have HCJ5 := Lib.hid (hcj.old hb5)
  have HX5 := Lib.hid hx5
  obtain ⟨qj, hqj⟩ : ∃ q, q = w4'.heap.size := ⟨_, rfl⟩
  rw [← hqj] at HX5
  have HQJ := Lib.hid hqj
  have HNJ := Lib.hid hnJ
  have HW5 := Lib.hid hW5
  obtain ⟨ej, hej⟩ : ∃ e, e = errV jc := ⟨_, rfl⟩
  rw [← hej]
  have HNUM : Hid (∀ W, Calls Try.prog 11 #[ej] W fun e w' => e = .returned (.int .i64 (jc : Int)) ∧ W = w') := Lib.hid fun W => by rw [hej]; exact num_any jc W
  have HX : Hid (∀ W, Below W5.heap.size W5 W → (W.cell? ⟨w.heap.size, 0, none⟩ = some (.int .i64 fa) ∧ W.cell? ⟨w.heap.size, 1, none⟩ = some (.slice ao1 n1 cap1)) ∧
      (W.cell? ⟨w.heap.size + 1, 0, none⟩ = some (.int .i64 fb) ∧ W.cell? ⟨w.heap.size + 1, 1, none⟩ = some (.slice ao2 n2 cap2)) ∧
      (W.cell? ⟨w.heap.size + 1 + 1, 0, none⟩ = some (.int .i64 lo) ∧ W.cell? ⟨w.heap.size + 1 + 1, 1, none⟩ = some (.int .i64 hi)) ∧
      W.cell? ⟨qj, 0, none⟩ = some (.int .i64 jf) ∧ W.cell? ⟨qj, 1, none⟩ = some (.slice oJ nJ cJ)) := Lib.hid fun W hb => by
    obtain ⟨x, y, z⟩ := HX0.out W (HB5.out.trans (hb.mono HB5.out.size))
    obtain ⟨p0, p1, _, _⟩ := (HX5.out.old hb).x
    exact ⟨x, y, z, p0, p1⟩
  have HDA : Hid (∀ W, Below W5.heap.size W5 W → Calls Try.prog 8 #[.agg #[.int .i64 fa, .slice ao1 n1 cap1]] W fun e w' => ∃ (o : Option Addr) (c : Nat), e = .returned (.agg #[.int .i64 fa, .slice o n1 c]) ∧ OwnsD w' W.heap.size (.slice o n1 c) a ∧ Below W.heap.size W w') := Lib.hid fun W hb => by
    refine (document14_any fa _ a W A (HR1.out.old (HB5.out.trans (hb.mono HB5.out.size))) (by have := HFW.out.1; omega)).mono ?_
    rintro e w' ⟨v', rfl, ho, hb'⟩
    obtain ⟨o, c, rfl⟩ := ho.form
    rw [← HN1.out] at ho ⊢
    exact ⟨o, c, rfl, ho, hb'⟩
  have HDB : Hid (∀ W, Below W5.heap.size W5 W → Calls Try.prog 8 #[.agg #[.int .i64 fb, .slice ao2 n2 cap2]] W fun e w' => ∃ (o : Option Addr) (c : Nat), e = .returned (.agg #[.int .i64 fb, .slice o n2 c]) ∧ OwnsD w' W.heap.size (.slice o n2 c) b ∧ Below W.heap.size W w') := Lib.hid fun W hb => by
    refine (document14_any fb _ b W B (HR2.out.old (HB5.out.trans (hb.mono HB5.out.size))) (by have := HFW2.out.1; omega)).mono ?_
    rintro e w' ⟨v', rfl, ho, hb'⟩
    obtain ⟨o, c, rfl⟩ := ho.form
    rw [← HN2.out] at ho ⊢
    exact ⟨o, c, rfl, ho, hb'⟩
  have HDJ : Hid (∀ W, Below W5.heap.size W5 W → Calls Try.prog 8 #[.agg #[.int .i64 jf, .slice oJ nJ cJ]] W fun e w' => ∃ (o : Option Addr) (c : Nat), e = .returned (.agg #[.int .i64 jf, .slice o nJ c]) ∧ OwnsD w' W.heap.size (.slice o nJ c) jcs ∧ Below W.heap.size W w') := Lib.hid fun W hb => by
    refine (document14_any jf _ jcs W _ (HCJ5.out.old hb) (by have := HJB.out.2; omega)).mono ?_
    rintro e w' ⟨v', rfl, ho, hb'⟩
    obtain ⟨o, c, rfl⟩ := ho.form
    rw [← HNJ.out] at ho ⊢
    exact ⟨o, c, rfl, ho, hb'⟩
  have hcc : ((jc : Int) != (jc : Int)) = false := by simp
  obtain ⟨⟨a2, a3⟩, ⟨b2, b3⟩, ⟨e2, e3⟩, j0, j1⟩ := HX.out W5 (Below.refl _ _)
  rw [HW5.out] at a2 a3 b2 b3 e2 e3 j0 j1
  rw [HQJ.out] at j0 j1
  clear hbj hcj hnJ hb5 hx5 hb45 hqj hW5 hej a0 a1 b0 b1 e0 e1
  go_upto_region 6 with fail
  rw [← HW5.out, ← HQJ.out]
  clear a2 a3 b2 b3 e2 e3 j0 j1
  obtain ⟨⟨a0, a1⟩, ⟨b0, b1⟩, ⟨e0, e1⟩, j0, j1⟩ := HX.out W5 (Below.refl _ _)
  have HD : Hid (Below W5.heap.size W5 W5) := Lib.hid (Below.refl _ _)
  have HD0 : Hid (Below W5.heap.size W5 W5) := Lib.hid (Below.refl _ _)
  go_cut [9, 10] from 29 to 36 (fun pv cv wx => ∃ (q : Nat) (oj : Option Addr) (nj cj : Nat), pv = .pointer (some ⟨q, 0, none⟩) ∧ cv = .int .i64 (jc : Int) ∧ SdB wx q (.int .i64 jf) (.slice oj nj cj) ∧ Dc wx (fun _ => True) (.slice oj nj cj) jcs ∧ Below W5.heap.size W5 wx ∧ W5.heap.size ≤ q)
  case first =>
    go_region_held3 (fun w' => w'.cell? ⟨w.heap.size, 0, none⟩ = some (.int .i64 fa) ∧ w'.cell? ⟨w.heap.size, 1, none⟩ = some (.slice ao1 n1 cap1) ∧ w'.cell? ⟨w.heap.size + 1, 0, none⟩ = some (.int .i64 fb) ∧ w'.cell? ⟨w.heap.size + 1, 1, none⟩ = some (.slice ao2 n2 cap2)) (go_keep) (first
      | (go_at_call 8
         have hw0 : Below W5.heap.size W5 (W5.alloc (.cells #[.int .i64 0, .slice none 0 0] 29)).drew := (HD.out.alloc HD.out.size _).drew
         with_reducible refine (HDA.out (W5.alloc (.cells #[.int .i64 0, .slice none 0 0] 29)).drew hw0).mono ?_
         rintro e wa ⟨o1, c1, rfl, ho1, hbx⟩
         have hz0 : SdB (W5.alloc (.cells #[.int .i64 0, .slice none 0 0] 29)).drew (W5.heap.size) (.int .i64 0) (.slice none 0 0) := sdb_new W5 _ _
         have hql : W5.heap.size < (W5.alloc (.cells #[.int .i64 0, .slice none 0 0] 29)).drew.heap.size := hz0.lt
         have hqg : W5.heap.size ≤ W5.heap.size := HD.out.size
         have HBZ0 : Hid (SdB wa (W5.heap.size) (.int .i64 0) (.slice none 0 0)) := Lib.hid (hz0.old hbx)
         have HD : Hid (Below W5.heap.size W5 wa) := Lib.hid (hw0.trans (hbx.mono hw0.size))
         have HD1 : Hid (Below W5.heap.size W5 wa) := Lib.hid HD.out
         have HP1 : Hid (∀ W, Below wa.heap.size wa W → Dc W (fun _ => True) (.slice o1 n1 c1) a) := Lib.hid fun W hb => (ho1.dc.old hb).mono fun _ _ _ => trivial
         clear ho1
         obtain ⟨⟨a0, a1⟩, ⟨b0, b1⟩, ⟨e0, e1⟩, j0, j1⟩ := HX.out (wa) (HD.out)
         clear hql hqg
         clear hbx hw0)
      | (go_at_call 8
         have hw0 : Below W5.heap.size W5 W5.drew := HD.out.drew
         with_reducible refine (HDA.out W5.drew hw0).mono ?_
         rintro e wa ⟨o1, c1, rfl, ho1, hbx⟩
         have HNB0 : Hid True := Lib.hid trivial
         have HD : Hid (Below W5.heap.size W5 wa) := Lib.hid (hw0.trans (hbx.mono hw0.size))
         have HD1 : Hid (Below W5.heap.size W5 wa) := Lib.hid HD.out
         have HP1 : Hid (∀ W, Below wa.heap.size wa W → Dc W (fun _ => True) (.slice o1 n1 c1) a) := Lib.hid fun W hb => (ho1.dc.old hb).mono fun _ _ _ => trivial
         clear ho1
         obtain ⟨⟨a0, a1⟩, ⟨b0, b1⟩, ⟨e0, e1⟩, j0, j1⟩ := HX.out (wa) (HD.out)
         clear hbx hw0)
      | (go_at_call 8
         have hw0 : Below W5.heap.size W5 (wa.alloc (.cells #[.int .i64 0, .slice none 0 0] 29)) := (HD.out.alloc HD.out.size _)
         with_reducible refine (HDB.out (wa.alloc (.cells #[.int .i64 0, .slice none 0 0] 29)) hw0).mono ?_
         rintro e wb ⟨o2, c2, rfl, ho2, hbx⟩
         have hz0 : SdB (wa.alloc (.cells #[.int .i64 0, .slice none 0 0] 29)) (wa.heap.size) (.int .i64 0) (.slice none 0 0) := sdb_new wa _ _
         have hql : wa.heap.size < (wa.alloc (.cells #[.int .i64 0, .slice none 0 0] 29)).heap.size := hz0.lt
         have hqg : W5.heap.size ≤ wa.heap.size := HD.out.size
         have HBZ1 : Hid (SdB wb (wa.heap.size) (.int .i64 0) (.slice none 0 0)) := Lib.hid (hz0.old hbx)
         have HD : Hid (Below W5.heap.size W5 wb) := Lib.hid (hw0.trans (hbx.mono hw0.size))
         have HD2 : Hid (Below W5.heap.size W5 wb) := Lib.hid HD.out
         have hab : Below wa.heap.size wa wb := by first | exact hbx | exact ((Below.refl _ _).alloc (Nat.le_refl _) _).trans (hbx.mono (by simp))
         have HP1 : Hid (∀ W, Below wb.heap.size wb W → Dc W (fun _ => True) (.slice o1 n1 c1) a) := Lib.hid fun W hb => HP1.out W (hab.trans (hb.mono hab.size))
         have HP2 : Hid (∀ W, Below wb.heap.size wb W → Dc W (fun _ => True) (.slice o2 n2 c2) b) := Lib.hid fun W hb => (ho2.dc.old hb).mono fun _ _ _ => trivial
         clear ho2 hab
         obtain ⟨⟨a0, a1⟩, ⟨b0, b1⟩, ⟨e0, e1⟩, j0, j1⟩ := HX.out (wb) (HD.out)
         clear hql hqg
         clear hbx hw0)
      | (go_at_call 8
         have hzz := HBZ0.out
         have hw0 : Below W5.heap.size W5 wa := HD.out
         with_reducible refine (HDB.out wa hw0).mono ?_
         rintro e wb ⟨o2, c2, rfl, ho2, hbx⟩
         have hql : W5.heap.size < wa.heap.size := hzz.lt
         have hqg : W5.heap.size ≤ W5.heap.size := HD0.out.size
         have HBZ0 : Hid (SdB wb (W5.heap.size) (.int .i64 0) (.slice none 0 0)) := Lib.hid (hzz.old hbx)
         have HD : Hid (Below W5.heap.size W5 wb) := Lib.hid (hw0.trans (hbx.mono hw0.size))
         have HD2 : Hid (Below W5.heap.size W5 wb) := Lib.hid HD.out
         have hab : Below wa.heap.size wa wb := by first | exact hbx | exact ((Below.refl _ _).alloc (Nat.le_refl _) _).trans (hbx.mono (by simp))
         have HP1 : Hid (∀ W, Below wb.heap.size wb W → Dc W (fun _ => True) (.slice o1 n1 c1) a) := Lib.hid fun W hb => HP1.out W (hab.trans (hb.mono hab.size))
         have HP2 : Hid (∀ W, Below wb.heap.size wb W → Dc W (fun _ => True) (.slice o2 n2 c2) b) := Lib.hid fun W hb => (ho2.dc.old hb).mono fun _ _ _ => trivial
         clear ho2 hab
         obtain ⟨⟨a0, a1⟩, ⟨b0, b1⟩, ⟨e0, e1⟩, j0, j1⟩ := HX.out (wb) (HD.out)
         clear hql hqg
         clear hbx hw0)
      | (go_at_call 8
         have hnn := HNB0.out
         have hw0 : Below W5.heap.size W5 wa := HD.out
         with_reducible refine (HDB.out wa hw0).mono ?_
         rintro e wb ⟨o2, c2, rfl, ho2, hbx⟩
         have HNB1 : Hid True := Lib.hid trivial
         have HD : Hid (Below W5.heap.size W5 wb) := Lib.hid (hw0.trans (hbx.mono hw0.size))
         have HD2 : Hid (Below W5.heap.size W5 wb) := Lib.hid HD.out
         have hab : Below wa.heap.size wa wb := by first | exact hbx | exact ((Below.refl _ _).alloc (Nat.le_refl _) _).trans (hbx.mono (by simp))
         have HP1 : Hid (∀ W, Below wb.heap.size wb W → Dc W (fun _ => True) (.slice o1 n1 c1) a) := Lib.hid fun W hb => HP1.out W (hab.trans (hb.mono hab.size))
         have HP2 : Hid (∀ W, Below wb.heap.size wb W → Dc W (fun _ => True) (.slice o2 n2 c2) b) := Lib.hid fun W hb => (ho2.dc.old hb).mono fun _ _ _ => trivial
         clear ho2 hab
         obtain ⟨⟨a0, a1⟩, ⟨b0, b1⟩, ⟨e0, e1⟩, j0, j1⟩ := HX.out (wb) (HD.out)
         clear hbx hw0)
      | (go_at_call 22
         have hw0 : Below W5.heap.size W5 (wb.alloc (.cells #[.int .i64 0, .slice none 0 0] 29)) := (HD.out.alloc HD.out.size _)
         with_reducible refine (HRJ.out (wb.alloc (.cells #[.int .i64 0, .slice none 0 0] 29)) o1 c1 o2 c2 ?da ?db).mono ?_
         case da => first | exact HP1.out _ (Below.refl _ _) | exact HP1.out _ ((Below.refl _ _).alloc (Nat.le_refl _) _)
         case db => first | exact HP2.out _ (Below.refl _ _) | exact HP2.out _ ((Below.refl _ _).alloc (Nat.le_refl _) _)
         rintro e wj ⟨oj, nj, cj, rfl, hcj, hbx⟩
         have hz0 : SdB (wb.alloc (.cells #[.int .i64 0, .slice none 0 0] 29)) (wb.heap.size) (.int .i64 0) (.slice none 0 0) := sdb_new wb _ _
         have hql : wb.heap.size < (wb.alloc (.cells #[.int .i64 0, .slice none 0 0] 29)).heap.size := hz0.lt
         have hqg : W5.heap.size ≤ wb.heap.size := HD.out.size
         have HBZ2 : Hid (SdB wj (wb.heap.size) (.int .i64 0) (.slice none 0 0)) := Lib.hid (hz0.old hbx)
         have HD : Hid (Below W5.heap.size W5 wj) := Lib.hid (hw0.trans (hbx.mono hw0.size))
         have HD3 : Hid (Below W5.heap.size W5 wj) := Lib.hid HD.out
         obtain ⟨⟨a0, a1⟩, ⟨b0, b1⟩, ⟨e0, e1⟩, j0, j1⟩ := HX.out (wj) (HD.out)
         obtain ⟨u0, u1, g0, g1⟩ := HBZ2.out.x
         have HSX : Hid (SdB ((wj.setCell ⟨wb.heap.size, 0, none⟩ (.int .i64 jf)).setCell ⟨wb.heap.size, 1, none⟩ (.slice oj nj cj)) (wb.heap.size) (.int .i64 jf) (.slice oj nj cj)) := Lib.hid (HBZ2.out.set _ _)
         have HCX : Hid (Dc ((wj.setCell ⟨wb.heap.size, 0, none⟩ (.int .i64 jf)).setCell ⟨wb.heap.size, 1, none⟩ (.slice oj nj cj)) (fun _ => True) (.slice oj nj cj) (jcs)) := Lib.hid (sd_keep_set hcj fun j hj => by have : (wb.alloc (.cells #[.int .i64 0, .slice none 0 0] 29)).heap.size ≤ j := hj; omega)
         have HQX : Hid (W5.heap.size ≤ wb.heap.size) := Lib.hid hqg
         have HBX : Hid (Below W5.heap.size W5 ((wj.setCell ⟨wb.heap.size, 0, none⟩ (.int .i64 jf)).setCell ⟨wb.heap.size, 1, none⟩ (.slice oj nj cj))) := Lib.hid ((HD.out.setCell HQX.out _).setCell HQX.out _)
         obtain ⟨⟨a0, a1⟩, ⟨b0, b1⟩, ⟨e0, e1⟩, j0, j1⟩ := HX.out (((wj.setCell ⟨wb.heap.size, 0, none⟩ (.int .i64 jf)).setCell ⟨wb.heap.size, 1, none⟩ (.slice oj nj cj))) (HBX.out)
         clear hql hqg
         clear hbx hw0 hcj)
      | (go_at_call 22
         have hzz := HBZ0.out
         have hw0 : Below W5.heap.size W5 wb := HD.out
         with_reducible refine (HRJ.out wb o1 c1 o2 c2 ?da ?db).mono ?_
         case da => first | exact HP1.out _ (Below.refl _ _) | exact HP1.out _ ((Below.refl _ _).alloc (Nat.le_refl _) _)
         case db => first | exact HP2.out _ (Below.refl _ _) | exact HP2.out _ ((Below.refl _ _).alloc (Nat.le_refl _) _)
         rintro e wj ⟨oj, nj, cj, rfl, hcj, hbx⟩
         have hql : W5.heap.size < wb.heap.size := hzz.lt
         have hqg : W5.heap.size ≤ W5.heap.size := HD0.out.size
         have HBZ0 : Hid (SdB wj (W5.heap.size) (.int .i64 0) (.slice none 0 0)) := Lib.hid (hzz.old hbx)
         have HD : Hid (Below W5.heap.size W5 wj) := Lib.hid (hw0.trans (hbx.mono hw0.size))
         have HD3 : Hid (Below W5.heap.size W5 wj) := Lib.hid HD.out
         obtain ⟨⟨a0, a1⟩, ⟨b0, b1⟩, ⟨e0, e1⟩, j0, j1⟩ := HX.out (wj) (HD.out)
         obtain ⟨u0, u1, g0, g1⟩ := HBZ0.out.x
         have HSX : Hid (SdB ((wj.setCell ⟨W5.heap.size, 0, none⟩ (.int .i64 jf)).setCell ⟨W5.heap.size, 1, none⟩ (.slice oj nj cj)) (W5.heap.size) (.int .i64 jf) (.slice oj nj cj)) := Lib.hid (HBZ0.out.set _ _)
         have HCX : Hid (Dc ((wj.setCell ⟨W5.heap.size, 0, none⟩ (.int .i64 jf)).setCell ⟨W5.heap.size, 1, none⟩ (.slice oj nj cj)) (fun _ => True) (.slice oj nj cj) (jcs)) := Lib.hid (sd_keep_set hcj fun j hj => by have : wb.heap.size ≤ j := hj; omega)
         have HQX : Hid (W5.heap.size ≤ W5.heap.size) := Lib.hid hqg
         have HBX : Hid (Below W5.heap.size W5 ((wj.setCell ⟨W5.heap.size, 0, none⟩ (.int .i64 jf)).setCell ⟨W5.heap.size, 1, none⟩ (.slice oj nj cj))) := Lib.hid ((HD.out.setCell HQX.out _).setCell HQX.out _)
         obtain ⟨⟨a0, a1⟩, ⟨b0, b1⟩, ⟨e0, e1⟩, j0, j1⟩ := HX.out (((wj.setCell ⟨W5.heap.size, 0, none⟩ (.int .i64 jf)).setCell ⟨W5.heap.size, 1, none⟩ (.slice oj nj cj))) (HBX.out)
         clear hql hqg
         clear hbx hw0 hcj)
      | (go_at_call 22
         have hzz := HBZ1.out
         have hw0 : Below W5.heap.size W5 wb := HD.out
         with_reducible refine (HRJ.out wb o1 c1 o2 c2 ?da ?db).mono ?_
         case da => first | exact HP1.out _ (Below.refl _ _) | exact HP1.out _ ((Below.refl _ _).alloc (Nat.le_refl _) _)
         case db => first | exact HP2.out _ (Below.refl _ _) | exact HP2.out _ ((Below.refl _ _).alloc (Nat.le_refl _) _)
         rintro e wj ⟨oj, nj, cj, rfl, hcj, hbx⟩
         have hql : wa.heap.size < wb.heap.size := hzz.lt
         have hqg : W5.heap.size ≤ wa.heap.size := HD1.out.size
         have HBZ1 : Hid (SdB wj (wa.heap.size) (.int .i64 0) (.slice none 0 0)) := Lib.hid (hzz.old hbx)
         have HD : Hid (Below W5.heap.size W5 wj) := Lib.hid (hw0.trans (hbx.mono hw0.size))
         have HD3 : Hid (Below W5.heap.size W5 wj) := Lib.hid HD.out
         obtain ⟨⟨a0, a1⟩, ⟨b0, b1⟩, ⟨e0, e1⟩, j0, j1⟩ := HX.out (wj) (HD.out)
         obtain ⟨u0, u1, g0, g1⟩ := HBZ1.out.x
         have HSX : Hid (SdB ((wj.setCell ⟨wa.heap.size, 0, none⟩ (.int .i64 jf)).setCell ⟨wa.heap.size, 1, none⟩ (.slice oj nj cj)) (wa.heap.size) (.int .i64 jf) (.slice oj nj cj)) := Lib.hid (HBZ1.out.set _ _)
         have HCX : Hid (Dc ((wj.setCell ⟨wa.heap.size, 0, none⟩ (.int .i64 jf)).setCell ⟨wa.heap.size, 1, none⟩ (.slice oj nj cj)) (fun _ => True) (.slice oj nj cj) (jcs)) := Lib.hid (sd_keep_set hcj fun j hj => by have : wb.heap.size ≤ j := hj; omega)
         have HQX : Hid (W5.heap.size ≤ wa.heap.size) := Lib.hid hqg
         have HBX : Hid (Below W5.heap.size W5 ((wj.setCell ⟨wa.heap.size, 0, none⟩ (.int .i64 jf)).setCell ⟨wa.heap.size, 1, none⟩ (.slice oj nj cj))) := Lib.hid ((HD.out.setCell HQX.out _).setCell HQX.out _)
         obtain ⟨⟨a0, a1⟩, ⟨b0, b1⟩, ⟨e0, e1⟩, j0, j1⟩ := HX.out (((wj.setCell ⟨wa.heap.size, 0, none⟩ (.int .i64 jf)).setCell ⟨wa.heap.size, 1, none⟩ (.slice oj nj cj))) (HBX.out)
         clear hql hqg
         clear hbx hw0 hcj)
      | (go_at_call 22
         have hnn := HNB1.out
         have hw0 : Below W5.heap.size W5 wb := HD.out
         with_reducible refine (HRJ.out wb o1 c1 o2 c2 ?da ?db).mono ?_
         case da => first | exact HP1.out _ (Below.refl _ _) | exact HP1.out _ ((Below.refl _ _).alloc (Nat.le_refl _) _)
         case db => first | exact HP2.out _ (Below.refl _ _) | exact HP2.out _ ((Below.refl _ _).alloc (Nat.le_refl _) _)
         rintro e wj ⟨oj, nj, cj, rfl, hcj, hbx⟩
         have HNB2 : Hid True := Lib.hid trivial
         have HD : Hid (Below W5.heap.size W5 wj) := Lib.hid (hw0.trans (hbx.mono hw0.size))
         have HD3 : Hid (Below W5.heap.size W5 wj) := Lib.hid HD.out
         obtain ⟨⟨a0, a1⟩, ⟨b0, b1⟩, ⟨e0, e1⟩, j0, j1⟩ := HX.out (wj) (HD.out)
         have hal : Below wj.heap.size wj (wj.alloc (.cells #[.int .i64 jf, .slice oj nj cj] 29)) := (Below.refl _ _).alloc (Nat.le_refl _) _
         have HSX : Hid (SdB (wj.alloc (.cells #[.int .i64 jf, .slice oj nj cj] 29)) wj.heap.size (.int .i64 jf) (.slice oj nj cj)) := Lib.hid (sdb_new _ _ _)
         have HCX : Hid (Dc (wj.alloc (.cells #[.int .i64 jf, .slice oj nj cj] 29)) (fun _ => True) (.slice oj nj cj) (jcs)) := Lib.hid ((hcj.old hal).mono fun _ _ _ => trivial)
         have HBX : Hid (Below W5.heap.size W5 (wj.alloc (.cells #[.int .i64 jf, .slice oj nj cj] 29))) := Lib.hid (HD.out.trans (hal.mono HD.out.size))
         have HQX : Hid (W5.heap.size ≤ wj.heap.size) := Lib.hid HD.out.size
         clear hal
         clear hbx hw0 hcj))
    all_goals
      go_wp2
      go_meet
      case rel => exact ⟨_, _, _, _, rfl, rfl, HSX.out, HCX.out, HBX.out, HQX.out⟩
  case rest =>
    obtain ⟨qw, ow, nw, cw, rfl, rfl, hsw, hcw, hbw, hqw⟩ := hcut
    obtain ⟨w6, rfl⟩ : ∃ x, x = wc := ⟨_, rfl⟩
    have HSW := Lib.hid hsw
    have HCW := Lib.hid hcw
    have HB6 := Lib.hid hbw
    have HXW : Hid (∀ W, Below w6.heap.size w6 W → W.cell? ⟨qj, 0, none⟩ = some (.int .i64 jf) ∧ W.cell? ⟨qj, 1, none⟩ = some (.slice oJ nJ cJ) ∧ W.cell? ⟨qw, 0, none⟩ = some (.int .i64 jf) ∧ W.cell? ⟨qw, 1, none⟩ = some (.slice ow nw cw)) := Lib.hid fun W hb => by
      obtain ⟨_, _, _, p0, p1⟩ := HX.out W (HB6.out.trans (hb.mono HB6.out.size))
      obtain ⟨r0, r1, _, _⟩ := (HSW.out.old hb).x
      exact ⟨p0, p1, r0, r1⟩
    have HSJ : Hid (∀ (W : World) (o : Option Addr) (c b' : Nat), Below w6.heap.size w6 W → OwnsD W b' (.slice o nJ c) jcs → Calls Try.prog 18 #[.agg #[.int .i64 jf, .slice o nJ c], .agg #[.int .i64 jf, .slice ow nw cw]] W fun e w' => e = .returned (.bool true) ∧ Below W.heap.size W w') := Lib.hid fun W o c b' hb ho => by
      have := rsgsame_any jf jf _ _ jcs jcs W _ _ ho.dc (HCW.out.old hb) HJB.out.1 HJB.out.1
      rw [sgSame_self] at this
      exact this
    obtain ⟨p0, p1, r0, r1⟩ := HXW.out w6 (Below.refl _ _)
    have HE : Hid (Below w6.heap.size w6 w6) := Lib.hid (Below.refl _ _)
    clear hsw hcw hbw hqw a0 a1 b0 b1 e0 e1 j0 j1
    go_upto_region 7 with fail
    go_cut [47] from 29 to 47 (fun c wx => c = .bool false ∧ Below w6.heap.size w6 wx)
    case first =>
      go_region_held3 (fun w' => w'.cell? ⟨qj, 0, none⟩ = some (.int .i64 jf) ∧ w'.cell? ⟨qj, 1, none⟩ = some (.slice oJ nJ cJ) ∧ w'.cell? ⟨qw, 0, none⟩ = some (.int .i64 jf) ∧ w'.cell? ⟨qw, 1, none⟩ = some (.slice ow nw cw)) (go_keep) (first
        | (go_at_call 11; refine (HNUM.out _).mono ?_; rintro e wx ⟨rfl, rfl⟩)
        | (go_at_call 8
           refine (HDJ.out _ ?hb).mono ?_
           case hb => first | exact HB6.out.trans (HE.out.mono HB6.out.size) | exact (HB6.out.trans (HE.out.mono HB6.out.size)).drew
           rintro e wx ⟨od, cd, rfl, hod, hbx⟩
           have HE : Hid (Below w6.heap.size w6 wx) := Lib.hid (HE.out.trans (Below.mono ⟨hbx.os, hbx.tape, hbx.output, hbx.size, hbx.block⟩ HE.out.size))
           have HOD := Lib.hid hod
           obtain ⟨p0, p1, r0, r1⟩ := HXW.out wx HE.out
           clear hbx hod)
        | (go_at_call 18
           refine (HSJ.out _ _ _ _ HE.out HOD.out).mono ?_
           rintro e wx ⟨rfl, hbx⟩
           have HE : Hid (Below w6.heap.size w6 wx) := Lib.hid (HE.out.trans (Below.mono ⟨hbx.os, hbx.tape, hbx.output, hbx.size, hbx.block⟩ HE.out.size))
           obtain ⟨p0, p1, r0, r1⟩ := HXW.out wx HE.out
           clear hbx))
      all_goals
        go_wp2
        go_meet
        case rel => exact ⟨rfl, HE.out⟩
    case rest =>
      obtain ⟨rfl, hb7⟩ := hcut
      obtain ⟨w7, rfl⟩ : ∃ x, x = wc := ⟨_, rfl⟩
      have HB7 : Hid (Below W5.heap.size W5 w7) := Lib.hid (HB6.out.trans (hb7.mono HB6.out.size))
      have HB71 : Hid (Below W1.heap.size W1 w7) := Lib.hid (HB5.out.trans (HB7.out.mono HB5.out.size))
      clear hb7 p0 p1 r0 r1 hcc
      obtain ⟨⟨a0, a1⟩, ⟨b0, b1⟩, ⟨e0, e1⟩, j0, j1⟩ := HX.out w7 HB7.out
      -- the part
      have hso := sgslice_any fa lo hi _ a w7 A (HR1.out.old HB71.out)
      have hrs := fun (W : World) (o : Option Addr) (c : Nat) (ha : Dc W (fun _ => True) (.slice o n1 c) a) => rsgslice_any fa lo hi _ a W _ ha HFA.out
      have hsc := sgS_cases fa a lo hi
      generalize sgS fa a lo hi = Y at hso hrs hsc
      obtain ⟨sf, scs, sc⟩ := Y
      simp only at hsc
      have HSB : Hid ((∀ c ∈ scs, ∀ y ∈ c.2, y < 256) ∧ scs.length ≤ 64) := Lib.hid (by
        rcases hsc with rfl | ⟨rfl, h⟩
        · exact ⟨by simp, by simp⟩
        · exact ⟨fun c hc => HA8.out c (List.mem_of_mem_drop (List.mem_of_mem_take hc)), by rw [List.length_take, List.length_drop]; omega⟩)
      have HSO := Lib.hid hso
      have HRS : Hid (∀ (W : World) (o : Option Addr) (c : Nat), Dc W (fun _ => True) (.slice o n1 c) a → Calls Try.prog 24 #[.agg #[.int .i64 fa, .slice o n1 c], .int .i64 lo, .int .i64 hi] W
          fun e w' => ∃ (oj : Option Addr) (nj cj : Nat), e = .returned (.tuple #[.agg #[.int .i64 sf, .slice oj nj cj], .int .i64 (sc : Int)]) ∧ Dc w' (fun j => W.heap.size ≤ j) (.slice oj nj cj) scs ∧ Below W.heap.size W w') := Lib.hid fun W o c h => by
        refine (hrs W o c h).mono ?_
        rintro e w' ⟨hb, v, rfl, hc⟩
        obtain ⟨oj, cj, rfl, _⟩ := hc.val
        exact ⟨oj, _, cj, rfl, hc, hb⟩
      clear hso hrs hsc
      go_wp2_with fail
      refine HSO.out.mono ?_
      rintro e w8 ⟨hb8, v8, rfl, hc8⟩
      simp only at hc8
      obtain ⟨oS, cS, rfl, _, _, _⟩ := hc8.val
      obtain ⟨nS, hnS⟩ : ∃ n, n = scs.length := ⟨_, rfl⟩
      rw [← hnS] at hc8 ⊢
      obtain ⟨W9, hW9⟩ : ∃ W, W = w8.alloc (.cells #[.int .i64 sf, .slice oS nS cS] 24) := ⟨_, rfl⟩
      have hb9 : Below w8.heap.size w8 W9 := by rw [hW9]; exact (Below.refl _ _).alloc (Nat.le_refl _) _
      have hx9 : SgB W9 w8.heap.size (.int .i64 sf) (.slice oS nS cS) := by rw [hW9]; exact sgb_new _ _ _
      have hb79 : Below w7.heap.size w7 W9 := hb8.trans (hb9.mono hb8.size)
      have HB95 : Hid (Below W5.heap.size W5 W9) := Lib.hid (HB7.out.trans (hb79.mono HB7.out.size))
      have HCS9 := Lib.hid (hc8.old hb9)
      have HX9 := Lib.hid hx9
      obtain ⟨qs, hqs⟩ : ∃ q, q = w8.heap.size := ⟨_, rfl⟩
      rw [← hqs] at HX9
      have HQS := Lib.hid hqs
      have HNS := Lib.hid hnS
      have HW9 := Lib.hid hW9
      obtain ⟨es, hes⟩ : ∃ e, e = errV sc := ⟨_, rfl⟩
      rw [← hes]
      have HNUM2 : Hid (∀ W, Calls Try.prog 11 #[es] W fun e w' => e = .returned (.int .i64 (sc : Int)) ∧ W = w') := Lib.hid fun W => by rw [hes]; exact num_any sc W
      have HX2 : Hid (∀ W, Below W9.heap.size W9 W → ((W.cell? ⟨w.heap.size, 0, none⟩ = some (.int .i64 fa) ∧ W.cell? ⟨w.heap.size, 1, none⟩ = some (.slice ao1 n1 cap1)) ∧
          (W.cell? ⟨w.heap.size + 1, 0, none⟩ = some (.int .i64 fb) ∧ W.cell? ⟨w.heap.size + 1, 1, none⟩ = some (.slice ao2 n2 cap2)) ∧
          (W.cell? ⟨w.heap.size + 1 + 1, 0, none⟩ = some (.int .i64 lo) ∧ W.cell? ⟨w.heap.size + 1 + 1, 1, none⟩ = some (.int .i64 hi)) ∧
          W.cell? ⟨qj, 0, none⟩ = some (.int .i64 jf) ∧ W.cell? ⟨qj, 1, none⟩ = some (.slice oJ nJ cJ)) ∧ W.cell? ⟨qs, 0, none⟩ = some (.int .i64 sf) ∧ W.cell? ⟨qs, 1, none⟩ = some (.slice oS nS cS)) := Lib.hid fun W hb => by
        obtain ⟨p0, p1, _, _⟩ := (HX9.out.old hb).x
        exact ⟨HX.out W (HB95.out.trans (hb.mono HB95.out.size)), p0, p1⟩
      have HDS : Hid (∀ W, Below W9.heap.size W9 W → Calls Try.prog 8 #[.agg #[.int .i64 sf, .slice oS nS cS]] W fun e w' => ∃ (o : Option Addr) (c : Nat), e = .returned (.agg #[.int .i64 sf, .slice o nS c]) ∧ OwnsD w' W.heap.size (.slice o nS c) scs ∧ Below W.heap.size W w') := Lib.hid fun W hb => by
        refine (document14_any sf _ scs W _ (HCS9.out.old hb) (by have := HSB.out.2; omega)).mono ?_
        rintro e w' ⟨v', rfl, ho, hb'⟩
        obtain ⟨o, c, rfl⟩ := ho.form
        rw [← HNS.out] at ho ⊢
        exact ⟨o, c, rfl, ho, hb'⟩
      obtain ⟨⟨⟨a2, a3⟩, ⟨b2, b3⟩, ⟨e2, e3⟩, j2, j3⟩, k2, k3⟩ := HX2.out W9 (Below.refl _ _)
      rw [HW9.out] at a2 a3 b2 b3 e2 e3 j2 j3 k2 k3
      rw [HQS.out] at k2 k3
      clear hb8 hc8 hnS hb9 hx9 hb79 hqs hW9 hes a0 a1 b0 b1 e0 e1 j0 j1
      go_upto_region 10 with fail
      rw [← HW9.out, ← HQS.out]
      clear a2 a3 b2 b3 e2 e3 j2 j3 k2 k3
      obtain ⟨⟨⟨a0, a1⟩, ⟨b0, b1⟩, ⟨e0, e1⟩, j0, j1⟩, k0, k1⟩ := HX2.out W9 (Below.refl _ _)
      have HD : Hid (Below W9.heap.size W9 W9) := Lib.hid (Below.refl _ _)
      have HD0 : Hid (Below W9.heap.size W9 W9) := Lib.hid (Below.refl _ _)
      go_cut [10, 12] from 29 to 66 (fun cv pv wx => ∃ (q : Nat) (oj : Option Addr) (nj cj : Nat), pv = .pointer (some ⟨q, 0, none⟩) ∧ cv = .int .i64 (sc : Int) ∧ SdB wx q (.int .i64 sf) (.slice oj nj cj) ∧ Dc wx (fun _ => True) (.slice oj nj cj) scs ∧ Below W9.heap.size W9 wx ∧ W9.heap.size ≤ q)
      case first =>
        go_region_held3 (fun w' => w'.cell? ⟨w.heap.size, 0, none⟩ = some (.int .i64 fa) ∧ w'.cell? ⟨w.heap.size, 1, none⟩ = some (.slice ao1 n1 cap1) ∧ w'.cell? ⟨w.heap.size + 1 + 1, 0, none⟩ = some (.int .i64 lo) ∧ w'.cell? ⟨w.heap.size + 1 + 1, 1, none⟩ = some (.int .i64 hi)) (go_keep) (first
          | (go_at_call 8
             have hw0 : Below W9.heap.size W9 (W9.alloc (.cells #[.int .i64 0, .slice none 0 0] 29)).drew := (HD.out.alloc HD.out.size _).drew
             with_reducible refine (HDA.out (W9.alloc (.cells #[.int .i64 0, .slice none 0 0] 29)).drew (HB95.out.trans (hw0.mono HB95.out.size))).mono ?_
             rintro e wa ⟨o1, c1, rfl, ho1, hbx⟩
             have hz0 : SdB (W9.alloc (.cells #[.int .i64 0, .slice none 0 0] 29)).drew (W9.heap.size) (.int .i64 0) (.slice none 0 0) := sdb_new W9 _ _
             have hql : W9.heap.size < (W9.alloc (.cells #[.int .i64 0, .slice none 0 0] 29)).drew.heap.size := hz0.lt
             have hqg : W9.heap.size ≤ W9.heap.size := HD.out.size
             have HBZ0 : Hid (SdB wa (W9.heap.size) (.int .i64 0) (.slice none 0 0)) := Lib.hid (hz0.old hbx)
             have HD : Hid (Below W9.heap.size W9 wa) := Lib.hid (hw0.trans (hbx.mono hw0.size))
             have HD1 : Hid (Below W9.heap.size W9 wa) := Lib.hid HD.out
             have HP1 : Hid (∀ W, Below wa.heap.size wa W → Dc W (fun _ => True) (.slice o1 n1 c1) a) := Lib.hid fun W hb => (ho1.dc.old hb).mono fun _ _ _ => trivial
             clear ho1
             obtain ⟨⟨⟨a0, a1⟩, ⟨b0, b1⟩, ⟨e0, e1⟩, j0, j1⟩, k0, k1⟩ := HX2.out (wa) (HD.out)
             clear hql hqg
             clear hbx hw0)
          | (go_at_call 8
             have hw0 : Below W9.heap.size W9 W9.drew := HD.out.drew
             with_reducible refine (HDA.out W9.drew (HB95.out.trans (hw0.mono HB95.out.size))).mono ?_
             rintro e wa ⟨o1, c1, rfl, ho1, hbx⟩
             have HNB0 : Hid True := Lib.hid trivial
             have HD : Hid (Below W9.heap.size W9 wa) := Lib.hid (hw0.trans (hbx.mono hw0.size))
             have HD1 : Hid (Below W9.heap.size W9 wa) := Lib.hid HD.out
             have HP1 : Hid (∀ W, Below wa.heap.size wa W → Dc W (fun _ => True) (.slice o1 n1 c1) a) := Lib.hid fun W hb => (ho1.dc.old hb).mono fun _ _ _ => trivial
             clear ho1
             obtain ⟨⟨⟨a0, a1⟩, ⟨b0, b1⟩, ⟨e0, e1⟩, j0, j1⟩, k0, k1⟩ := HX2.out (wa) (HD.out)
             clear hbx hw0)
          | (go_at_call 24
             have hw0 : Below W9.heap.size W9 (wa.alloc (.cells #[.int .i64 0, .slice none 0 0] 29)) := (HD.out.alloc HD.out.size _)
             with_reducible refine (HRS.out (wa.alloc (.cells #[.int .i64 0, .slice none 0 0] 29)) o1 c1 ?da).mono ?_
             case da => first | exact HP1.out _ (Below.refl _ _) | exact HP1.out _ ((Below.refl _ _).alloc (Nat.le_refl _) _)
             rintro e wj ⟨oj, nj, cj, rfl, hcj, hbx⟩
             have hz0 : SdB (wa.alloc (.cells #[.int .i64 0, .slice none 0 0] 29)) (wa.heap.size) (.int .i64 0) (.slice none 0 0) := sdb_new wa _ _
             have hql : wa.heap.size < (wa.alloc (.cells #[.int .i64 0, .slice none 0 0] 29)).heap.size := hz0.lt
             have hqg : W9.heap.size ≤ wa.heap.size := HD.out.size
             have HBZ1 : Hid (SdB wj (wa.heap.size) (.int .i64 0) (.slice none 0 0)) := Lib.hid (hz0.old hbx)
             have HD : Hid (Below W9.heap.size W9 wj) := Lib.hid (hw0.trans (hbx.mono hw0.size))
             have HD2 : Hid (Below W9.heap.size W9 wj) := Lib.hid HD.out
             obtain ⟨⟨⟨a0, a1⟩, ⟨b0, b1⟩, ⟨e0, e1⟩, j0, j1⟩, k0, k1⟩ := HX2.out (wj) (HD.out)
             obtain ⟨u0, u1, g0, g1⟩ := HBZ1.out.x
             have HSX : Hid (SdB ((wj.setCell ⟨wa.heap.size, 0, none⟩ (.int .i64 sf)).setCell ⟨wa.heap.size, 1, none⟩ (.slice oj nj cj)) (wa.heap.size) (.int .i64 sf) (.slice oj nj cj)) := Lib.hid (HBZ1.out.set _ _)
             have HCX : Hid (Dc ((wj.setCell ⟨wa.heap.size, 0, none⟩ (.int .i64 sf)).setCell ⟨wa.heap.size, 1, none⟩ (.slice oj nj cj)) (fun _ => True) (.slice oj nj cj) (scs)) := Lib.hid (sd_keep_set hcj fun j hj => by have : (wa.alloc (.cells #[.int .i64 0, .slice none 0 0] 29)).heap.size ≤ j := hj; omega)
             have HQX : Hid (W9.heap.size ≤ wa.heap.size) := Lib.hid hqg
             have HBX : Hid (Below W9.heap.size W9 ((wj.setCell ⟨wa.heap.size, 0, none⟩ (.int .i64 sf)).setCell ⟨wa.heap.size, 1, none⟩ (.slice oj nj cj))) := Lib.hid ((HD.out.setCell HQX.out _).setCell HQX.out _)
             obtain ⟨⟨⟨a0, a1⟩, ⟨b0, b1⟩, ⟨e0, e1⟩, j0, j1⟩, k0, k1⟩ := HX2.out (((wj.setCell ⟨wa.heap.size, 0, none⟩ (.int .i64 sf)).setCell ⟨wa.heap.size, 1, none⟩ (.slice oj nj cj))) (HBX.out)
             clear hql hqg
             clear hbx hw0 hcj)
          | (go_at_call 24
             have hzz := HBZ0.out
             have hw0 : Below W9.heap.size W9 wa := HD.out
             with_reducible refine (HRS.out wa o1 c1 ?da).mono ?_
             case da => first | exact HP1.out _ (Below.refl _ _) | exact HP1.out _ ((Below.refl _ _).alloc (Nat.le_refl _) _)
             rintro e wj ⟨oj, nj, cj, rfl, hcj, hbx⟩
             have hql : W9.heap.size < wa.heap.size := hzz.lt
             have hqg : W9.heap.size ≤ W9.heap.size := HD0.out.size
             have HBZ0 : Hid (SdB wj (W9.heap.size) (.int .i64 0) (.slice none 0 0)) := Lib.hid (hzz.old hbx)
             have HD : Hid (Below W9.heap.size W9 wj) := Lib.hid (hw0.trans (hbx.mono hw0.size))
             have HD2 : Hid (Below W9.heap.size W9 wj) := Lib.hid HD.out
             obtain ⟨⟨⟨a0, a1⟩, ⟨b0, b1⟩, ⟨e0, e1⟩, j0, j1⟩, k0, k1⟩ := HX2.out (wj) (HD.out)
             obtain ⟨u0, u1, g0, g1⟩ := HBZ0.out.x
             have HSX : Hid (SdB ((wj.setCell ⟨W9.heap.size, 0, none⟩ (.int .i64 sf)).setCell ⟨W9.heap.size, 1, none⟩ (.slice oj nj cj)) (W9.heap.size) (.int .i64 sf) (.slice oj nj cj)) := Lib.hid (HBZ0.out.set _ _)
             have HCX : Hid (Dc ((wj.setCell ⟨W9.heap.size, 0, none⟩ (.int .i64 sf)).setCell ⟨W9.heap.size, 1, none⟩ (.slice oj nj cj)) (fun _ => True) (.slice oj nj cj) (scs)) := Lib.hid (sd_keep_set hcj fun j hj => by have : wa.heap.size ≤ j := hj; omega)
             have HQX : Hid (W9.heap.size ≤ W9.heap.size) := Lib.hid hqg
             have HBX : Hid (Below W9.heap.size W9 ((wj.setCell ⟨W9.heap.size, 0, none⟩ (.int .i64 sf)).setCell ⟨W9.heap.size, 1, none⟩ (.slice oj nj cj))) := Lib.hid ((HD.out.setCell HQX.out _).setCell HQX.out _)
             obtain ⟨⟨⟨a0, a1⟩, ⟨b0, b1⟩, ⟨e0, e1⟩, j0, j1⟩, k0, k1⟩ := HX2.out (((wj.setCell ⟨W9.heap.size, 0, none⟩ (.int .i64 sf)).setCell ⟨W9.heap.size, 1, none⟩ (.slice oj nj cj))) (HBX.out)
             clear hql hqg
             clear hbx hw0 hcj)
          | (go_at_call 24
             have hnn := HNB0.out
             have hw0 : Below W9.heap.size W9 wa := HD.out
             with_reducible refine (HRS.out wa o1 c1 ?da).mono ?_
             case da => first | exact HP1.out _ (Below.refl _ _) | exact HP1.out _ ((Below.refl _ _).alloc (Nat.le_refl _) _)
             rintro e wj ⟨oj, nj, cj, rfl, hcj, hbx⟩
             have HNB1 : Hid True := Lib.hid trivial
             have HD : Hid (Below W9.heap.size W9 wj) := Lib.hid (hw0.trans (hbx.mono hw0.size))
             have HD2 : Hid (Below W9.heap.size W9 wj) := Lib.hid HD.out
             obtain ⟨⟨⟨a0, a1⟩, ⟨b0, b1⟩, ⟨e0, e1⟩, j0, j1⟩, k0, k1⟩ := HX2.out (wj) (HD.out)
             have hal : Below wj.heap.size wj (wj.alloc (.cells #[.int .i64 sf, .slice oj nj cj] 29)) := (Below.refl _ _).alloc (Nat.le_refl _) _
             have HSX : Hid (SdB (wj.alloc (.cells #[.int .i64 sf, .slice oj nj cj] 29)) wj.heap.size (.int .i64 sf) (.slice oj nj cj)) := Lib.hid (sdb_new _ _ _)
             have HCX : Hid (Dc (wj.alloc (.cells #[.int .i64 sf, .slice oj nj cj] 29)) (fun _ => True) (.slice oj nj cj) (scs)) := Lib.hid ((hcj.old hal).mono fun _ _ _ => trivial)
             have HBX : Hid (Below W9.heap.size W9 (wj.alloc (.cells #[.int .i64 sf, .slice oj nj cj] 29))) := Lib.hid (HD.out.trans (hal.mono HD.out.size))
             have HQX : Hid (W9.heap.size ≤ wj.heap.size) := Lib.hid HD.out.size
             clear hal
             clear hbx hw0 hcj))
        all_goals
          go_wp2
          go_meet
          case rel => exact ⟨_, _, _, _, rfl, rfl, HSX.out, HCX.out, HBX.out, HQX.out⟩
      case rest =>
        obtain ⟨qv, ov, nv, cv, rfl, rfl, hsv, hcv, hbv, hqv⟩ := hcut
        obtain ⟨w10, rfl⟩ : ∃ x, x = wc := ⟨_, rfl⟩
        have HSV := Lib.hid hsv
        have HCV := Lib.hid hcv
        have HB10 := Lib.hid hbv
        have HXV : Hid (∀ W, Below w10.heap.size w10 W → (W.cell? ⟨w.heap.size, 0, none⟩ = some (.int .i64 fa) ∧ W.cell? ⟨w.heap.size, 1, none⟩ = some (.slice ao1 n1 cap1)) ∧ (W.cell? ⟨w.heap.size + 1, 0, none⟩ = some (.int .i64 fb) ∧ W.cell? ⟨w.heap.size + 1, 1, none⟩ = some (.slice ao2 n2 cap2)) ∧
            (W.cell? ⟨qs, 0, none⟩ = some (.int .i64 sf) ∧ W.cell? ⟨qs, 1, none⟩ = some (.slice oS nS cS)) ∧ W.cell? ⟨qv, 0, none⟩ = some (.int .i64 sf) ∧ W.cell? ⟨qv, 1, none⟩ = some (.slice ov nv cv)) := Lib.hid fun W hb => by
          obtain ⟨⟨x, y, _, _⟩, z⟩ := HX2.out W (HB10.out.trans (hb.mono HB10.out.size))
          obtain ⟨r0, r1, _, _⟩ := (HSV.out.old hb).x
          exact ⟨x, y, z, r0, r1⟩
        have HBB : Hid (∀ W, Below w10.heap.size w10 W → Below W9.heap.size W9 W ∧ Below W5.heap.size W5 W ∧ Below W1.heap.size W1 W) := Lib.hid fun W hb => by
          have h9 := HB10.out.trans (hb.mono HB10.out.size)
          have h5 := HB95.out.trans (h9.mono HB95.out.size)
          exact ⟨h9, h5, HB5.out.trans (h5.mono HB5.out.size)⟩
        have HSS : Hid (∀ (W : World) (o : Option Addr) (c b' : Nat), Below w10.heap.size w10 W → OwnsD W b' (.slice o nS c) scs → Calls Try.prog 18 #[.agg #[.int .i64 sf, .slice o nS c], .agg #[.int .i64 sf, .slice ov nv cv]] W fun e w' => e = .returned (.bool true) ∧ Below W.heap.size W w') := Lib.hid fun W o c b' hb ho => by
          have := rsgsame_any sf sf _ _ scs scs W _ _ ho.dc (HCV.out.old hb) HSB.out.1 HSB.out.1
          rw [sgSame_self] at this
          exact this
        obtain ⟨sm, hsm⟩ : ∃ s, s = sgSame fa a fb b := ⟨_, rfl⟩
        have HSAB : Hid (∀ W, Below w10.heap.size w10 W → Calls Try.prog 17 #[.agg #[.int .i64 fa, .slice ao1 n1 cap1], .agg #[.int .i64 fb, .slice ao2 n2 cap2]] W fun e w' => e = .returned (.bool sm) ∧ Below W.heap.size W w') := Lib.hid fun W hb => by
          rw [hsm]
          exact sgsame_any fa fb _ _ a b W A B (HR1.out.old (HBB.out W hb).2.2) (HR2.out.old (HBB.out W hb).2.2) HA8.out HB8.out
        have HRAB : Hid (∀ (W : World) (o : Option Addr) (c : Nat) (o' : Option Addr) (c' : Nat), Dc W (fun _ => True) (.slice o n1 c) a → Dc W (fun _ => True) (.slice o' n2 c') b → Calls Try.prog 18 #[.agg #[.int .i64 fa, .slice o n1 c], .agg #[.int .i64 fb, .slice o' n2 c']] W fun e w' => e = .returned (.bool sm) ∧ Below W.heap.size W w') := Lib.hid fun W o c o' c' h h' => by
          rw [hsm]
          exact rsgsame_any fa fb _ _ a b W _ _ h h' HA8.out HB8.out
        have hcc : ((sc : Int) == (sc : Int)) = true := by simp
        have hss : (sm == sm) = true := by simp
        have HE : Hid (Below w10.heap.size w10 w10) := Lib.hid (Below.refl _ _)
        clear hsv hcv hbv hqv hsm a0 a1 b0 b1 e0 e1 j0 j1 k0 k1
        obtain ⟨⟨a0, a1⟩, ⟨b0, b1⟩, ⟨k0, k1⟩, l0, l1⟩ := HXV.out w10 HE.out
        go_upto_region 11 with fail
        go_region_held3 (fun w' => w'.cell? ⟨w.heap.size, 0, none⟩ = some (.int .i64 fa) ∧ w'.cell? ⟨w.heap.size, 1, none⟩ = some (.slice ao1 n1 cap1) ∧ w'.cell? ⟨w.heap.size + 1, 0, none⟩ = some (.int .i64 fb) ∧ w'.cell? ⟨w.heap.size + 1, 1, none⟩ = some (.slice ao2 n2 cap2) ∧ w'.cell? ⟨qs, 0, none⟩ = some (.int .i64 sf) ∧ w'.cell? ⟨qs, 1, none⟩ = some (.slice oS nS cS) ∧ w'.cell? ⟨qv, 0, none⟩ = some (.int .i64 sf) ∧ w'.cell? ⟨qv, 1, none⟩ = some (.slice ov nv cv)) (go_keep) (first
          | (go_at_call 11; refine (HNUM2.out _).mono ?_; rintro e wx ⟨rfl, rfl⟩)
          | (go_at_call 8
             with_reducible refine (HDS.out _ ?hb).mono ?_
             case hb => first | exact (HBB.out _ HE.out).1 | exact (HBB.out _ HE.out.drew).1
             rintro e wx ⟨od, cd, rfl, hod, hbx⟩
             have HE : Hid (Below w10.heap.size w10 wx) := Lib.hid (HE.out.trans (Below.mono ⟨hbx.os, hbx.tape, hbx.output, hbx.size, hbx.block⟩ HE.out.size))
             have HOD := Lib.hid hod
             obtain ⟨⟨a0, a1⟩, ⟨b0, b1⟩, ⟨k0, k1⟩, l0, l1⟩ := HXV.out wx HE.out
             clear hbx hod)
          | (go_at_call 8
             with_reducible refine (HDA.out _ ?hb).mono ?_
             case hb => exact (HBB.out _ HE.out).2.1
             rintro e wa ⟨o1, c1, rfl, ho1, hbx⟩
             have HP1 : Hid (∀ W, Below wa.heap.size wa W → Dc W (fun _ => True) (.slice o1 n1 c1) a) := Lib.hid fun W hb => (ho1.dc.old hb).mono fun _ _ _ => trivial
             have HE : Hid (Below w10.heap.size w10 wa) := Lib.hid (HE.out.trans (hbx.mono HE.out.size))
             obtain ⟨⟨a0, a1⟩, ⟨b0, b1⟩, ⟨k0, k1⟩, l0, l1⟩ := HXV.out wa HE.out
             clear hbx ho1)
          | (go_at_call 8
             with_reducible refine (HDB.out wa ?hb).mono ?_
             case hb => exact (HBB.out _ HE.out).2.1
             rintro e wb ⟨o2, c2, rfl, ho2, hbx⟩
             have HP2 : Hid (Dc wb (fun _ => True) (.slice o2 n2 c2) b ∧ Dc wb (fun _ => True) (.slice o1 n1 c1) a) := Lib.hid ⟨ho2.dc.mono fun _ _ _ => trivial, HP1.out wb hbx⟩
             have HE : Hid (Below w10.heap.size w10 wb) := Lib.hid (HE.out.trans (hbx.mono HE.out.size))
             obtain ⟨⟨a0, a1⟩, ⟨b0, b1⟩, ⟨k0, k1⟩, l0, l1⟩ := HXV.out wb HE.out
             clear hbx ho2)
          | (go_at_call 17
             refine (HSAB.out _ HE.out).mono ?_
             rintro e wx ⟨rfl, hbx⟩
             have HE : Hid (Below w10.heap.size w10 wx) := Lib.hid (HE.out.trans (hbx.mono HE.out.size))
             obtain ⟨⟨a0, a1⟩, ⟨b0, b1⟩, ⟨k0, k1⟩, l0, l1⟩ := HXV.out wx HE.out
             clear hbx)
          | (go_at_call 18
             have hp2 := HP2.out
             with_reducible refine (HRAB.out wb o1 c1 o2 c2 hp2.2 hp2.1).mono ?_
             rintro e wx ⟨rfl, hbx⟩
             have HE : Hid (Below w10.heap.size w10 wx) := Lib.hid (HE.out.trans (hbx.mono HE.out.size))
             obtain ⟨⟨a0, a1⟩, ⟨b0, b1⟩, ⟨k0, k1⟩, l0, l1⟩ := HXV.out wx HE.out
             clear hbx hp2)
          | (go_at_call 18
             with_reducible refine (HSS.out _ _ _ _ HE.out HOD.out).mono ?_
             rintro e wx ⟨rfl, hbx⟩
             have HE : Hid (Below w10.heap.size w10 wx) := Lib.hid (HE.out.trans (hbx.mono HE.out.size))
             obtain ⟨⟨a0, a1⟩, ⟨b0, b1⟩, ⟨k0, k1⟩, l0, l1⟩ := HXV.out wx HE.out
             clear hbx))
        all_goals
          go_wp2
          go_ret
          exact ⟨rfl, HB1.out.trans ((HBB.out _ HE.out).2.2.mono HB1.out.size)⟩

end Go.Proofs.Ytojndpelilolkaa
