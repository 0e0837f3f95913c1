/- Package segment: At, Same. -/
import Derived.Test.YtojndpelilolkaaSgC
namespace Go.Proofs.Ytojndpelilolkaa
open Go.RowKit

theorem sameC_iff (k1 k2 : Int) (d1 d2 : List Nat) : sameC k1 d1 k2 d2 = true ↔ (k1, d1) = (k2, d2) := by
  unfold sameC
  simp
theorem take_eq_next {a b : List IC} {k : Nat} (h : a.take k = b.take k) (ha : k < a.length) (hb : k < b.length) (h2 : a.getD k (0, []) = b.getD k (0, [])) : a.take (k + 1) = b.take (k + 1) := by
  rw [take_snocI a k ha, take_snocI b k hb, h, h2]

set_option maxHeartbeats 2000000 in
set_option maxRecDepth 100000 in
/-- Two rows of cells compared. -/
theorem equalS_any (v1 v2 : Value) (a b : List IC) (w : World) (A B : Nat → Prop) (h1 : CellsAt w A v1 a) (h2 : CellsAt w B v2 b) (ha : ∀ c ∈ a, ∀ y ∈ c.2, y < 256) (hb : ∀ c ∈ b, ∀ y ∈ c.2, y < 256) :
    Calls Try.prog 33 #[v1, v2, .func (.func 34) #[] #[]] w fun e w' => e = .returned (.bool (decide (a = b))) ∧ Below w.heap.size w w' := by
  obtain ⟨ao1, cap1, rfl, l1, m1, _⟩ := h1.val
  obtain ⟨ao2, cap2, rfl, _, _, _⟩ := h2.val
  have hbig : (a.length : Int) ≤ 9223372036854775807 := by unfold maxLen at m1; omega
  have HR1 := Lib.hid h1
  have HR2 := Lib.hid h2
  have HA := Lib.hid ha
  have HB8 := Lib.hid hb
  obtain ⟨n1, hn1⟩ : ∃ n, n = a.length := ⟨_, rfl⟩
  obtain ⟨n2, hn2⟩ : ∃ n, n = b.length := ⟨_, rfl⟩
  rw [← hn1] at HR1 hbig ⊢
  rw [← hn2] at HR2 ⊢
  have HN1 := Lib.hid hn1
  have HN2 := Lib.hid hn2
  clear h1 h2 ha hb hn1 hn2 l1 m1
  by_cases hne : n1 = n2
  rotate_left
  · have hni : ¬ (n1 : Int) = (n2 : Int) := by omega
    have HD : Hid (decide (a = b) = false) := Lib.hid (decide_eq_false fun e => hne (by rw [HN1.out, HN2.out, e]))
    clear hne
    go_enter Try.func33, Try.ntmps33
    go_wp2
    go_ret
    exact ⟨by rw [HD.out]; rfl, Below.refl _ _⟩
  subst hne
  go_enter Try.func33, Try.ntmps33
  go_wp2
  go_loopw [7, 8, 9, 17] (fun _ _ _ i wr => ∃ k : Nat, k ≤ n1 ∧ i = .int .i64 (k : Int) ∧ a.take k = b.take k ∧ Below w.heap.size w wr)
    (fun _ _ _ i _ => n1 - (intOf i).toNat)
  case atStart => exact ⟨0, Nat.zero_le _, rfl, rfl, Below.refl _ _⟩
  case round =>
    obtain ⟨k, hk, rfl, hsm, hb⟩ := hrel
    have HB := Lib.hid hb
    have HS := Lib.hid hsm
    clear hb hsm
    by_cases hlt : k < n1
    · have hla : k < a.length := by rw [← HN1.out]; exact hlt
      have hlb : k < b.length := by rw [← HN2.out]; exact hlt
      obtain ⟨b1, off1, x1, rfl, _, _, c0, c1, hat1⟩ := (HR1.out.old HB.out).at hla
      obtain ⟨b2, off2, x2, rfl, hb2lt, _, e0, e1, hat2⟩ := (HR2.out.old HB.out).at hlb
      have HNX := Lib.hid (take_eq_next HS.out hla hlb)
      have hma : ∀ y ∈ (a.getD k (0, [])).2, y < 256 := HA.out _ (by rw [List.getD_eq_getElem?_getD, List.getElem?_eq_getElem hla]; exact List.getElem_mem hla)
      have hmb : ∀ y ∈ (b.getD k (0, [])).2, y < 256 := HB8.out _ (by rw [List.getD_eq_getElem?_getD, List.getElem?_eq_getElem hlb]; exact List.getElem_mem hlb)
      have HDF : Hid (a.getD k (0, []) ≠ b.getD k (0, []) → decide (a = b) = false) := Lib.hid fun h => decide_eq_false fun e => h (by rw [e])
      generalize hg1 : a.getD k (0, []) = g1 at c0 c1 hat1 hma
      generalize hg2 : b.getD k (0, []) = g2 at e0 e1 hat2 hmb
      rw [hg1, hg2] at HNX HDF
      obtain ⟨k1, d1⟩ := g1
      obtain ⟨k2, d2⟩ := g2
      simp only at c0 hat1 hma e0 hat2 hmb
      obtain ⟨aot1, capt1, rfl, _, _, _⟩ := hat1.reads.val
      obtain ⟨aot2, capt2, rfl, _, _, _⟩ := hat2.reads.val
      have hki : (k : Int) < (n1 : Int) := by omega
      obtain ⟨W2, hW2⟩ : ∃ W2, W2 = (wr.alloc (.cells #[.int .i64 k1, .slice aot1 d1.length capt1] 41)).alloc (.cells #[.int .i64 k2, .slice aot2 d2.length capt2] 41) := ⟨_, rfl⟩
      have hb2 : Below wr.heap.size wr W2 := by rw [hW2]; exact ((Below.refl _ _).alloc (Nat.le_refl _) _).alloc (by simp) _
      have HCS := Lib.hid (same_any k1 k2 _ _ d1 d2 W2 (hat1.reads.new hb2) (hat2.reads.new hb2) hma hmb)
      have f0 : ∀ o, (wr.alloc o).cell? ⟨b2, off2 + k * 2, none⟩ = some (.int .i64 k2) := fun o => (((Below.refl _ _).alloc (Nat.le_refl _) o : Below wr.heap.size wr _).cell (p := ⟨b2, off2 + k * 2, none⟩) hb2lt).trans e0
      have f1 : ∀ o, (wr.alloc o).cell? ⟨b2, off2 + k * 2 + 1, none⟩ = some (.slice aot2 d2.length capt2) := fun o => (((Below.refl _ _).alloc (Nat.le_refl _) o : Below wr.heap.size wr _).cell (p := ⟨b2, off2 + k * 2 + 1, none⟩) hb2lt).trans e1
      have HB2 : Hid (Below w.heap.size w W2) := Lib.hid (HB.out.trans (hb2.mono HB.out.size))
      obtain ⟨sm, hsm⟩ : ∃ s, s = sameC k1 d1 k2 d2 := ⟨_, rfl⟩
      rw [← hsm] at HCS
      have HSM := Lib.hid hsm
      have HW2 := Lib.hid hW2
      generalize d1.length = m1 at *
      generalize d2.length = m2 at *
      clear hg1 hg2 hat1 hat2 hma hmb hb2 hla hlb hsm hW2
      go_wp2_with fail
      rw [← HW2.out]
      refine HCS.out.mono ?_
      rintro r w3 ⟨rfl, hb3⟩
      have HB3 : Hid (Below w.heap.size w w3) := Lib.hid (HB2.out.trans (hb3.mono HB2.out.size))
      clear hb3 c0 c1 e0 e1 f0 f1
      cases sm
      · have HD : Hid (decide (a = b) = false) := Lib.hid (HDF.out fun e => by
          have := (sameC_iff k1 k2 d1 d2).2 e
          rw [← HSM.out] at this
          cases this)
        go_wp2
        go_ret
        exact ⟨by rw [HD.out]; rfl, HB3.out⟩
      · have HN : Hid (a.take (k + 1) = b.take (k + 1)) := Lib.hid (HNX.out ((sameC_iff k1 k2 d1 d2).1 HSM.out.symm))
        go_wp2
        go_roundw
        case rel => exact ⟨k + 1, by omega, by go_num, HN.out, HB3.out⟩
        case measure => simp [intOf]; omega
    · obtain rfl : k = n1 := by omega
      have HD : Hid (decide (a = b) = true) := Lib.hid (decide_eq_true (by
        have := HS.out
        rw [HN1.out, List.take_length] at this
        rw [← HN1.out, HN2.out, List.take_length] at this
        exact this))
      go_wp2
      go_ret
      exact ⟨by rw [HD.out]; rfl, HB.out⟩

/-- Are two segments the same? -/
def sgSame (f1 : Int) (a : List IC) (f2 : Int) (b : List IC) : Bool := decide (f1 = f2) && decide (a = b)

set_option maxHeartbeats 2000000 in
set_option maxRecDepth 100000 in
theorem sgsame_any (f1 f2 : Int) (v1 v2 : Value) (a b : List IC) (w : World) (A B : Nat → Prop) (h1 : CellsAt w A v1 a) (h2 : CellsAt w B v2 b) (ha : ∀ c ∈ a, ∀ y ∈ c.2, y < 256) (hb : ∀ c ∈ b, ∀ y ∈ c.2, y < 256) :
    Calls Try.prog 17 #[.agg #[.int .i64 f1, v1], .agg #[.int .i64 f2, v2]] w fun e w' => e = .returned (.bool (sgSame f1 a f2 b)) ∧ Below w.heap.size w w' := by
  obtain ⟨ao1, cap1, rfl, _, _, _⟩ := h1.val
  obtain ⟨ao2, cap2, rfl, _, _, _⟩ := h2.val
  obtain ⟨W1, hW1⟩ : ∃ W1, W1 = (w.alloc (.cells #[.int .i64 f1, .slice ao1 a.length cap1] 24)).alloc (.cells #[.int .i64 f2, .slice ao2 b.length cap2] 24) := ⟨_, rfl⟩
  have hb1 : Below w.heap.size w W1 := by rw [hW1]; exact ((Below.refl _ _).alloc (Nat.le_refl _) _).alloc (by simp) _
  have HB1 := Lib.hid hb1
  by_cases he : f1 = f2
  · have heq : (f1 == f2) = true := by rw [beq_iff_eq]; exact he
    have HS : Hid (sgSame f1 a f2 b = decide (a = b)) := Lib.hid (by unfold sgSame; rw [decide_eq_true he, Bool.true_and])
    have HC := Lib.hid (equalS_any _ _ a b W1 A B (h1.old hb1) (h2.old hb1) ha hb)
    clear he h1 h2 hb1 ha hb
    subst hW1
    go_enter Try.func17, Try.ntmps17
    go_wp2_with fail
    refine HC.out.mono ?_
    rintro e w1 ⟨rfl, hb2⟩
    have HB2 := Lib.hid (HB1.out.trans (hb2.mono HB1.out.size))
    clear hb2
    go_wp2
    go_ret
    exact ⟨by rw [HS.out]; rfl, HB2.out⟩
  · have heq : (f1 == f2) = false := by rw [beq_eq_false_iff_ne]; exact he
    have HS : Hid (sgSame f1 a f2 b = false) := Lib.hid (by unfold sgSame; rw [decide_eq_false he, Bool.false_and])
    clear he h1 h2 hb1 ha hb
    subst hW1
    go_enter Try.func17, Try.ntmps17
    go_wp2
    go_ret
    exact ⟨by rw [HS.out]; rfl, HB1.out⟩

/-- What At answers. -/
def SgAtPost (f a : Int) (cs : List IC) (w : World) (e : Ending) (w' : World) : Prop :=
  ∃ (p : Int) (k : Int) (v : Value) (d : List Nat), p = wrap64 (a - f) ∧ e = .returned (.tuple #[.agg #[.int .i64 k, v], .bool (decide (0 ≤ p ∧ p < (cs.length : Int)))]) ∧ Reads w' .u8 v d ∧
    (0 ≤ p ∧ p < (cs.length : Int) → cs.getD p.toNat (0, []) = (k, d)) ∧ Below w.heap.size w w'

set_option maxHeartbeats 2000000 in
set_option maxRecDepth 100000 in
theorem sgat_any (f a : Int) (v : Value) (cs : List IC) (w : World) (B : Nat → Prop) (h : CellsAt w B v cs) (hd : ∀ c ∈ cs, c.2.length ≤ 100) :
    Calls Try.prog 14 #[.agg #[.int .i64 f, v], .int .i64 a] w (SgAtPost f a cs w) := by
  obtain ⟨ao, cap, rfl, l1, m1, _⟩ := h.val
  obtain ⟨W1, hW1⟩ : ∃ W1, W1 = (w.alloc (.cells #[.int .i64 f, .slice ao cs.length cap] 24)).alloc (.cells #[.int .i64 0, .slice none 0 0] 41) := ⟨_, rfl⟩
  have hb1 : Below w.heap.size w W1 := by rw [hW1]; exact ((Below.refl _ _).alloc (Nat.le_refl _) _).alloc (by simp) _
  have hx1 : SgB W1 w.heap.size (.int .i64 f) (.slice ao cs.length cap) := by rw [hW1]; exact (sgb_new _ _ _).old ((Below.refl _ _).alloc (Nat.le_refl _) _)
  have hy1 : W1.heap[w.heap.size + 1]? = some (.cells #[.int .i64 0, .slice none 0 0] 41 (0, 0)) := by
    have := heap_alloc_new (w.alloc (.cells #[.int .i64 f, .slice ao cs.length cap] 24)) (.cells #[.int .i64 0, .slice none 0 0] 41)
    rw [hW1]; simpa using this
  obtain ⟨p, hp⟩ : ∃ p, p = wrap64 (a - f) := ⟨_, rfl⟩
  have HP := Lib.hid hp
  have HX1 := Lib.hid hx1
  have HY1 := Lib.hid hy1
  have HB1 := Lib.hid hb1
  have HR := Lib.hid (h.old hb1)
  have HD := Lib.hid hd
  obtain ⟨n, hn⟩ : ∃ n, n = cs.length := ⟨_, rfl⟩
  rw [← hn] at HX1 HR hW1 ⊢
  have HN := Lib.hid hn
  have HW1 := Lib.hid hW1
  have hp2 : wrap64 (a - f) = p := hp.symm
  have hp3 : wrap64 (a - f) = p := hp.symm
  clear h hb1 l1 m1 hx1 hy1 hn hW1 hd hp
  by_cases g1 : p < 0
  · have HD0 : Hid (decide (0 ≤ p ∧ p < (n : Int)) = false) := Lib.hid (decide_eq_false (by omega))
    have HNP : Hid (¬ (0 ≤ p ∧ p < (n : Int))) := Lib.hid (by omega)
    obtain ⟨d0, d1, f0, f1⟩ := blk2 HY1.out
    rw [HW1.out] at d0 d1 f0 f1
    go_enter Try.func14, Try.ntmps14
    go_wp2_with fail
    refine bodyPost_ret (v := .tuple #[.agg #[.int .i64 0, .slice none 0 0], .bool false]) (by simp [results, Try.results14, go_sem, d0, d1]) rfl ⟨p, 0, _, [], HP.out, by rw [← HN.out, HD0.out], reads_none _ _, fun h => absurd (by rw [HN.out]; exact h) HNP.out, ?_⟩
    rw [← HW1.out]
    exact HB1.out
  by_cases g2 : p ≥ (n : Int)
  · have HD0 : Hid (decide (0 ≤ p ∧ p < (n : Int)) = false) := Lib.hid (decide_eq_false (by omega))
    have HNP : Hid (¬ (0 ≤ p ∧ p < (n : Int))) := Lib.hid (by omega)
    obtain ⟨d0, d1, f0, f1⟩ := blk2 HY1.out
    rw [HW1.out] at d0 d1 f0 f1
    go_enter Try.func14, Try.ntmps14
    go_wp2_with fail
    refine bodyPost_ret (v := .tuple #[.agg #[.int .i64 0, .slice none 0 0], .bool false]) (by simp [results, Try.results14, go_sem, d0, d1]) rfl ⟨p, 0, _, [], HP.out, by rw [← HN.out, HD0.out], reads_none _ _, fun h => absurd (by rw [HN.out]; exact h) HNP.out, ?_⟩
    rw [← HW1.out]
    exact HB1.out
  have HD0 : Hid (decide (0 ≤ p ∧ p < (n : Int)) = true) := Lib.hid (decide_eq_true (by omega))
  obtain ⟨k, rfl⟩ : ∃ k : Nat, p = (k : Int) := ⟨p.toNat, by omega⟩
  have hkn : k < n := by omega
  have hkc : k < cs.length := by rw [← HN.out]; exact hkn
  obtain ⟨b, off, x, rfl, hbl, _, c0, c1, hat⟩ := HR.out.at hkc
  have hd100 : (cs.getD k (0, [])).2.length ≤ 100 := HD.out _ (by rw [List.getD_eq_getElem?_getD, List.getElem?_eq_getElem hkc]; exact List.getElem_mem hkc)
  generalize hg : cs.getD k (0, []) = g at c0 c1 hat hd100
  have HG := Lib.hid hg
  obtain ⟨kk, d⟩ := g
  simp only at c0 hat hd100
  obtain ⟨aot, capt, rfl, _, _, _⟩ := hat.reads.val
  have HCP := Lib.hid (copy_any kk _ d W1 hat.reads (by omega))
  obtain ⟨nd, hnd⟩ : ∃ m, m = d.length := ⟨_, rfl⟩
  rw [← hnd] at c1 HCP
  rw [HW1.out] at c0 c1
  clear hg hat hd100 hkc hnd
  go_enter Try.func14, Try.ntmps14
  go_wp2_with fail
  rw [← HW1.out]
  refine HCP.out.mono ?_
  rintro e w3 ⟨v3, rfl, ho3, hb3⟩
  obtain ⟨ao3, cap3, rfl, _, _, _⟩ := ho3.reads.val
  have HO3 := Lib.hid ho3
  have hy3 := (hb3.block _ (Array.getElem?_eq_some_iff.1 HY1.out).1).trans HY1.out
  obtain ⟨d0, d1, f0, f1⟩ := blk2 hy3
  have HB3 := Lib.hid (HB1.out.trans (hb3.mono HB1.out.size))
  have HSZ : Hid (w.heap.size + 1 < W1.heap.size) := Lib.hid (Array.getElem?_eq_some_iff.1 HY1.out).1
  obtain ⟨nd, hnd⟩ : ∃ m, m = d.length := ⟨_, rfl⟩
  rw [← hnd] at HO3 ⊢
  clear c0 c1 ho3 hb3 hy3 hnd
  go_wp2
  refine bodyPost_ret (v := .tuple #[.agg #[.int .i64 kk, .slice ao3 nd cap3], .bool true]) (by simp [results, Try.results14, go_sem, d0, d1]) rfl ⟨(k : Int), kk, _, d, HP.out, by rw [← HN.out, HD0.out], ?_, fun _ => by rw [Int.toNat_natCast]; exact HG.out, ?_⟩
  · have hne : (Value.slice ao3 nd cap3).ownBlock = none ∨ (Value.slice ao3 nd cap3).ownBlock ≠ some (w.heap.size + 1) := by
      cases hv : (Value.slice ao3 nd cap3).ownBlock with
      | none => exact .inl rfl
      | some j => exact .inr fun e => by have := (HO3.out.lt j hv).1; have := HSZ.out; cases e; omega
    exact ((HO3.out.grown (grown_set _ _ _ _) hne).grown (grown_set _ _ _ _) hne).reads
  · refine (HB3.out.setCell ?_ _).setCell ?_ _ <;> exact Nat.le_succ _

end Go.Proofs.Ytojndpelilolkaa
