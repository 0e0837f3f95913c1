/- Package manifest: Same. -/
import Derived.Test.YtpebmmhokigglaaMfI
namespace Go.Proofs.Ytpebmmhokigglaa
open Go.RowKit

/-- Whether two manifests are the same. -/
def sameM (a b : MF) : Bool := (a.num == b.num) && ((a.fro == b.fro) && ((a.upto == b.upto) && ((a.trim == b.trim) && ((a.prev == b.prev) && decide (a.ps = b.ps)))))
theorem sameM_iff {a b : MF} : sameM a b = true ↔ a = b := by
  obtain ⟨a1, a2, a3, a4, a5, a6⟩ := a
  obtain ⟨b1, b2, b3, b4, b5, b6⟩ := b
  unfold sameM
  simp
theorem sameM_self (a : MF) : sameM a a = true := sameM_iff.2 rfl

set_option maxHeartbeats 8000000 in
set_option maxRecDepth 100000 in
theorem msame_any (a b : MF) (v1 v2 : Value) (w : World) (A B : Nat → Prop) (h1 : PsAt w A v1 a.ps) (h2 : PsAt w B v2 b.ps) (d1 : Dg a.prev) (d2 : Dg b.prev) :
    Calls Try.prog 12 #[.agg (mfRow a v1).toArray, .agg (mfRow b v2).toArray] w fun e w' => e = .returned (.bool (sameM a b)) ∧ Below w.heap.size w w' := by
  obtain ⟨ao1, cap1, rfl, l1, m1, _⟩ := h1.val
  obtain ⟨ao2, cap2, rfl, _, _, _⟩ := h2.val
  obtain ⟨n1, hn1⟩ : ∃ n, n = a.ps.length := ⟨_, rfl⟩
  obtain ⟨n2, hn2⟩ : ∃ n, n = b.ps.length := ⟨_, rfl⟩
  rw [← hn1] at h1 ⊢
  rw [← hn2] at h2 ⊢
  obtain ⟨W1, hW1⟩ : ∃ W1, W1 = (w.alloc (.cells (mfRow a (.slice ao1 n1 cap1)).toArray 27)).alloc (.cells (mfRow b (.slice ao2 n2 cap2)).toArray 27) := ⟨_, rfl⟩
  have hb1 : Below w.heap.size w W1 := by rw [hW1]; exact ((Below.refl _ _).alloc (Nat.le_refl _) _).alloc (by simp) _
  have hx1 : MB W1 w.heap.size a (.slice ao1 n1 cap1) 27 := by rw [hW1]; exact (mb_new _ _ _ _).old ((Below.refl _ _).alloc (Nat.le_refl _) _)
  have hy1 : MB W1 (w.heap.size + 1) b (.slice ao2 n2 cap2) 27 := by
    have := mb_new (w.alloc (.cells (mfRow a (.slice ao1 n1 cap1)).toArray 27)) b (.slice ao2 n2 cap2) 27
    rw [hW1]; simpa using this
  have HB1 := Lib.hid hb1
  have HEP := Lib.hid (equalP_any _ _ a.ps b.ps W1 A B (h1.old hb1) (h2.old hb1))
  have HPA : Hid (∀ j u, (vals .u8 a.prev)[j]? = some u → W1.cell? ⟨w.heap.size, 4 + j, none⟩ = some u) := Lib.hid hx1.prev
  have HPB : Hid (∀ j u, (vals .u8 b.prev)[j]? = some u → W1.cell? ⟨w.heap.size + 1, 4 + j, none⟩ = some u) := Lib.hid hy1.prev
  have HDA : Hid ((Try.prog.info? 24).map (·.size) = some (vals .u8 a.prev).length) := Lib.hid (by rw [vals_length, d1.1]; exact Try.sizeDG)
  have HDB : Hid ((Try.prog.info? 24).map (·.size) = some (vals .u8 b.prev).length) := Lib.hid (by rw [vals_length, d2.1]; exact Try.sizeDG)
  have heq := fun w => eq_digestsM a.prev b.prev d1.1 d2.1 w
  obtain ⟨x0, x1, x2, x3, x36⟩ := hx1.x d1
  obtain ⟨y0, y1, y2, y3, y36⟩ := hy1.x d2
  have HX := Lib.hid (And.intro x0 (And.intro x1 (And.intro x2 (And.intro x3 x36))))
  have HY := Lib.hid (And.intro y0 (And.intro y1 (And.intro y2 (And.intro y3 y36))))
  have hSM : sameM a b = ((a.num == b.num) && ((a.fro == b.fro) && ((a.upto == b.upto) && ((a.trim == b.trim) && ((a.prev == b.prev) && decide (a.ps = b.ps)))))) := rfl
  rw [hSM]
  obtain ⟨pe, hpe⟩ : ∃ x, x = decide (a.ps = b.ps) := ⟨_, rfl⟩
  rw [← hpe] at HEP ⊢
  obtain ⟨A1, hA1⟩ : ∃ A, A = (mfRow a (.slice ao1 n1 cap1)).toArray := ⟨_, rfl⟩
  obtain ⟨A2, hA2⟩ : ∃ A, A = (mfRow b (.slice ao2 n2 cap2)).toArray := ⟨_, rfl⟩
  rw [← hA1, ← hA2] at hW1 ⊢
  rw [hW1] at x0 x1 x2 x3 x36 y0 y1 y2 y3 y36
  have HW1 := Lib.hid hW1
  obtain ⟨pq, hpq⟩ : ∃ x, x = (a.prev == b.prev) := ⟨_, rfl⟩
  rw [← hpq] at heq ⊢
  generalize a.num = e0 at *
  generalize b.num = g0 at *
  generalize a.fro = e1 at *
  generalize b.fro = g1 at *
  generalize a.upto = e2 at *
  generalize b.upto = g2 at *
  generalize a.trim = e3 at *
  generalize b.trim = g3 at *
  clear h1 h2 l1 m1 hb1 hx1 hy1 hpe hA1 hA2 hW1 hpq hSM hn1 hn2 d1 d2
  by_cases q0 : (e0 == g0) = true
  rotate_left
  · have q0 : (e0 == g0) = false := Bool.eq_false_iff.2 q0
    have Q := Lib.hid q0
    go_enter Try.func12, Try.ntmps12
    go_wp2
    go_ret
    exact ⟨by rw [Q.out]; rfl, by rw [← HW1.out]; exact HB1.out⟩
  have HQ0 := Lib.hid q0
  by_cases q1 : (e1 == g1) = true
  rotate_left
  · have q1 : (e1 == g1) = false := Bool.eq_false_iff.2 q1
    have Q := Lib.hid q1
    go_enter Try.func12, Try.ntmps12
    go_wp2
    go_ret
    exact ⟨by rw [Q.out]; rw [HQ0.out]; rfl, by rw [← HW1.out]; exact HB1.out⟩
  have HQ1 := Lib.hid q1
  by_cases q2 : (e2 == g2) = true
  rotate_left
  · have q2 : (e2 == g2) = false := Bool.eq_false_iff.2 q2
    have Q := Lib.hid q2
    go_enter Try.func12, Try.ntmps12
    go_wp2
    go_ret
    exact ⟨by rw [Q.out]; rw [HQ0.out]; rw [HQ1.out]; rfl, by rw [← HW1.out]; exact HB1.out⟩
  have HQ2 := Lib.hid q2
  by_cases q3 : (e3 == g3) = true
  rotate_left
  · have q3 : (e3 == g3) = false := Bool.eq_false_iff.2 q3
    have Q := Lib.hid q3
    go_enter Try.func12, Try.ntmps12
    go_wp2
    go_ret
    exact ⟨by rw [Q.out]; rw [HQ0.out]; rw [HQ1.out]; rw [HQ2.out]; rfl, by rw [← HW1.out]; exact HB1.out⟩
  have HQ3 := Lib.hid q3
  have HPA2 : Hid (∀ j u, (vals .u8 a.prev)[j]? = some u → ((w.alloc (.cells A1 27)).alloc (.cells A2 27)).cell? ⟨w.heap.size, 4 + j, none⟩ = some u) := Lib.hid (by rw [← HW1.out]; exact HPA.out)
  have HPB2 : Hid (∀ j u, (vals .u8 b.prev)[j]? = some u → ((w.alloc (.cells A1 27)).alloc (.cells A2 27)).cell? ⟨w.heap.size + 1, 4 + j, none⟩ = some u) := Lib.hid (by rw [← HW1.out]; exact HPB.out)
  cases pq
  · go_enter Try.func12, Try.ntmps12
    go_wp2_with (first
      | ((with_reducible show wpList _ _ _ (Oper.mk (some 33) _ _ _ _ _ :: _) _ _); go_must (refine wpList_load_atG (by first | rfl | simp [Region.wanted, yielded, HQ0.out, HQ1.out, HQ2.out, HQ3.out]) 24 (.tmp 32) rfl w.heap.size 4 rfl (vals .u8 a.prev) _ HPA2.out Try.underlying24 rfl HDA.out ?_))
      | ((with_reducible show wpList _ _ _ (Oper.mk (some 35) _ _ _ _ _ :: _) _ _); go_must (refine wpList_load_atG (by first | rfl | simp [Region.wanted, yielded, HQ0.out, HQ1.out, HQ2.out, HQ3.out]) 24 (.tmp 34) rfl (w.heap.size + 1) 4 rfl (vals .u8 b.prev) _ HPB2.out Try.underlying24 rfl HDB.out ?_)))
    go_ret
    exact ⟨by rw [HQ0.out, HQ1.out, HQ2.out, HQ3.out]; rfl, by rw [← HW1.out]; exact HB1.out⟩
  · go_enter Try.func12, Try.ntmps12
    go_wp2_with (first
      | ((with_reducible show wpList _ _ _ (Oper.mk (some 33) _ _ _ _ _ :: _) _ _); go_must (refine wpList_load_atG (by first | rfl | simp [Region.wanted, yielded, HQ0.out, HQ1.out, HQ2.out, HQ3.out]) 24 (.tmp 32) rfl w.heap.size 4 rfl (vals .u8 a.prev) _ HPA2.out Try.underlying24 rfl HDA.out ?_))
      | ((with_reducible show wpList _ _ _ (Oper.mk (some 35) _ _ _ _ _ :: _) _ _); go_must (refine wpList_load_atG (by first | rfl | simp [Region.wanted, yielded, HQ0.out, HQ1.out, HQ2.out, HQ3.out]) 24 (.tmp 34) rfl (w.heap.size + 1) 4 rfl (vals .u8 b.prev) _ HPB2.out Try.underlying24 rfl HDB.out ?_)))
    rw [← HW1.out]
    refine HEP.out.mono ?_
    rintro e w2 ⟨rfl, hb2⟩
    have HB2 : Hid (Below w.heap.size w w2) := Lib.hid (HB1.out.trans (hb2.mono HB1.out.size))
    clear hb2
    go_wp2
    go_ret
    exact ⟨by rw [HQ0.out, HQ1.out, HQ2.out, HQ3.out]; rfl, HB2.out⟩

end Go.Proofs.Ytpebmmhokigglaa
