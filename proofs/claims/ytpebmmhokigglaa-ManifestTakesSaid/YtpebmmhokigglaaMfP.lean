/- The document's own manifests: Same. -/
import Derived.Test.YtpebmmhokigglaaMfS
import Derived.Test.YtpebmmhokigglaaMfJ
namespace Go.Proofs.Ytpebmmhokigglaa
open Go.RowKit

theorem eq_partsD {p q : PT} (hp : Dg p.2.2.2) (hq : Dg q.2.2.2) (w : World) : (Op.equalIn 10000 72 (.agg (ptRow p).toArray) (.agg (ptRow q).toArray)).run Try.prog w = .ok (decide (p = q)) w := by
  have ht : Try.prog.underlying 72 = some (.struct (Try.prog.fieldsOf 72)) := by kernel_rfl
  have hh : Try.prog.stoodInHeld 72 = false := by kernel_rfl
  obtain ⟨L, hL⟩ : ∃ L, L = (Try.prog.fieldsOf 72).toList := ⟨_, rfl⟩
  have hm : (L.map fun f => (f.name, f.type, f.offset)) = [("First", 3, 0), ("Many", 3, 1), ("Size", 3, 2), ("Sum", 33, 3)] := by rw [hL]; kernel_rfl
  obtain ⟨f0, f1, f2, f3, hf, ⟨n0, t0, g0⟩, ⟨n1, t1, g1⟩, ⟨n2, t2, g2⟩, n3, t3, g3⟩ : ∃ f0 f1 f2 f3, L = [f0, f1, f2, f3] ∧ (f0.name = "First" ∧ f0.type = 3 ∧ f0.offset = 0) ∧ (f1.name = "Many" ∧ f1.type = 3 ∧ f1.offset = 1) ∧ (f2.name = "Size" ∧ f2.type = 3 ∧ f2.offset = 2) ∧ f3.name = "Sum" ∧ f3.type = 33 ∧ f3.offset = 3 := by
    rcases L with _ | ⟨f0, _ | ⟨f1, _ | ⟨f2, _ | ⟨f3, _ | ⟨f4, r⟩⟩⟩⟩⟩
    · have := congrArg List.length hm; simp at this
    · have := congrArg List.length hm; simp at this
    · have := congrArg List.length hm; simp at this
    · have := congrArg List.length hm; simp at this
    · simp only [List.map_cons, List.map_nil, List.cons.injEq, Prod.mk.injEq, and_true] at hm
      exact ⟨f0, f1, f2, f3, rfl, hm.1, hm.2.1, hm.2.2.1, hm.2.2.2⟩
    · have := congrArg List.length hm
      simp at this
  rw [hL] at hf
  clear hm hL
  have e0 : ¬ f0.name = "_" := by rw [n0]; decide
  have e1 : ¬ f1.name = "_" := by rw [n1]; decide
  have e2 : ¬ f2.name = "_" := by rw [n2]; decide
  have e3 : ¬ f3.name = "_" := by rw [n3]; decide
  have hi : Try.prog.underlying 3 = some (.int .i64) := Try.underlying3
  have hg : Try.prog.underlying 33 = some (.array 32 5) := Try.underlying33
  have hsz : ∀ w, (sizeOf 33).run Try.prog w = .ok 32 w := fun w => by kernel_rfl
  have pi : ∀ (r : PT) (o : Nat) (x : Int) (w : World), (ptRow r).toArray[o]? = some (.int .i64 x) → (part 3 (ptRow r).toArray o).run Try.prog w = .ok (.int .i64 x) w := fun r o x w h => by simp [part, isAgg, run_underlying hi, h]
  have pd : ∀ (r : PT) (w : World), Dg r.2.2.2 → (part 33 (ptRow r).toArray 3).run Try.prog w = .ok (.agg (vals .u8 r.2.2.2).toArray) w := fun r w h => by simp [part, isAgg, run_underlying hg, hsz, ptRow_mid h]
  rw [run_equalIn_agg _ _ _ _ _ ht hh, hf]
  rw [eqf_step e0 (by rw [t0, g0]; exact pi p 0 _ _ (ptRow_get p).1) (by rw [t0, g0]; exact pi q 0 _ _ (ptRow_get q).1) (by rw [t0]; exact run_equalIn_int _ _ _ _ _ _ _ hi),
    eqf_step e1 (by rw [t1, g1]; exact pi p 1 _ _ (ptRow_get p).2.1) (by rw [t1, g1]; exact pi q 1 _ _ (ptRow_get q).2.1) (by rw [t1]; exact run_equalIn_int _ _ _ _ _ _ _ hi),
    eqf_step e2 (by rw [t2, g2]; exact pi p 2 _ _ (ptRow_get p).2.2) (by rw [t2, g2]; exact pi q 2 _ _ (ptRow_get q).2.2) (by rw [t2]; exact run_equalIn_int _ _ _ _ _ _ _ hi),
    eqf_step e3 (by rw [t3, g3]; exact pd p _ hp) (by rw [t3, g3]; exact pd q _ hq) (by rw [t3]; exact equalIn_numsD hg Try.underlying5 (fun w => by kernel_rfl) _ _ _ hp.1 hq.1 _), eqf_nil]
  rw [← part_decide]
  cases (p.1 == q.1)
  · rfl
  cases (p.2.1 == q.2.1)
  · rfl
  cases (p.2.2.1 == q.2.2.1)
  · rfl
  cases (p.2.2.2 == q.2.2.2) <;> rfl


set_option maxHeartbeats 8000000 in
set_option maxRecDepth 100000 in
theorem rmsame_any (a b : MF) (v1 v2 : Value) (w : World) (A B : Nat → Prop) (h1 : PsAt w A v1 a.ps) (h2 : PsAt w B v2 b.ps) (d1 : Dg a.prev) (d2 : Dg b.prev) :
    Calls Try.prog 8 #[.agg (mfRow a v1).toArray, .agg (mfRow b v2).toArray] w fun e w' => e = .returned (.bool (sameM a b)) ∧ Below w.heap.size w w' := by
  obtain ⟨ao1, cap1, rfl, l1, m1, _⟩ := h1.val
  obtain ⟨ao2, cap2, rfl, _, _, _⟩ := h2.val
  have hbig : (a.ps.length : Int) ≤ 9223372036854775807 := by unfold maxLen at m1; omega
  obtain ⟨n1, hn1⟩ : ∃ n, n = a.ps.length := ⟨_, rfl⟩
  obtain ⟨n2, hn2⟩ : ∃ n, n = b.ps.length := ⟨_, rfl⟩
  rw [← hn1] at h1 hbig ⊢
  rw [← hn2] at h2 ⊢
  obtain ⟨W1, hW1⟩ : ∃ W1, W1 = (w.alloc (.cells (mfRow a (.slice ao1 n1 cap1)).toArray 36)).alloc (.cells (mfRow b (.slice ao2 n2 cap2)).toArray 36) := ⟨_, rfl⟩
  have hb1 : Below w.heap.size w W1 := by rw [hW1]; exact ((Below.refl _ _).alloc (Nat.le_refl _) _).alloc (by simp) _
  have hx1 : MB W1 w.heap.size a (.slice ao1 n1 cap1) 36 := by rw [hW1]; exact (mb_new _ _ _ _).old ((Below.refl _ _).alloc (Nat.le_refl _) _)
  have hy1 : MB W1 (w.heap.size + 1) b (.slice ao2 n2 cap2) 36 := by
    have := mb_new (w.alloc (.cells (mfRow a (.slice ao1 n1 cap1)).toArray 36)) b (.slice ao2 n2 cap2) 36
    rw [hW1]; simpa using this
  have HB1 := Lib.hid hb1
  have HR1 := Lib.hid (h1.old hb1)
  have HR2 := Lib.hid (h2.old hb1)
  have HMX : Hid (Try.prog.follows .mixedOrders = true) := Lib.hid (by kernel_rfl)
  have HPA : Hid (∀ j u, (vals .u8 a.prev)[j]? = some u → W1.cell? ⟨w.heap.size, 4 + j, none⟩ = some u) := Lib.hid hx1.prev
  have HPB : Hid (∀ j u, (vals .u8 b.prev)[j]? = some u → W1.cell? ⟨w.heap.size + 1, 4 + j, none⟩ = some u) := Lib.hid hy1.prev
  have HDA : Hid ((Try.prog.info? 33).map (·.size) = some (vals .u8 a.prev).length) := Lib.hid (by rw [vals_length, d1.1]; exact Try.sizeDGD)
  have HDB : Hid ((Try.prog.info? 33).map (·.size) = some (vals .u8 b.prev).length) := Lib.hid (by rw [vals_length, d2.1]; exact Try.sizeDGD)
  have heq := fun w => eq_digestsD a.prev b.prev d1.1 d2.1 w
  obtain ⟨x0, x1, x2, x3, x36⟩ := hx1.x d1
  obtain ⟨y0, y1, y2, y3, y36⟩ := hy1.x d2
  have HX : Hid (∀ W, Below W1.heap.size W1 W → W.cell? ⟨w.heap.size, 36, none⟩ = some (.slice ao1 n1 cap1) ∧ W.cell? ⟨w.heap.size + 1, 36, none⟩ = some (.slice ao2 n2 cap2)) := Lib.hid fun W hb => by
    obtain ⟨_, _, _, _, e⟩ := (hx1.old hb).x d1
    obtain ⟨_, _, _, _, f⟩ := (hy1.old hb).x d2
    exact ⟨e, f⟩
  have hSM : sameM a b = ((a.num == b.num) && ((a.fro == b.fro) && ((a.upto == b.upto) && ((a.trim == b.trim) && ((a.prev == b.prev) && decide (a.ps = b.ps)))))) := rfl
  rw [hSM]
  have HN1 := Lib.hid hn1
  have HN2 := Lib.hid hn2
  obtain ⟨A1, hA1⟩ : ∃ A, A = (mfRow a (.slice ao1 n1 cap1)).toArray := ⟨_, rfl⟩
  obtain ⟨A2, hA2⟩ : ∃ A, A = (mfRow b (.slice ao2 n2 cap2)).toArray := ⟨_, rfl⟩
  rw [← hA1, ← hA2] at hW1 ⊢
  rw [hW1] at x0 x1 x2 x3 x36 y0 y1 y2 y3 y36
  have HW1 := Lib.hid hW1
  obtain ⟨pq, hpq⟩ : ∃ x, x = (a.prev == b.prev) := ⟨_, rfl⟩
  rw [← hpq] at heq ⊢
  generalize a.num = e0 at *
  generalize b.num = g0 at *
  generalize a.fro = e1 at *
  generalize b.fro = g1 at *
  generalize a.upto = e2 at *
  generalize b.upto = g2 at *
  generalize a.trim = e3 at *
  generalize b.trim = g3 at *
  clear h1 h2 l1 m1 hb1 hx1 hy1 hA1 hA2 hW1 hpq hSM hn1 hn2 d1 d2
  by_cases q0 : (e0 == g0) = true
  rotate_left
  · have q0 : (e0 == g0) = false := Bool.eq_false_iff.2 q0
    have Q := Lib.hid q0
    have qn : (e0 != g0) = true := by rw [bne, q0]; rfl
    go_enter Try.func8, Try.ntmps8
    go_wp2
    go_ret
    exact ⟨by rw [Q.out]; rfl, by rw [← HW1.out]; exact HB1.out⟩
  have HQ0 := Lib.hid q0
  have qn0 : (e0 != g0) = false := by rw [bne, q0]; rfl
  by_cases q1 : (e1 == g1) = true
  rotate_left
  · have q1 : (e1 == g1) = false := Bool.eq_false_iff.2 q1
    have Q := Lib.hid q1
    have qn : (e1 != g1) = true := by rw [bne, q1]; rfl
    go_enter Try.func8, Try.ntmps8
    go_wp2
    go_ret
    exact ⟨by rw [Q.out]; rw [HQ0.out]; rfl, by rw [← HW1.out]; exact HB1.out⟩
  have HQ1 := Lib.hid q1
  have qn1 : (e1 != g1) = false := by rw [bne, q1]; rfl
  by_cases q2 : (e2 == g2) = true
  rotate_left
  · have q2 : (e2 == g2) = false := Bool.eq_false_iff.2 q2
    have Q := Lib.hid q2
    have qn : (e2 != g2) = true := by rw [bne, q2]; rfl
    go_enter Try.func8, Try.ntmps8
    go_wp2
    go_ret
    exact ⟨by rw [Q.out]; rw [HQ0.out]; rw [HQ1.out]; rfl, by rw [← HW1.out]; exact HB1.out⟩
  have HQ2 := Lib.hid q2
  have qn2 : (e2 != g2) = false := by rw [bne, q2]; rfl
  by_cases q3 : (e3 == g3) = true
  rotate_left
  · have q3 : (e3 == g3) = false := Bool.eq_false_iff.2 q3
    have Q := Lib.hid q3
    have qn : (e3 != g3) = true := by rw [bne, q3]; rfl
    go_enter Try.func8, Try.ntmps8
    go_wp2
    go_ret
    exact ⟨by rw [Q.out]; rw [HQ0.out]; rw [HQ1.out]; rw [HQ2.out]; rfl, by rw [← HW1.out]; exact HB1.out⟩
  have HQ3 := Lib.hid q3
  have qn3 : (e3 != g3) = false := by rw [bne, q3]; rfl
  have HPA2 : Hid (∀ j u, (vals .u8 a.prev)[j]? = some u → ((w.alloc (.cells A1 36)).alloc (.cells A2 36)).cell? ⟨w.heap.size, 4 + j, none⟩ = some u) := Lib.hid (by rw [← HW1.out]; exact HPA.out)
  have HPB2 : Hid (∀ j u, (vals .u8 b.prev)[j]? = some u → ((w.alloc (.cells A1 36)).alloc (.cells A2 36)).cell? ⟨w.heap.size + 1, 4 + j, none⟩ = some u) := Lib.hid (by rw [← HW1.out]; exact HPB.out)
  cases pq
  · go_enter Try.func8, Try.ntmps8
    go_wp2_with (first
      | ((with_reducible show wpList _ _ _ (Oper.mk (some 34) _ _ _ _ _ :: _) _ _); go_must (refine wpList_load_atG (by first | rfl | simp [Region.wanted, yielded]) 33 (.tmp 33) rfl w.heap.size 4 rfl (vals .u8 a.prev) _ HPA2.out Try.underlying33 rfl HDA.out ?_))
      | ((with_reducible show wpList _ _ _ (Oper.mk (some 36) _ _ _ _ _ :: _) _ _); go_must (refine wpList_load_atG (by first | rfl | simp [Region.wanted, yielded]) 33 (.tmp 35) rfl (w.heap.size + 1) 4 rfl (vals .u8 b.prev) _ HPB2.out Try.underlying33 rfl HDB.out ?_)))
    go_ret
    exact ⟨by rw [HQ0.out, HQ1.out, HQ2.out, HQ3.out]; rfl, by rw [← HW1.out]; exact HB1.out⟩
  by_cases hne : n1 = n2
  rotate_left
  · have hni : ¬ (n1 : Int) = (n2 : Int) := by omega
    have HD : Hid (decide (a.ps = b.ps) = false) := Lib.hid (decide_eq_false fun e => hne (by rw [HN1.out, HN2.out, e]))
    clear hne
    go_enter Try.func8, Try.ntmps8
    go_wp2_with (first
      | ((with_reducible show wpList _ _ _ (Oper.mk (some 34) _ _ _ _ _ :: _) _ _); go_must (refine wpList_load_atG (by first | rfl | simp [Region.wanted, yielded]) 33 (.tmp 33) rfl w.heap.size 4 rfl (vals .u8 a.prev) _ HPA2.out Try.underlying33 rfl HDA.out ?_))
      | ((with_reducible show wpList _ _ _ (Oper.mk (some 36) _ _ _ _ _ :: _) _ _); go_must (refine wpList_load_atG (by first | rfl | simp [Region.wanted, yielded]) 33 (.tmp 35) rfl (w.heap.size + 1) 4 rfl (vals .u8 b.prev) _ HPB2.out Try.underlying33 rfl HDB.out ?_)))
    go_ret
    exact ⟨by rw [HQ0.out, HQ1.out, HQ2.out, HQ3.out, HD.out]; rfl, by rw [← HW1.out]; exact HB1.out⟩
  subst hne
  go_enter Try.func8, Try.ntmps8
  go_wp2_with (first
      | ((with_reducible show wpList _ _ _ (Oper.mk (some 34) _ _ _ _ _ :: _) _ _); go_must (refine wpList_load_atG (by first | rfl | simp [Region.wanted, yielded]) 33 (.tmp 33) rfl w.heap.size 4 rfl (vals .u8 a.prev) _ HPA2.out Try.underlying33 rfl HDA.out ?_))
      | ((with_reducible show wpList _ _ _ (Oper.mk (some 36) _ _ _ _ _ :: _) _ _); go_must (refine wpList_load_atG (by first | rfl | simp [Region.wanted, yielded]) 33 (.tmp 35) rfl (w.heap.size + 1) 4 rfl (vals .u8 b.prev) _ HPB2.out Try.underlying33 rfl HDB.out ?_)))
  rw [← HW1.out]
  clear x0 x1 x2 x3 x36 y0 y1 y2 y3 y36
  go_loopw [5] (fun iv wr => ∃ k : Nat, k ≤ n1 ∧ iv = .int .i64 (k : Int) ∧ a.ps.take k = b.ps.take k ∧ Below W1.heap.size W1 wr)
    (fun iv _ => n1 - (intOf iv).toNat)
  case atStart => exact ⟨0, Nat.zero_le _, rfl, rfl, Below.refl _ _⟩
  case round =>
    obtain ⟨k, hk, rfl, hsm, hb⟩ := hrel
    have HB := Lib.hid hb
    have HS := Lib.hid hsm
    obtain ⟨x36, y36⟩ := HX.out wr hb
    have HBF : Hid (Below w.heap.size w wr) := Lib.hid (HB1.out.trans (hb.mono HB1.out.size))
    by_cases hlt : k < n1
    · have hla : k < a.ps.length := by rw [← HN1.out]; exact hlt
      have hlb : k < b.ps.length := by rw [← HN2.out]; exact hlt
      obtain ⟨b1, off1, rfl, hlt1, _, hdg1, hcell1⟩ := (HR1.out.old hb).at hla
      obtain ⟨b2, off2, rfl, hlt2, _, hdg2, hcell2⟩ := (HR2.out.old hb).at hlb
      have HNX := Lib.hid (take_eq_nextP HS.out hla hlb)
      have HDF : Hid (a.ps.getD k (0, 0, 0, []) ≠ b.ps.getD k (0, 0, 0, []) → decide (a.ps = b.ps) = false) := Lib.hid fun h => decide_eq_false fun e => h (by rw [e])
      generalize a.ps.getD k (0, 0, 0, []) = p at hdg1 hcell1 HNX HDF
      generalize b.ps.getD k (0, 0, 0, []) = r at hdg2 hcell2 HNX HDF
      have HLP : Hid ((Try.prog.info? 72).map (·.size) = some (ptRow p).length) := Lib.hid (by rw [ptRow_len hdg1]; exact Try.sizePTD)
      have HLR : Hid ((Try.prog.info? 72).map (·.size) = some (ptRow r).length) := Lib.hid (by rw [ptRow_len hdg2]; exact Try.sizePTD)
      have HC1 : Hid (∀ W, Below wr.heap.size wr W → ∀ j u, (ptRow p)[j]? = some u → W.cell? ⟨b1, off1 + k * 35 + j, none⟩ = some u) := Lib.hid fun W hb j u hu => (hb.cell (p := ⟨b1, off1 + k * 35 + j, none⟩) hlt1).trans (hcell1 j u hu)
      have HC2 : Hid (∀ W, Below wr.heap.size wr W → ∀ j u, (ptRow r)[j]? = some u → W.cell? ⟨b2, off2 + k * 35 + j, none⟩ = some u) := Lib.hid fun W hb j u hu => (hb.cell (p := ⟨b2, off2 + k * 35 + j, none⟩) hlt2).trans (hcell2 j u hu)
      have HXC : Hid (∀ W, Below wr.heap.size wr W → W.cell? ⟨w.heap.size, 36, none⟩ = some (.slice (some ⟨b1, off1, none⟩) n1 cap1) ∧ W.cell? ⟨w.heap.size + 1, 36, none⟩ = some (.slice (some ⟨b2, off2, none⟩) n1 cap2)) := Lib.hid fun W hb => HX.out W (HB.out.trans (hb.mono HB.out.size))
      have HNE : Hid (∀ W, (binOp .neq 72 (.agg (ptRow p).toArray) (.agg (ptRow r).toArray)).run Try.prog W = .ok (.bool (!decide (p = r))) W) := Lib.hid fun W => by rw [run_neq_struct, eq_partsD hdg1 hdg2]; rfl
      have hki : (k : Int) < (n1 : Int) := by omega
      have HKL : Hid (k + 1 ≤ n1) := Lib.hid hlt
      clear hb hsm hdg1 hcell1 hdg2 hcell2 hla hlb
      go_upto_region 6 with fail
      clear x36 y36
      refine wp_region_extS (fun W => Below wr.heap.size wr W) (Below.refl _ _).drew HMX.out ?_
      refine extS_take (i := 0) (d := 55) (v := ?_) rfl rfl (by kernel_rfl) (by kernel_rfl) (by kernel_rfl) (fun _ _ _ h => h) (by rfl) (fun W hS => ?_) ?_
      rotate_left
      · skip
        refine gives_value (w := W) ⟨Below.refl _ _, hS⟩ ?_; go_simp; try with_reducible rfl
      simp only [List.setIfInBounds_toArray, List.set_cons_zero, List.set_cons_succ]
      refine extS_take (i := 1) (d := 56) (v := ?_) rfl rfl (by kernel_rfl) (by kernel_rfl) (by kernel_rfl) (fun _ _ _ h => h) (by rfl) (fun W hS => ?_) ?_
      rotate_left
      · skip
        obtain ⟨z1, z2⟩ := HXC.out W hS
        refine gives_value (w := W) ⟨Below.refl _ _, hS⟩ ?_; go_simp; try with_reducible rfl
      simp only [List.setIfInBounds_toArray, List.set_cons_zero, List.set_cons_succ]
      refine extS_take (i := 2) (d := 57) (v := ?_) rfl rfl (by kernel_rfl) (by kernel_rfl) (by kernel_rfl) (fun _ _ _ h => h) (by rfl) (fun W hS => ?_) ?_
      rotate_left
      · skip
        refine gives_value (w := W) ⟨Below.refl _ _, hS⟩ ?_; go_simp; try with_reducible rfl
      simp only [List.setIfInBounds_toArray, List.set_cons_zero, List.set_cons_succ]
      refine extS_take (i := 3) (d := 58) (v := ?_) rfl rfl (by kernel_rfl) (by kernel_rfl) (by kernel_rfl) (fun _ _ _ h => h) (by rfl) (fun W hS => ?_) ?_
      rotate_left
      · skip
        refine gives_value (w := W) ⟨Below.refl _ _, hS⟩ ?_; go_simp; try with_reducible rfl
      simp only [List.setIfInBounds_toArray, List.set_cons_zero, List.set_cons_succ]
      refine extS_take (i := 4) (d := 59) (v := ?_) rfl rfl (by kernel_rfl) (by kernel_rfl) (by kernel_rfl) (fun _ _ _ h => h) (by rfl) (fun W hS => ?_) ?_
      rotate_left
      · skip
        (refine load_gives_at 72 (.tmp 58) ?_ b1 (off1 + k * 35) ?_ (ptRow p) _ (HC1.out W hS) Try.underlying72 rfl HLP.out ?_ <;> first | rfl | exact ⟨Below.refl _ _, hS⟩)
      simp only [List.setIfInBounds_toArray, List.set_cons_zero, List.set_cons_succ]
      refine extS_take (i := 5) (d := 60) (v := ?_) rfl rfl (by kernel_rfl) (by kernel_rfl) (by kernel_rfl) (fun _ _ _ h => h) (by rfl) (fun W hS => ?_) ?_
      rotate_left
      · skip
        refine gives_value (w := W) ⟨Below.refl _ _, hS⟩ ?_; go_simp; try with_reducible rfl
      simp only [List.setIfInBounds_toArray, List.set_cons_zero, List.set_cons_succ]
      refine extS_take (i := 6) (d := 61) (v := ?_) rfl rfl (by kernel_rfl) (by kernel_rfl) (by kernel_rfl) (fun _ _ _ h => h) (by rfl) (fun W hS => ?_) ?_
      rotate_left
      · skip
        obtain ⟨z1, z2⟩ := HXC.out W hS
        refine gives_value (w := W) ⟨Below.refl _ _, hS⟩ ?_; go_simp; try with_reducible rfl
      simp only [List.setIfInBounds_toArray, List.set_cons_zero, List.set_cons_succ]
      refine extS_take (i := 7) (d := 62) (v := ?_) rfl rfl (by kernel_rfl) (by kernel_rfl) (by kernel_rfl) (fun _ _ _ h => h) (by rfl) (fun W hS => ?_) ?_
      rotate_left
      · skip
        refine gives_value (w := W) ⟨Below.refl _ _, hS⟩ ?_; go_simp; try with_reducible rfl
      simp only [List.setIfInBounds_toArray, List.set_cons_zero, List.set_cons_succ]
      refine extS_take (i := 8) (d := 63) (v := ?_) rfl rfl (by kernel_rfl) (by kernel_rfl) (by kernel_rfl) (fun _ _ _ h => h) (by rfl) (fun W hS => ?_) ?_
      rotate_left
      · skip
        refine gives_value (w := W) ⟨Below.refl _ _, hS⟩ ?_; go_simp; try with_reducible rfl
      simp only [List.setIfInBounds_toArray, List.set_cons_zero, List.set_cons_succ]
      refine extS_take (i := 9) (d := 64) (v := ?_) rfl rfl (by kernel_rfl) (by kernel_rfl) (by kernel_rfl) (fun _ _ _ h => h) (by rfl) (fun W hS => ?_) ?_
      rotate_left
      · skip
        (refine load_gives_at 72 (.tmp 63) ?_ b2 (off2 + k * 35) ?_ (ptRow r) _ (HC2.out W hS) Try.underlying72 rfl HLR.out ?_ <;> first | rfl | exact ⟨Below.refl _ _, hS⟩)
      simp only [List.setIfInBounds_toArray, List.set_cons_zero, List.set_cons_succ]
      refine extS_take (i := 10) (d := 65) (v := ?_) rfl rfl (by kernel_rfl) (by kernel_rfl) (by kernel_rfl) (fun _ _ _ h => h) (by rfl) (fun W hS => ?_) ?_
      rotate_left
      · skip
        refine gives_value (w := W) ⟨Below.refl _ _, hS⟩ ?_; refine (exec_eqsM rfl ?_ ?_ (by kernel_rfl) (HNE.out W)).trans ?_ <;> rfl
      simp only [List.setIfInBounds_toArray, List.set_cons_zero, List.set_cons_succ]
      refine extS_done (by kernel_rfl) (fun w3 _ hS3 => ?_) _
      have HB3 : Hid (Below W1.heap.size W1 w3) := Lib.hid (HB.out.trans (hS3.mono HB.out.size))
      clear hS3
      by_cases hpr : p = r
      · have HN := Lib.hid (HNX.out hpr)
        rw [decide_eq_true hpr]
        clear hpr HDF HNX
        go_wp2
        go_roundw
        case rel => exact ⟨k + 1, HKL.out, by go_num, HN.out, HB3.out⟩
        case measure => have := HKL.out; simp [intOf]; omega
      · have HDE := Lib.hid (HDF.out hpr)
        rw [decide_eq_false hpr]
        clear hpr HDF HNX
        go_wp2
        go_ret
        exact ⟨by rw [HQ0.out, HQ1.out, HQ2.out, HQ3.out, HDE.out]; rfl, HB1.out.trans (HB3.out.mono HB1.out.size)⟩
    · obtain rfl : k = n1 := by omega
      have HD : Hid (decide (a.ps = b.ps) = true) := Lib.hid (decide_eq_true (by
        have := HS.out
        rw [HN1.out, List.take_length] at this
        rw [this, ← HN1.out, HN2.out, List.take_length]))
      clear hb hsm
      go_wp2
      go_ret
      exact ⟨by rw [HQ0.out, HQ1.out, HQ2.out, HQ3.out, HD.out]; rfl, HBF.out⟩

end Go.Proofs.Ytpebmmhokigglaa
