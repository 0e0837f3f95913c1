/- Package manifest: two parts compared; Same. · Package manifest: Same. -/
import Derived.Test.YtgnalcobcdgnkaaDoorQe
import Derived.Test.YtgnalcobcdgnkaaDoorQh
import Derived.Laws.StructEq
namespace Go.Proofs.YtgnalcobcdgnkaaDoor
open Go.RowKit

theorem equalIn_numsD {P : Program} {k : IntKind} {t e : TypeId} {n : Nat} (ht : P.underlying t = some (.array n e)) (he : P.underlying e = some (.int k)) (hsz : ∀ w, (sizeOf e).run P w = .ok 1 w)
    (d : Nat) (xs ys : List Nat) (hx : xs.length = n) (hy : ys.length = n) (w : World) :
    (Op.equalIn (d + 2) t (.agg (vals k xs).toArray) (.agg (vals k ys).toArray)).run P w = .ok (xs == ys) w := by
  rw [← all_range_nat xs ys (hx.trans hy.symm), hx, List.range_eq_range', Op.equalIn]
  simp only [Sem.run_bind, run_underlying ht, Result.andThen_ok, hsz, Std.Legacy.Range.forIn_eq_forIn_range', Std.Legacy.Range.size, Nat.sub_zero, Nat.add_sub_cancel, Nat.div_one]
  have hl : ∀ i ∈ List.range' 0 n 1, i < n := fun i hi => by simpa using (List.mem_range'_1.1 hi).2
  generalize List.range' 0 n 1 = l at hl ⊢
  induction l with
  | nil => simp
  | cons i l ih =>
    have hi : i < n := hl i (by simp)
    have pt : ∀ zs : List Nat, zs.length = n → (part e (vals k zs).toArray (i * 1)).run P w = .ok (.int k ((zs.getD i 0 : Nat) : Int)) w := fun zs hz => by
      have := vals_get k zs i (by omega)
      simp [part, isAgg, run_underlying he, this]
    have pe : (Op.equalIn (d + 1) e (.int k ((xs.getD i 0 : Nat) : Int)) (.int k ((ys.getD i 0 : Nat) : Int))).run P w = .ok (xs.getD i 0 == ys.getD i 0) w := by
      rw [run_equalIn_int w d e k k _ _ he]
      congr 1
      rw [Bool.eq_iff_iff]
      simp only [beq_iff_eq]
      omega
    simp only [List.forIn_cons, Sem.run_bind, pt xs hx, pt ys hy, pe, Result.andThen_ok, List.all_cons]
    cases hb : (xs.getD i 0 == ys.getD i 0)
    · simp
    · simp only [Bool.not_true, Bool.false_eq_true, if_false, Sem.run_pure, Result.andThen_ok, Bool.true_and]
      exact ih fun j hj => hl j (by simp [hj])
theorem ptRow_get (p : PT) : (ptRow p).toArray[0]? = some (.int .i64 p.1) ∧ (ptRow p).toArray[1]? = some (.int .i64 p.2.1) ∧ (ptRow p).toArray[2]? = some (.int .i64 p.2.2.1) := ⟨rfl, rfl, rfl⟩
theorem ptRow_mid {p : PT} (h : Dg p.2.2.2) : ((ptRow p).drop 3).take 32 = vals .u8 p.2.2.2 := by
  unfold ptRow
  rw [List.drop_left']
  · rw [List.take_of_length_le (by rw [vals_length, h.1]; decide)]
  · rfl
theorem eqf_step {P : Program} {w : World} {d : Nat} {xs ys : Array Value} {f : Field} {fs : List Field} {a b : Value} {r : Bool} (hn : ¬ f.name = "_") (ha : (part f.type xs f.offset).run P w = .ok a w) (hb : (part f.type ys f.offset).run P w = .ok b w) (he : (Op.equalIn d f.type a b).run P w = .ok r w) :
    (Op.eqFields d xs ys (f :: fs)).run P w = if r = true then (Op.eqFields d xs ys fs).run P w else .ok false w := by
  simp only [Op.eqFields, ne_eq, hn, not_false_eq_true, if_true, Sem.run_bind, ha, hb, he, Result.andThen_ok]
  cases r <;> simp
theorem eqf_nil {P : Program} {w : World} {d : Nat} {xs ys : Array Value} : (Op.eqFields d xs ys []).run P w = .ok true w := by simp [Op.eqFields]
theorem part_decide (p q : PT) : (p.1 == q.1 && (p.2.1 == q.2.1 && (p.2.2.1 == q.2.2.1 && p.2.2.2 == q.2.2.2))) = decide (p = q) := by
  obtain ⟨a, b, c, d⟩ := p
  obtain ⟨a', b', c', d'⟩ := q
  rw [Bool.eq_iff_iff]
  simp

theorem eq_parts {p q : PT} (hp : Dg p.2.2.2) (hq : Dg q.2.2.2) (w : World) : (Op.equalIn 10000 50 (.agg (ptRow p).toArray) (.agg (ptRow q).toArray)).run Tryd.prog w = .ok (decide (p = q)) w := by
  have ht : Tryd.prog.underlying 50 = some (.struct (Tryd.prog.fieldsOf 50)) := by kernel_rfl
  have hh : Tryd.prog.stoodInHeld 50 = false := by kernel_rfl
  obtain ⟨L, hL⟩ : ∃ L, L = (Tryd.prog.fieldsOf 50).toList := ⟨_, rfl⟩
  have hm : (L.map fun f => (f.name, f.type, f.offset)) = [("First", 3, 0), ("Many", 3, 1), ("Size", 3, 2), ("Sum", 24, 3)] := by rw [hL]; kernel_rfl
  obtain ⟨f0, f1, f2, f3, hf, ⟨n0, t0, g0⟩, ⟨n1, t1, g1⟩, ⟨n2, t2, g2⟩, n3, t3, g3⟩ : ∃ f0 f1 f2 f3, L = [f0, f1, f2, f3] ∧ (f0.name = "First" ∧ f0.type = 3 ∧ f0.offset = 0) ∧ (f1.name = "Many" ∧ f1.type = 3 ∧ f1.offset = 1) ∧ (f2.name = "Size" ∧ f2.type = 3 ∧ f2.offset = 2) ∧ f3.name = "Sum" ∧ f3.type = 24 ∧ f3.offset = 3 := by
    rcases L with _ | ⟨f0, _ | ⟨f1, _ | ⟨f2, _ | ⟨f3, _ | ⟨f4, r⟩⟩⟩⟩⟩
    · have := congrArg List.length hm; simp at this
    · have := congrArg List.length hm; simp at this
    · have := congrArg List.length hm; simp at this
    · have := congrArg List.length hm; simp at this
    · simp only [List.map_cons, List.map_nil, List.cons.injEq, Prod.mk.injEq, and_true] at hm
      exact ⟨f0, f1, f2, f3, rfl, hm.1, hm.2.1, hm.2.2.1, hm.2.2.2⟩
    · have := congrArg List.length hm
      simp at this
  rw [hL] at hf
  clear hm hL
  have e0 : ¬ f0.name = "_" := by rw [n0]; decide
  have e1 : ¬ f1.name = "_" := by rw [n1]; decide
  have e2 : ¬ f2.name = "_" := by rw [n2]; decide
  have e3 : ¬ f3.name = "_" := by rw [n3]; decide
  have hi : Tryd.prog.underlying 3 = some (.int .i64) := Tryd.underlying3
  have hg : Tryd.prog.underlying 24 = some (.array 32 5) := Tryd.underlying24
  have hsz : ∀ w, (sizeOf 24).run Tryd.prog w = .ok 32 w := fun w => by kernel_rfl
  have pi : ∀ (r : PT) (o : Nat) (x : Int) (w : World), (ptRow r).toArray[o]? = some (.int .i64 x) → (part 3 (ptRow r).toArray o).run Tryd.prog w = .ok (.int .i64 x) w := fun r o x w h => by simp [part, isAgg, run_underlying hi, h]
  have pd : ∀ (r : PT) (w : World), Dg r.2.2.2 → (part 24 (ptRow r).toArray 3).run Tryd.prog w = .ok (.agg (vals .u8 r.2.2.2).toArray) w := fun r w h => by simp [part, isAgg, run_underlying hg, hsz, ptRow_mid h]
  rw [run_equalIn_agg _ _ _ _ _ ht hh, hf]
  rw [eqf_step e0 (by rw [t0, g0]; exact pi p 0 _ _ (ptRow_get p).1) (by rw [t0, g0]; exact pi q 0 _ _ (ptRow_get q).1) (by rw [t0]; exact run_equalIn_int _ _ _ _ _ _ _ hi),
    eqf_step e1 (by rw [t1, g1]; exact pi p 1 _ _ (ptRow_get p).2.1) (by rw [t1, g1]; exact pi q 1 _ _ (ptRow_get q).2.1) (by rw [t1]; exact run_equalIn_int _ _ _ _ _ _ _ hi),
    eqf_step e2 (by rw [t2, g2]; exact pi p 2 _ _ (ptRow_get p).2.2) (by rw [t2, g2]; exact pi q 2 _ _ (ptRow_get q).2.2) (by rw [t2]; exact run_equalIn_int _ _ _ _ _ _ _ hi),
    eqf_step e3 (by rw [t3, g3]; exact pd p _ hp) (by rw [t3, g3]; exact pd q _ hq) (by rw [t3]; exact equalIn_numsD hg Tryd.underlying5 (fun w => by kernel_rfl) _ _ _ hp.1 hq.1 _), eqf_nil]
  rw [← part_decide]
  cases (p.1 == q.1)
  · rfl
  cases (p.2.1 == q.2.1)
  · rfl
  cases (p.2.2.1 == q.2.2.1)
  · rfl
  cases (p.2.2.2 == q.2.2.2) <;> rfl

/-- A load of a struct, wherever it lies. -/
theorem load_gives_at {P : Program} {S : World → Prop} {o : Oper} {a : Act} {w : World} (ty : TypeId) (x : Operand) (ho : o.op = .load ty x)
    (g off : Nat) (hx : a.eval x = .pointer (some ⟨g, off, none⟩)) (sub : List Value) (d : TypeDesc) (hc : ∀ j v, sub[j]? = some v → w.cell? ⟨g, off + j, none⟩ = some v)
    (hu : P.underlying ty = some d) (hd : (match d with | .struct _ | .array _ _ => true | _ => false) = true) (hi : (P.info? ty).map (·.size) = some sub.length) (hS : S w) :
    Gives P S (.agg sub.toArray) ((execOp a.eval o).run P w) := by
  have : (execOp a.eval o).run P w = .ok (.value (.agg sub.toArray)) w := by
    unfold execOp
    simp only [ho, hx, Instr.loadAt, Instr.sureAddr, Sem.run_bind, Sem.run_pure, Result.andThen_ok, run_loadVar_at w g off ty sub d hc hu hd hi]
  rw [this]
  exact .value hS
theorem exec_eqsM {P : Program} {o : Oper} {a : Act} {w : World} {op : BinOp} {t t' : TypeId} {x y : Operand} {xs ys : Array Value} {v : Value} (ho : o.op = .binOp op t x y t') (hx : a.eval x = .agg xs) (hy : a.eval y = .agg ys)
    (hm : P.eqGuardType P.depth t = false) (h : (binOp op t (.agg xs) (.agg ys)).run P w = .ok v w) : (execOp a.eval o).run P w = .ok (.value v) w := by
  unfold execOp
  simp only [ho, hx, hy]
  simp only [Sem.run_bind, run_eqGuard_agg w op t x y xs ys hm, Result.andThen_ok, h, Sem.run_pure]
theorem take_eq_nextP {a b : List PT} {k : Nat} (h : a.take k = b.take k) (ha : k < a.length) (hb : k < b.length) (h2 : a.getD k (0, 0, 0, []) = b.getD k (0, 0, 0, [])) : a.take (k + 1) = b.take (k + 1) := by
  rw [take_snocP ha, take_snocP hb, h, h2]

set_option maxHeartbeats 4000000 in
set_option maxRecDepth 100000 in
theorem equalP_any (v1 v2 : Value) (a b : List PT) (w : World) (A B : Nat → Prop) (h1 : PsAt w A v1 a) (h2 : PsAt w B v2 b) :
    Calls Tryd.prog 24 #[v1, v2] w fun e w' => e = .returned (.bool (decide (a = b))) ∧ Below w.heap.size w w' := by
  obtain ⟨ao1, cap1, rfl, l1, m1, _⟩ := h1.val
  obtain ⟨ao2, cap2, rfl, _, _, _⟩ := h2.val
  have hbig : (a.length : Int) ≤ 9223372036854775807 := by unfold maxLen at m1; omega
  have HMX : Hid (Tryd.prog.follows .mixedOrders = true) := Lib.hid (by kernel_rfl)
  have HR1 := Lib.hid h1
  have HR2 := Lib.hid h2
  obtain ⟨n1, hn1⟩ : ∃ n, n = a.length := ⟨_, rfl⟩
  obtain ⟨n2, hn2⟩ : ∃ n, n = b.length := ⟨_, rfl⟩
  rw [← hn1] at HR1 hbig ⊢
  rw [← hn2] at HR2 ⊢
  have HN1 := Lib.hid hn1
  have HN2 := Lib.hid hn2
  clear h1 h2 hn1 hn2 l1 m1
  by_cases hne : n1 = n2
  rotate_left
  · have hni : ¬ (n1 : Int) = (n2 : Int) := by omega
    have HD : Hid (decide (a = b) = false) := Lib.hid (decide_eq_false fun e => hne (by rw [HN1.out, HN2.out, e]))
    clear hne
    go_enter Tryd.func24, Tryd.ntmps24
    go_wp2
    go_ret
    exact ⟨by rw [HD.out]; rfl, Below.refl _ _⟩
  subst hne
  go_enter Tryd.func24, Tryd.ntmps24
  go_wp2
  go_loopw [5, 13] (fun _ iv wr => ∃ k : Nat, k ≤ n1 ∧ iv = .int .i64 (k : Int) ∧ a.take k = b.take k ∧ Below w.heap.size w wr)
    (fun _ iv _ => n1 - (intOf iv).toNat)
  case atStart => exact ⟨0, Nat.zero_le _, rfl, rfl, Below.refl _ _⟩
  case round =>
    obtain ⟨k, hk, rfl, hsm, hb⟩ := hrel
    have HB := Lib.hid hb
    have HS := Lib.hid hsm
    by_cases hlt : k < n1
    · have hla : k < a.length := by rw [← HN1.out]; exact hlt
      have hlb : k < b.length := by rw [← HN2.out]; exact hlt
      obtain ⟨b1, off1, rfl, hlt1, _, hdg1, hcell1⟩ := (HR1.out.old hb).at hla
      obtain ⟨b2, off2, rfl, hlt2, _, hdg2, hcell2⟩ := (HR2.out.old hb).at hlb
      have HNX := Lib.hid (take_eq_nextP HS.out hla hlb)
      have HDF : Hid (a.getD k (0, 0, 0, []) ≠ b.getD k (0, 0, 0, []) → decide (a = b) = false) := Lib.hid fun h => decide_eq_false fun e => h (by rw [e])
      generalize a.getD k (0, 0, 0, []) = p at hdg1 hcell1 HNX HDF
      generalize b.getD k (0, 0, 0, []) = r at hdg2 hcell2 HNX HDF
      have HLP : Hid ((Tryd.prog.info? 50).map (·.size) = some (ptRow p).length) := Lib.hid (by rw [ptRow_len hdg1]; exact Tryd.sizePT)
      have HLR : Hid ((Tryd.prog.info? 50).map (·.size) = some (ptRow r).length) := Lib.hid (by rw [ptRow_len hdg2]; exact Tryd.sizePT)
      have HC1 : Hid (∀ W, Below wr.heap.size wr W → ∀ j u, (ptRow p)[j]? = some u → W.cell? ⟨b1, off1 + k * 35 + j, none⟩ = some u) := Lib.hid fun W hb j u hu => (hb.cell (p := ⟨b1, off1 + k * 35 + j, none⟩) hlt1).trans (hcell1 j u hu)
      have HC2 : Hid (∀ W, Below wr.heap.size wr W → ∀ j u, (ptRow r)[j]? = some u → W.cell? ⟨b2, off2 + k * 35 + j, none⟩ = some u) := Lib.hid fun W hb j u hu => (hb.cell (p := ⟨b2, off2 + k * 35 + j, none⟩) hlt2).trans (hcell2 j u hu)
      have HNE : Hid (∀ W, (binOp .neq 50 (.agg (ptRow p).toArray) (.agg (ptRow r).toArray)).run Tryd.prog W = .ok (.bool (!decide (p = r))) W) := Lib.hid fun W => by rw [run_neq_struct, eq_parts hdg1 hdg2]; rfl
      have hki : (k : Int) < (n1 : Int) := by omega
      have HKL : Hid (k + 1 ≤ n1) := Lib.hid hlt
      clear hb hsm hdg1 hcell1 hdg2 hcell2 hla hlb
      go_upto_region 6 with fail

      refine wp_region_extS (fun W => Below wr.heap.size wr W) (Below.refl _ _).drew HMX.out ?_
      refine extS_take (i := 0) (d := 16) (v := ?_) rfl rfl (by kernel_rfl) (by kernel_rfl) (by kernel_rfl) (fun _ _ _ h => h) (by rfl) (fun W hS => ?_) ?_
      rotate_left
      · skip
        refine gives_value (w := W) ⟨Below.refl _ _, hS⟩ ?_; go_simp; try with_reducible rfl
      simp only [List.setIfInBounds_toArray, List.set_cons_zero, List.set_cons_succ]
      refine extS_take (i := 1) (d := 17) (v := ?_) rfl rfl (by kernel_rfl) (by kernel_rfl) (by kernel_rfl) (fun _ _ _ h => h) (by rfl) (fun W hS => ?_) ?_
      rotate_left
      · skip
        refine gives_value (w := W) ⟨Below.refl _ _, hS⟩ ?_; go_simp; try with_reducible rfl
      simp only [List.setIfInBounds_toArray, List.set_cons_zero, List.set_cons_succ]
      refine extS_take (i := 2) (d := 18) (v := ?_) rfl rfl (by kernel_rfl) (by kernel_rfl) (by kernel_rfl) (fun _ _ _ h => h) (by rfl) (fun W hS => ?_) ?_
      rotate_left
      · skip
        refine gives_value (w := W) ⟨Below.refl _ _, hS⟩ ?_; go_simp; try with_reducible rfl
      simp only [List.setIfInBounds_toArray, List.set_cons_zero, List.set_cons_succ]
      refine extS_take (i := 3) (d := 19) (v := ?_) rfl rfl (by kernel_rfl) (by kernel_rfl) (by kernel_rfl) (fun _ _ _ h => h) (by rfl) (fun W hS => ?_) ?_
      rotate_left
      · skip
        (refine load_gives_at 50 (.tmp 18) ?_ b1 (off1 + k * 35) ?_ (ptRow p) _ (HC1.out W hS) Tryd.underlying50 rfl HLP.out ?_ <;> first | rfl | exact ⟨Below.refl _ _, hS⟩)
      simp only [List.setIfInBounds_toArray, List.set_cons_zero, List.set_cons_succ]
      refine extS_take (i := 4) (d := 20) (v := ?_) rfl rfl (by kernel_rfl) (by kernel_rfl) (by kernel_rfl) (fun _ _ _ h => h) (by rfl) (fun W hS => ?_) ?_
      rotate_left
      · skip
        refine gives_value (w := W) ⟨Below.refl _ _, hS⟩ ?_; go_simp; try with_reducible rfl
      simp only [List.setIfInBounds_toArray, List.set_cons_zero, List.set_cons_succ]
      refine extS_take (i := 5) (d := 21) (v := ?_) rfl rfl (by kernel_rfl) (by kernel_rfl) (by kernel_rfl) (fun _ _ _ h => h) (by rfl) (fun W hS => ?_) ?_
      rotate_left
      · skip
        refine gives_value (w := W) ⟨Below.refl _ _, hS⟩ ?_; go_simp; try with_reducible rfl
      simp only [List.setIfInBounds_toArray, List.set_cons_zero, List.set_cons_succ]
      refine extS_take (i := 6) (d := 22) (v := ?_) rfl rfl (by kernel_rfl) (by kernel_rfl) (by kernel_rfl) (fun _ _ _ h => h) (by rfl) (fun W hS => ?_) ?_
      rotate_left
      · skip
        refine gives_value (w := W) ⟨Below.refl _ _, hS⟩ ?_; go_simp; try with_reducible rfl
      simp only [List.setIfInBounds_toArray, List.set_cons_zero, List.set_cons_succ]
      refine extS_take (i := 7) (d := 23) (v := ?_) rfl rfl (by kernel_rfl) (by kernel_rfl) (by kernel_rfl) (fun _ _ _ h => h) (by rfl) (fun W hS => ?_) ?_
      rotate_left
      · skip
        (refine load_gives_at 50 (.tmp 22) ?_ b2 (off2 + k * 35) ?_ (ptRow r) _ (HC2.out W hS) Tryd.underlying50 rfl HLR.out ?_ <;> first | rfl | exact ⟨Below.refl _ _, hS⟩)
      simp only [List.setIfInBounds_toArray, List.set_cons_zero, List.set_cons_succ]
      refine extS_take (i := 8) (d := 24) (v := ?_) rfl rfl (by kernel_rfl) (by kernel_rfl) (by kernel_rfl) (fun _ _ _ h => h) (by rfl) (fun W hS => ?_) ?_
      rotate_left
      · skip
        refine gives_value (w := W) ⟨Below.refl _ _, hS⟩ ?_; refine (exec_eqsM rfl ?_ ?_ (by kernel_rfl) (HNE.out W)).trans ?_ <;> rfl
      simp only [List.setIfInBounds_toArray, List.set_cons_zero, List.set_cons_succ]
      refine extS_done (by kernel_rfl) (fun w3 _ hS3 => ?_) _
      have HB3 : Hid (Below w.heap.size w w3) := Lib.hid (HB.out.trans (hS3.mono HB.out.size))
      clear hS3
      by_cases hpr : p = r
      · have HN := Lib.hid (HNX.out hpr)
        rw [decide_eq_true hpr]
        clear hpr HDF HNX
        go_wp2
        go_roundw
        case rel => exact ⟨k + 1, HKL.out, by go_num, HN.out, HB3.out⟩
        case measure => have := HKL.out; simp [intOf]; omega
      · have HDE := Lib.hid (HDF.out hpr)
        rw [decide_eq_false hpr]
        clear hpr HDF HNX
        go_wp2
        go_ret
        exact ⟨by rw [HDE.out]; rfl, HB3.out⟩
    · obtain rfl : k = n1 := by omega
      have HD : Hid (decide (a = b) = true) := Lib.hid (decide_eq_true (by
        have := HS.out
        rw [HN1.out, List.take_length] at this
        rw [this, ← HN1.out, HN2.out, List.take_length]))
      clear hb hsm
      go_wp2
      go_ret
      exact ⟨by rw [HD.out]; rfl, HB.out⟩

end Go.Proofs.YtgnalcobcdgnkaaDoor

namespace Go.Proofs.YtgnalcobcdgnkaaDoor
open Go.RowKit

/-- Whether two manifests are the same. -/
def sameM (a b : MF) : Bool := (a.num == b.num) && ((a.fro == b.fro) && ((a.upto == b.upto) && ((a.trim == b.trim) && ((a.prev == b.prev) && decide (a.ps = b.ps)))))
theorem sameM_iff {a b : MF} : sameM a b = true ↔ a = b := by
  obtain ⟨a1, a2, a3, a4, a5, a6⟩ := a
  obtain ⟨b1, b2, b3, b4, b5, b6⟩ := b
  unfold sameM
  simp
theorem sameM_self (a : MF) : sameM a a = true := sameM_iff.2 rfl

set_option maxHeartbeats 8000000 in
set_option maxRecDepth 100000 in
theorem msame_any (a b : MF) (v1 v2 : Value) (w : World) (A B : Nat → Prop) (h1 : PsAt w A v1 a.ps) (h2 : PsAt w B v2 b.ps) (d1 : Dg a.prev) (d2 : Dg b.prev) :
    Calls Tryd.prog 12 #[.agg (mfRow a v1).toArray, .agg (mfRow b v2).toArray] w fun e w' => e = .returned (.bool (sameM a b)) ∧ Below w.heap.size w w' := by
  obtain ⟨ao1, cap1, rfl, l1, m1, _⟩ := h1.val
  obtain ⟨ao2, cap2, rfl, _, _, _⟩ := h2.val
  obtain ⟨n1, hn1⟩ : ∃ n, n = a.ps.length := ⟨_, rfl⟩
  obtain ⟨n2, hn2⟩ : ∃ n, n = b.ps.length := ⟨_, rfl⟩
  rw [← hn1] at h1 ⊢
  rw [← hn2] at h2 ⊢
  obtain ⟨W1, hW1⟩ : ∃ W1, W1 = (w.alloc (.cells (mfRow a (.slice ao1 n1 cap1)).toArray 27)).alloc (.cells (mfRow b (.slice ao2 n2 cap2)).toArray 27) := ⟨_, rfl⟩
  have hb1 : Below w.heap.size w W1 := by rw [hW1]; exact ((Below.refl _ _).alloc (Nat.le_refl _) _).alloc (by simp) _
  have hx1 : MB W1 w.heap.size a (.slice ao1 n1 cap1) 27 := by rw [hW1]; exact (mb_new _ _ _ _).old ((Below.refl _ _).alloc (Nat.le_refl _) _)
  have hy1 : MB W1 (w.heap.size + 1) b (.slice ao2 n2 cap2) 27 := by
    have := mb_new (w.alloc (.cells (mfRow a (.slice ao1 n1 cap1)).toArray 27)) b (.slice ao2 n2 cap2) 27
    rw [hW1]; simpa using this
  have HB1 := Lib.hid hb1
  have HEP := Lib.hid (equalP_any _ _ a.ps b.ps W1 A B (h1.old hb1) (h2.old hb1))
  have HPA : Hid (∀ j u, (vals .u8 a.prev)[j]? = some u → W1.cell? ⟨w.heap.size, 4 + j, none⟩ = some u) := Lib.hid hx1.prev
  have HPB : Hid (∀ j u, (vals .u8 b.prev)[j]? = some u → W1.cell? ⟨w.heap.size + 1, 4 + j, none⟩ = some u) := Lib.hid hy1.prev
  have HDA : Hid ((Tryd.prog.info? 24).map (·.size) = some (vals .u8 a.prev).length) := Lib.hid (by rw [vals_length, d1.1]; exact Tryd.sizeDG)
  have HDB : Hid ((Tryd.prog.info? 24).map (·.size) = some (vals .u8 b.prev).length) := Lib.hid (by rw [vals_length, d2.1]; exact Tryd.sizeDG)
  have heq := fun w => eq_digestsM a.prev b.prev d1.1 d2.1 w
  obtain ⟨x0, x1, x2, x3, x36⟩ := hx1.x d1
  obtain ⟨y0, y1, y2, y3, y36⟩ := hy1.x d2
  have HX := Lib.hid (And.intro x0 (And.intro x1 (And.intro x2 (And.intro x3 x36))))
  have HY := Lib.hid (And.intro y0 (And.intro y1 (And.intro y2 (And.intro y3 y36))))
  have hSM : sameM a b = ((a.num == b.num) && ((a.fro == b.fro) && ((a.upto == b.upto) && ((a.trim == b.trim) && ((a.prev == b.prev) && decide (a.ps = b.ps)))))) := rfl
  rw [hSM]
  obtain ⟨pe, hpe⟩ : ∃ x, x = decide (a.ps = b.ps) := ⟨_, rfl⟩
  rw [← hpe] at HEP ⊢
  obtain ⟨A1, hA1⟩ : ∃ A, A = (mfRow a (.slice ao1 n1 cap1)).toArray := ⟨_, rfl⟩
  obtain ⟨A2, hA2⟩ : ∃ A, A = (mfRow b (.slice ao2 n2 cap2)).toArray := ⟨_, rfl⟩
  rw [← hA1, ← hA2] at hW1 ⊢
  rw [hW1] at x0 x1 x2 x3 x36 y0 y1 y2 y3 y36
  have HW1 := Lib.hid hW1
  obtain ⟨pq, hpq⟩ : ∃ x, x = (a.prev == b.prev) := ⟨_, rfl⟩
  rw [← hpq] at heq ⊢
  generalize a.num = e0 at *
  generalize b.num = g0 at *
  generalize a.fro = e1 at *
  generalize b.fro = g1 at *
  generalize a.upto = e2 at *
  generalize b.upto = g2 at *
  generalize a.trim = e3 at *
  generalize b.trim = g3 at *
  clear h1 h2 l1 m1 hb1 hx1 hy1 hpe hA1 hA2 hW1 hpq hSM hn1 hn2 d1 d2
  by_cases q0 : (e0 == g0) = true
  rotate_left
  · have q0 : (e0 == g0) = false := Bool.eq_false_iff.2 q0
    have Q := Lib.hid q0
    go_enter Tryd.func12, Tryd.ntmps12
    go_wp2
    go_ret
    exact ⟨by rw [Q.out]; rfl, by rw [← HW1.out]; exact HB1.out⟩
  have HQ0 := Lib.hid q0
  by_cases q1 : (e1 == g1) = true
  rotate_left
  · have q1 : (e1 == g1) = false := Bool.eq_false_iff.2 q1
    have Q := Lib.hid q1
    go_enter Tryd.func12, Tryd.ntmps12
    go_wp2
    go_ret
    exact ⟨by rw [Q.out]; rw [HQ0.out]; rfl, by rw [← HW1.out]; exact HB1.out⟩
  have HQ1 := Lib.hid q1
  by_cases q2 : (e2 == g2) = true
  rotate_left
  · have q2 : (e2 == g2) = false := Bool.eq_false_iff.2 q2
    have Q := Lib.hid q2
    go_enter Tryd.func12, Tryd.ntmps12
    go_wp2
    go_ret
    exact ⟨by rw [Q.out]; rw [HQ0.out]; rw [HQ1.out]; rfl, by rw [← HW1.out]; exact HB1.out⟩
  have HQ2 := Lib.hid q2
  by_cases q3 : (e3 == g3) = true
  rotate_left
  · have q3 : (e3 == g3) = false := Bool.eq_false_iff.2 q3
    have Q := Lib.hid q3
    go_enter Tryd.func12, Tryd.ntmps12
    go_wp2
    go_ret
    exact ⟨by rw [Q.out]; rw [HQ0.out]; rw [HQ1.out]; rw [HQ2.out]; rfl, by rw [← HW1.out]; exact HB1.out⟩
  have HQ3 := Lib.hid q3
  have HPA2 : Hid (∀ j u, (vals .u8 a.prev)[j]? = some u → ((w.alloc (.cells A1 27)).alloc (.cells A2 27)).cell? ⟨w.heap.size, 4 + j, none⟩ = some u) := Lib.hid (by rw [← HW1.out]; exact HPA.out)
  have HPB2 : Hid (∀ j u, (vals .u8 b.prev)[j]? = some u → ((w.alloc (.cells A1 27)).alloc (.cells A2 27)).cell? ⟨w.heap.size + 1, 4 + j, none⟩ = some u) := Lib.hid (by rw [← HW1.out]; exact HPB.out)
  cases pq
  · go_enter Tryd.func12, Tryd.ntmps12
    go_wp2_with (first
      | ((with_reducible show wpList _ _ _ (Oper.mk (some 33) _ _ _ _ _ :: _) _ _); go_must (refine wpList_load_atG (by first | rfl | simp [Region.wanted, yielded, HQ0.out, HQ1.out, HQ2.out, HQ3.out]) 24 (.tmp 32) rfl w.heap.size 4 rfl (vals .u8 a.prev) _ HPA2.out Tryd.underlying24 rfl HDA.out ?_))
      | ((with_reducible show wpList _ _ _ (Oper.mk (some 35) _ _ _ _ _ :: _) _ _); go_must (refine wpList_load_atG (by first | rfl | simp [Region.wanted, yielded, HQ0.out, HQ1.out, HQ2.out, HQ3.out]) 24 (.tmp 34) rfl (w.heap.size + 1) 4 rfl (vals .u8 b.prev) _ HPB2.out Tryd.underlying24 rfl HDB.out ?_)))
    go_ret
    exact ⟨by rw [HQ0.out, HQ1.out, HQ2.out, HQ3.out]; rfl, by rw [← HW1.out]; exact HB1.out⟩
  · go_enter Tryd.func12, Tryd.ntmps12
    go_wp2_with (first
      | ((with_reducible show wpList _ _ _ (Oper.mk (some 33) _ _ _ _ _ :: _) _ _); go_must (refine wpList_load_atG (by first | rfl | simp [Region.wanted, yielded, HQ0.out, HQ1.out, HQ2.out, HQ3.out]) 24 (.tmp 32) rfl w.heap.size 4 rfl (vals .u8 a.prev) _ HPA2.out Tryd.underlying24 rfl HDA.out ?_))
      | ((with_reducible show wpList _ _ _ (Oper.mk (some 35) _ _ _ _ _ :: _) _ _); go_must (refine wpList_load_atG (by first | rfl | simp [Region.wanted, yielded, HQ0.out, HQ1.out, HQ2.out, HQ3.out]) 24 (.tmp 34) rfl (w.heap.size + 1) 4 rfl (vals .u8 b.prev) _ HPB2.out Tryd.underlying24 rfl HDB.out ?_)))
    rw [← HW1.out]
    refine HEP.out.mono ?_
    rintro e w2 ⟨rfl, hb2⟩
    have HB2 : Hid (Below w.heap.size w w2) := Lib.hid (HB1.out.trans (hb2.mono HB1.out.size))
    clear hb2
    go_wp2
    go_ret
    exact ⟨by rw [HQ0.out, HQ1.out, HQ2.out, HQ3.out]; rfl, HB2.out⟩

end Go.Proofs.YtgnalcobcdgnkaaDoor
