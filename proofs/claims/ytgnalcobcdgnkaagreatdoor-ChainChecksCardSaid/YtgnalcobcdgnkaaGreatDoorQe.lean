/- Package manifest: within, isMark, checkPart, has, Check, Find. · Package manifest: Check. · The document's own manifests: Check. -/
import Derived.Test.YtgnalcobcdgnkaaGreatDoorQd
import Derived.Deep.RegionHeld3
import Derived.Deep.Cut
import Derived.Deep.CutBlock
namespace Go.Proofs.YtgnalcobcdgnkaaGreatDoor
open Go.RowKit

/-- A struct that is stored whole into a box laid just before. -/
theorem wpList_store_new {P : Program} {ops : Array Oper} {rest : List Oper} {o : Oper} {a : Act} {Q : Exit → Act → World → Prop} (hgd : o.guard = none) (ty : TypeId) (x y : Operand) (ho : o.op = .store ty x y)
    (w0 : World) (Z row : Array Value) (hx : a.eval x = .pointer (some ⟨w0.heap.size, 0, none⟩)) (hy : a.eval y = .agg row) (T : TypeId) (hi : (P.info? ty).map (·.size) = some row.size) (hold : Z.size = row.size) (h1 : row.all (·.oneCell') = true)
    (h : ∀ W2 : World, W2.heap[w0.heap.size]? = some (.cells row T (0, 0)) → Below w0.heap.size w0 W2 → W2.heap.size = w0.heap.size + 1 → wpList P ops Q rest (a.put o.dst undef) W2) : wpList P ops Q (o :: rest) a (w0.alloc (.cells Z T)) :=
  wpList_store_row hgd ty x y ho w0.heap.size row hx hy T Z (heap_alloc_new _ _) hi hold h1
    (h _ (setRow_heap _ _ _ _ _ _ (heap_alloc_new _ _)) (((Below.refl _ _).alloc (Nat.le_refl _) _).trans ⟨rfl, rfl, rfl, by simp [World.setRow], fun k hk => setRow_other _ _ k _ (by omega)⟩) (by simp [World.setRow]))

theorem Tryz.sizePT : (Tryz.prog.info? 67).map (·.size) = some 35 := by kernel_rfl
theorem Tryz.sizeMF : (Tryz.prog.info? 43).map (·.size) = some 37 := by kernel_rfl
theorem Tryz.sizeDG : (Tryz.prog.info? 34).map (·.size) = some 32 := by kernel_rfl
theorem ptRow_size {p : PT} (h : Dg p.2.2.2) : (ptRow p).toArray.size = 35 := by rw [List.size_toArray, ptRow_len h]
theorem mfRow_size {m : MF} {v : Value} (h : Dg m.prev) : (mfRow m v).toArray.size = 37 := by rw [List.size_toArray, mfRow_len v h]
theorem all_one {l : List Value} (h : ∀ u ∈ l, u.oneCell' = true) : l.toArray.all (·.oneCell') = true := by
  rw [List.all_toArray, List.all_eq_true]; exact h

set_option maxHeartbeats 1000000 in
set_option maxRecDepth 100000 in
theorem mwithin_any (n a b : Int) (w : World) :
    Calls Tryz.prog 37 #[.int .i64 n, .int .i64 a, .int .i64 b] w fun e w' => e = .returned (.bool (decide (a ≤ n) && decide (n ≤ b))) ∧ w' = w := by
  by_cases h : a ≤ n
  · have H := Lib.hid h
    go_enter Tryz.func37, Tryz.ntmps37
    go_wp2
    go_ret
    exact ⟨by rw [decide_eq_true H.out, Bool.true_and]; rfl, rfl⟩
  · have H := Lib.hid h
    go_enter Tryz.func37, Tryz.ntmps37
    go_wp2
    go_ret
    exact ⟨by rw [decide_eq_false (by have := H.out; omega), Bool.false_and]; rfl, rfl⟩

/-- Whether a number may say up to where something goes. -/
def markB (x : Int) : Bool := decide (0 ≤ x) && decide (x ≤ 1048576)
theorem markB_iff {x : Int} : markB x = true ↔ ¬ outM x := by unfold markB outM; simp

set_option maxHeartbeats 1000000 in
set_option maxRecDepth 100000 in
theorem isMark_any (n : Int) (w : World) :
    Calls Tryz.prog 38 #[.int .i64 n] w fun e w' => e = .returned (.bool (markB n)) ∧ w' = w := by
  have HW := Lib.hid (mwithin_any n 0 1048576 w)
  go_enter Tryz.func38, Tryz.ntmps38
  go_wp2_with fail
  refine HW.out.mono ?_
  rintro e w2 ⟨rfl, rfl⟩
  go_wp2
  go_ret
  exact ⟨rfl, rfl⟩

set_option maxHeartbeats 2000000 in
set_option maxRecDepth 100000 in
theorem checkPart_any (p : PT) (x : Int) (w : World) :
    Calls Tryz.prog 40 #[.agg (ptRow p).toArray, .int .i64 x] w fun e w' => e = .returned (errV (partC x p)) ∧ Below w.heap.size w w' := by
  obtain ⟨W1, hW1⟩ : ∃ W1, W1 = w.alloc (.cells (ptRow p).toArray 67) := ⟨_, rfl⟩
  have hb1 : Below w.heap.size w W1 := by rw [hW1]; exact (Below.refl _ _).alloc (Nat.le_refl _) _
  have hx1 : PB W1 w.heap.size p 67 := by rw [hW1]; exact pb_new _ _ _
  obtain ⟨x0, x1, x2⟩ := hx1.x
  obtain ⟨z, hz⟩ : ∃ z, z = partC x p := ⟨_, rfl⟩
  obtain ⟨A, hA⟩ : ∃ A, A = (ptRow p).toArray := ⟨_, rfl⟩
  obtain ⟨f, mm, ss, sum⟩ := p
  simp only at x0 x1 x2
  rw [← hz, ← hA]
  rw [← hA] at hW1
  have HB1 := Lib.hid hb1
  have HW1 := Lib.hid hW1
  have HM := Lib.hid (mwithin_any mm 1 64 W1)
  have HS := Lib.hid (mwithin_any ss 1 65536 W1)
  have HX := Lib.hid (And.intro x0 (And.intro x1 x2))
  rw [hW1] at x0 x1 x2
  clear hA hb1 hx1
  by_cases g1 : 1 ≤ mm ∧ mm ≤ 64
  rotate_left
  · have hE : (decide (1 ≤ mm) && decide (mm ≤ 64)) = false := by
      rw [Bool.and_eq_false_iff, decide_eq_false_iff_not, decide_eq_false_iff_not]; omega
    rw [hE] at HM
    have HZ : Hid (errV z = .iface 58 (.int .i64 1)) := Lib.hid (by rw [hz]; unfold partC; rw [if_pos (by simp only; omega)]; exact errV_pos (by decide))
    rw [HZ.out]
    clear hE g1 hz hW1
    go_enter Tryz.func40, Tryz.ntmps40
    go_wp2_with fail
    rw [← HW1.out]
    clear x0 x1 x2
    obtain ⟨x0, x1, x2⟩ := HX.out
    refine HM.out.mono ?_
    rintro e w2 ⟨rfl, rfl⟩
    go_wp2
    go_ret
    exact ⟨rfl, HB1.out⟩
  have hE : (decide (1 ≤ mm) && decide (mm ≤ 64)) = true := by rw [decide_eq_true g1.1, decide_eq_true g1.2]; rfl
  rw [hE] at HM
  clear hE
  by_cases g2 : 1 ≤ ss ∧ ss ≤ 65536
  rotate_left
  · have hE : (decide (1 ≤ ss) && decide (ss ≤ 65536)) = false := by
      rw [Bool.and_eq_false_iff, decide_eq_false_iff_not, decide_eq_false_iff_not]; omega
    rw [hE] at HS
    have HZ : Hid (errV z = .iface 58 (.int .i64 1)) := Lib.hid (by rw [hz]; unfold partC; rw [if_pos (by simp only; omega)]; exact errV_pos (by decide))
    rw [HZ.out]
    clear hE g1 g2 hz hW1
    go_enter Tryz.func40, Tryz.ntmps40
    go_wp2_with fail
    rw [← HW1.out]
    clear x0 x1 x2
    obtain ⟨x0, x1, x2⟩ := HX.out
    refine HM.out.mono ?_
    rintro e w2 ⟨rfl, rfl⟩
    go_wp2_with fail
    refine HS.out.mono ?_
    rintro e w2 ⟨rfl, rfl⟩
    go_wp2
    go_ret
    exact ⟨rfl, HB1.out⟩
  have hE : (decide (1 ≤ ss) && decide (ss ≤ 65536)) = true := by rw [decide_eq_true g2.1, decide_eq_true g2.2]; rfl
  rw [hE] at HS
  clear hE
  have HP : Hid (z = if f ≠ x then 2 else 0) := Lib.hid (by rw [hz]; unfold partC; rw [if_neg (by simp only; omega)])
  by_cases g3 : f = x
  · have HZ : Hid (errV z = .nilIface) := Lib.hid (by rw [HP.out, if_neg (by simpa using g3)]; exact errV_zero)
    rw [HZ.out]
    clear g1 g2 hz hW1
    subst g3
    go_enter Tryz.func40, Tryz.ntmps40
    go_wp2_with fail
    rw [← HW1.out]
    clear x0 x1 x2
    obtain ⟨x0, x1, x2⟩ := HX.out
    refine HM.out.mono ?_
    rintro e w2 ⟨rfl, rfl⟩
    go_wp2_with fail
    refine HS.out.mono ?_
    rintro e w2 ⟨rfl, rfl⟩
    go_wp2
    go_ret
    exact ⟨rfl, HB1.out⟩
  · have HZ : Hid (errV z = .iface 58 (.int .i64 2)) := Lib.hid (by rw [HP.out, if_pos g3]; exact errV_pos (by decide))
    rw [HZ.out]
    clear g1 g2 hz hW1
    go_enter Tryz.func40, Tryz.ntmps40
    go_wp2_with fail
    rw [← HW1.out]
    clear x0 x1 x2
    obtain ⟨x0, x1, x2⟩ := HX.out
    refine HM.out.mono ?_
    rintro e w2 ⟨rfl, rfl⟩
    go_wp2_with fail
    refine HS.out.mono ?_
    rintro e w2 ⟨rfl, rfl⟩
    go_wp2
    go_ret
    exact ⟨rfl, HB1.out⟩

/-- Whether a part has an address, by its place. -/
def hasB (p : PT) (x : Int) : Bool := decide (0 ≤ wrap64 (x - p.1)) && decide (wrap64 (x - p.1) < p.2.1)

set_option maxHeartbeats 2000000 in
set_option maxRecDepth 100000 in
theorem phas_any (p : PT) (x : Int) (w : World) :
    Calls Tryz.prog 25 #[.agg (ptRow p).toArray, .int .i64 x] w fun e w' => e = .returned (.bool (hasB p x)) ∧ Below w.heap.size w w' := by
  obtain ⟨W1, hW1⟩ : ∃ W1, W1 = w.alloc (.cells (ptRow p).toArray 67) := ⟨_, rfl⟩
  have hb1 : Below w.heap.size w W1 := by rw [hW1]; exact (Below.refl _ _).alloc (Nat.le_refl _) _
  have hx1 : PB W1 w.heap.size p 67 := by rw [hW1]; exact pb_new _ _ _
  obtain ⟨x0, x1, _⟩ := hx1.x
  obtain ⟨A, hA⟩ : ∃ A, A = (ptRow p).toArray := ⟨_, rfl⟩
  unfold hasB
  obtain ⟨f, mm, ss, sum⟩ := p
  simp only at x0 x1 ⊢
  rw [← hA]
  rw [← hA] at hW1
  have HB1 := Lib.hid hb1
  rw [hW1] at x0 x1
  obtain ⟨d, hd⟩ : ∃ d, d = wrap64 (x - f) := ⟨_, rfl⟩
  have HD := Lib.hid hd
  rw [← hd]
  have HW1 := Lib.hid hW1
  clear hA hb1 hx1 hW1
  by_cases g : 0 ≤ d
  · have G := Lib.hid g
    rw [hd] at g
    clear hd
    go_enter Tryz.func25, Tryz.ntmps25
    go_wp2
    go_ret
    exact ⟨by rw [decide_eq_true G.out, Bool.true_and, HD.out]; rfl, by rw [← HW1.out]; exact HB1.out⟩
  · have G := Lib.hid g
    rw [hd] at g
    clear hd
    go_enter Tryz.func25, Tryz.ntmps25
    go_wp2
    go_ret
    exact ⟨by rw [decide_eq_false (by have := G.out; omega), Bool.false_and]; rfl, by rw [← HW1.out]; exact HB1.out⟩

end Go.Proofs.YtgnalcobcdgnkaaGreatDoor

namespace Go.Proofs.YtgnalcobcdgnkaaGreatDoor
open Go.RowKit

theorem zero_valsM : (vals .u8 zero32).toArray = #[.int .u8 0, .int .u8 0, .int .u8 0, .int .u8 0, .int .u8 0, .int .u8 0, .int .u8 0, .int .u8 0, .int .u8 0, .int .u8 0, .int .u8 0, .int .u8 0, .int .u8 0, .int .u8 0, .int .u8 0, .int .u8 0, .int .u8 0, .int .u8 0, .int .u8 0, .int .u8 0, .int .u8 0, .int .u8 0, .int .u8 0, .int .u8 0, .int .u8 0, .int .u8 0, .int .u8 0, .int .u8 0, .int .u8 0, .int .u8 0, .int .u8 0, .int .u8 0] := by rfl
theorem eq_digestsM (a b : List Nat) (ha : a.length = 32) (hb : b.length = 32) (w : World) : (Op.equalIn 10000 34 (.agg (vals .u8 a).toArray) (.agg (vals .u8 b).toArray)).run Tryz.prog w = .ok (a == b) w :=
  equalIn_nums (k := .u8) Tryz.underlying34 Tryz.underlying5 (fun w => by kernel_rfl) a b ha hb w

set_option maxHeartbeats 1000000 in
set_option maxRecDepth 100000 in
theorem mzero_any (l : List Nat) (hl : l.length = 32) (w : World) :
    Calls Tryz.prog 39 #[.agg (vals .u8 l).toArray] w fun e w' => e = .returned (.bool (l == zero32)) ∧ Below w.heap.size w w' := by
  have hbx : (w.alloc (.cells (vals .u8 l).toArray 34)).heap[w.heap.size]? = some (.cells (vals .u8 l).toArray 34 (0, 0)) := heap_alloc_new _ _
  have hds : (Tryz.prog.info? 34).map (·.size) = some (vals .u8 l).toArray.size := by rw [List.size_toArray, vals_length, hl]; exact Tryz.sizeDG
  have heq := fun w => eq_digestsM l zero32 hl (by simp [zero32]) w
  rw [zero_valsM] at heq
  have HBX := Lib.hid hbx
  clear hbx
  go_enter Tryz.func39, Tryz.ntmps39
  go_wp2_with ((with_reducible show wpList _ _ _ (Oper.mk (some 3) _ _ _ _ _ :: _) _ _); go_must (refine wpList_load_row rfl 34 (.tmp 1) rfl w.heap.size rfl _ (vals .u8 l).toArray _ _ (by first | exact HBX.out | exact (Below.heap_alloc _ _ _ (by simp)).trans HBX.out) Tryz.underlying34 rfl hds ?_))
  go_ret
  exact ⟨rfl, (Below.refl _ _).alloc (Nat.le_refl _) _⟩

theorem take_snocP {ps : List PT} {k : Nat} (h : k < ps.length) : ps.take (k + 1) = ps.take k ++ [ps.getD k (0, 0, 0, [])] := by
  rw [List.take_succ_eq_append_getElem h, List.getD_eq_getElem?_getD, List.getElem?_eq_getElem h]; rfl
theorem drop_consP {ps : List PT} {k : Nat} (h : k < ps.length) : ps.drop k = ps.getD k (0, 0, 0, []) :: ps.drop (k + 1) := by
  rw [List.drop_eq_getElem_cons h, List.getD_eq_getElem?_getD, List.getElem?_eq_getElem h]; rfl
/-- How far Check has come. -/
structure CkS (m : MF) (k : Nat) (x : Int) : Prop where
  kle : k ≤ m.ps.length
  eq : partsC m.upto m.fro m.ps = partsC m.upto x (m.ps.drop k)
  lo : 0 ≤ x
  hi : x ≤ 1048576 + 64 * (k : Int)
theorem CkS.next {m : MF} {k : Nat} {x : Int} (h : CkS m k x) (hk : k < m.ps.length) (hz : partC x (m.ps.getD k (0, 0, 0, [])) = 0) : CkS m (k + 1) (x + (m.ps.getD k (0, 0, 0, [])).2.1) := by
  have hp := partC_zero hz
  have h1 := h.lo
  have h2 := h.hi
  refine ⟨hk, ?_, by omega, by omega⟩
  rw [h.eq, drop_consP hk]
  conv => lhs; unfold partsC
  rw [if_neg (by rw [hz]; simp)]
theorem CkS.bad {m : MF} {k : Nat} {x : Int} (h : CkS m k x) (hk : k < m.ps.length) (hz : partC x (m.ps.getD k (0, 0, 0, [])) ≠ 0) : partsC m.upto m.fro m.ps = partC x (m.ps.getD k (0, 0, 0, [])) := by
  rw [h.eq, drop_consP hk]
  conv => lhs; unfold partsC
  rw [if_pos hz]
theorem CkS.fin {m : MF} {x : Int} (h : CkS m m.ps.length x) : partsC m.upto m.fro m.ps = if x = m.upto then 0 else 2 := by
  rw [h.eq, List.drop_length]
  rfl

set_option maxHeartbeats 4000000 in
set_option maxRecDepth 100000 in
theorem mcheck_any (m : MF) (v : Value) (w : World) (B : Nat → Prop) (h : PsAt w B v m.ps) (hd : Dg m.prev) :
    Calls Tryz.prog 27 #[.agg (mfRow m v).toArray] w fun e w' => e = .returned (errV (mchk m)) ∧ Below w.heap.size w w' := by
  obtain ⟨ao, cap, rfl, l1, m1, _⟩ := h.val
  obtain ⟨n, hn⟩ : ∃ n, n = m.ps.length := ⟨_, rfl⟩
  rw [← hn] at h ⊢
  obtain ⟨W1, hW1⟩ : ∃ W1, W1 = w.alloc (.cells (mfRow m (.slice ao n cap)).toArray 43) := ⟨_, rfl⟩
  have hb1 : Below w.heap.size w W1 := by rw [hW1]; exact (Below.refl _ _).alloc (Nat.le_refl _) _
  have hx1 : MB W1 w.heap.size m (.slice ao n cap) 43 := by rw [hW1]; exact mb_new _ _ _ _
  have HX1 := Lib.hid hx1
  have HB1 := Lib.hid hb1
  have HR := Lib.hid (h.old hb1)
  have HD := Lib.hid hd
  have HN := Lib.hid hn
  obtain ⟨z, hz⟩ : ∃ z, z = mchk m := ⟨_, rfl⟩
  rw [← hz]
  have HZ := Lib.hid hz
  obtain ⟨x0, x1, x2, x3, x36⟩ := hx1.x hd
  have HX : Hid (∀ W, Below W1.heap.size W1 W → (W.cell? ⟨w.heap.size, 0, none⟩ = some (.int .i64 m.num) ∧ W.cell? ⟨w.heap.size, 1, none⟩ = some (.int .i64 m.fro)) ∧ W.cell? ⟨w.heap.size, 2, none⟩ = some (.int .i64 m.upto) ∧ W.cell? ⟨w.heap.size, 36, none⟩ = some (.slice ao n cap)) := Lib.hid fun W hb => by
    obtain ⟨a, b, c, _, d⟩ := (HX1.out.old hb).x HD.out
    exact ⟨⟨a, b⟩, c, d⟩
  obtain ⟨A, hA⟩ : ∃ A, A = (mfRow m (.slice ao n cap)).toArray := ⟨_, rfl⟩
  rw [← hA] at hW1 ⊢
  have HW1 := Lib.hid hW1
  have HNU := Lib.hid (mwithin_any m.num 0 999999 W1)
  have HFR := Lib.hid (isMark_any m.fro W1)
  have HUP := Lib.hid (isMark_any m.upto W1)
  have HTR := Lib.hid (isMark_any m.trim W1)
  have HPV : Hid (∀ j u, (vals .u8 m.prev)[j]? = some u → W1.cell? ⟨w.heap.size, 4 + j, none⟩ = some u) := Lib.hid hx1.prev
  have HZE := Lib.hid (mzero_any m.prev hd.1 W1)
  have hds : (Tryz.prog.info? 34).map (·.size) = some (vals .u8 m.prev).length := by rw [vals_length, hd.1]; exact Tryz.sizeDG
  have HDS := Lib.hid hds
  have HX0 := Lib.hid (And.intro (And.intro x0 x1) (And.intro (And.intro x2 x3) x36))
  rw [hW1] at x0 x1 x2 x3 x36
  clear hA hb1 hx1 h l1 m1 hd hz hds
  have HBAD : Hid (¬ ((0 ≤ m.num ∧ m.num ≤ 999999) ∧ ¬ outM m.fro ∧ ¬ outM m.upto ∧ ¬ outM m.trim) → errV z = .iface 58 (.int .i64 1)) := Lib.hid fun hn => by
    rw [HZ.out]; unfold mchk
    rw [if_pos (by
      by_cases h1 : outM m.fro
      · exact .inr (.inl h1)
      by_cases h2 : outM m.upto
      · exact .inr (.inr (.inl h2))
      by_cases h3 : outM m.trim
      · exact .inr (.inr (.inr h3))
      exact .inl (Classical.byContradiction fun h => hn ⟨by omega, h1, h2, h3⟩))]
    exact errV_pos (by decide)
  obtain ⟨B0, hB0⟩ : ∃ b, b = (decide (0 ≤ m.num) && decide (m.num ≤ 999999)) := ⟨_, rfl⟩
  obtain ⟨B1, hB1⟩ : ∃ b, b = markB m.fro := ⟨_, rfl⟩
  obtain ⟨B2, hB2⟩ : ∃ b, b = markB m.upto := ⟨_, rfl⟩
  obtain ⟨B3, hB3⟩ : ∃ b, b = markB m.trim := ⟨_, rfl⟩
  rw [← hB0] at HNU
  rw [← hB1] at HFR
  rw [← hB2] at HUP
  rw [← hB3] at HTR
  have HB0 := Lib.hid hB0
  have HBB1 := Lib.hid hB1
  have HBB2 := Lib.hid hB2
  have HBB3 := Lib.hid hB3
  clear hB0 hB1 hB2 hB3
  by_cases hall : (B0 && B1 && B2 && B3) = true
  rotate_left
  · have HE : Hid (errV z = .iface 58 (.int .i64 1)) := Lib.hid (HBAD.out (by
      rintro ⟨⟨a0, a1⟩, a2, a3, a4⟩
      apply hall
      rw [HB0.out, HBB1.out, HBB2.out, HBB3.out, markB_iff.2 a2, markB_iff.2 a3, markB_iff.2 a4, decide_eq_true a0, decide_eq_true a1]
      rfl))
    rw [HE.out]
    clear hn hW1
    cases B0
    · clear hall
      go_enter Tryz.func27, Tryz.ntmps27
      go_wp2_with fail
      rw [← HW1.out]
      clear x0 x1 x2 x3 x36
      obtain ⟨⟨x0, x1⟩, ⟨x2, x3⟩, x36⟩ := HX0.out
      refine HNU.out.mono ?_
      rintro e W1 ⟨rfl, rfl⟩
      go_wp2
      go_ret
      exact ⟨rfl, HB1.out⟩
    cases B1
    · clear hall
      go_enter Tryz.func27, Tryz.ntmps27
      go_wp2_with fail
      rw [← HW1.out]
      clear x0 x1 x2 x3 x36
      obtain ⟨⟨x0, x1⟩, ⟨x2, x3⟩, x36⟩ := HX0.out
      refine HNU.out.mono ?_
      rintro e W1 ⟨rfl, rfl⟩
      go_wp2_with fail
      refine HFR.out.mono ?_
      rintro e W1 ⟨rfl, rfl⟩
      go_wp2
      go_ret
      exact ⟨rfl, HB1.out⟩
    cases B2
    · clear hall
      go_enter Tryz.func27, Tryz.ntmps27
      go_wp2_with fail
      rw [← HW1.out]
      clear x0 x1 x2 x3 x36
      obtain ⟨⟨x0, x1⟩, ⟨x2, x3⟩, x36⟩ := HX0.out
      refine HNU.out.mono ?_
      rintro e W1 ⟨rfl, rfl⟩
      go_wp2_with fail
      refine HFR.out.mono ?_
      rintro e W1 ⟨rfl, rfl⟩
      go_wp2_with fail
      refine HUP.out.mono ?_
      rintro e W1 ⟨rfl, rfl⟩
      go_wp2
      go_ret
      exact ⟨rfl, HB1.out⟩
    cases B3
    · clear hall
      go_enter Tryz.func27, Tryz.ntmps27
      go_wp2_with fail
      rw [← HW1.out]
      clear x0 x1 x2 x3 x36
      obtain ⟨⟨x0, x1⟩, ⟨x2, x3⟩, x36⟩ := HX0.out
      refine HNU.out.mono ?_
      rintro e W1 ⟨rfl, rfl⟩
      go_wp2_with fail
      refine HFR.out.mono ?_
      rintro e W1 ⟨rfl, rfl⟩
      go_wp2_with fail
      refine HUP.out.mono ?_
      rintro e W1 ⟨rfl, rfl⟩
      go_wp2_with fail
      refine HTR.out.mono ?_
      rintro e W1 ⟨rfl, rfl⟩
      go_wp2
      go_ret
      exact ⟨rfl, HB1.out⟩
    exact absurd rfl hall
  obtain ⟨⟨⟨rfl, rfl⟩, rfl⟩, rfl⟩ : ((B0 = true ∧ B1 = true) ∧ B2 = true) ∧ B3 = true := by simpa [Bool.and_eq_true] using hall
  clear hall
  have HIN : Hid (((0 ≤ m.num ∧ m.num ≤ 999999) ∧ (0 ≤ m.fro ∧ m.fro ≤ 1048576)) ∧ (0 ≤ m.upto ∧ m.upto ≤ 1048576) ∧ ¬ ((m.num < 0 ∨ 999999 < m.num) ∨ outM m.fro ∨ outM m.upto ∨ outM m.trim)) := Lib.hid (by
    have a := HB0.out
    have b := markB_iff.1 HBB1.out.symm
    have c := markB_iff.1 HBB2.out.symm
    have d := markB_iff.1 HBB3.out.symm
    have a2 := a.symm
    rw [Bool.and_eq_true, decide_eq_true_iff, decide_eq_true_iff] at a2
    refine ⟨⟨a2, ?_⟩, ?_, ?_⟩
    · unfold outM at b; omega
    · unfold outM at c; omega
    · rintro (h | h | h | h)
      · omega
      · exact b h
      · exact c h
      · exact d h)
  clear HBAD
  by_cases g1 : m.upto < m.fro
  · have HE : Hid (errV z = .iface 58 (.int .i64 2)) := Lib.hid (by
      rw [HZ.out]; unfold mchk
      rw [if_neg HIN.out.2.2, if_pos (.inl g1)]
      exact errV_pos (by decide))
    rw [HE.out]
    clear hn hW1
    go_enter Tryz.func27, Tryz.ntmps27
    go_wp2_with fail
    rw [← HW1.out]
    clear x0 x1 x2 x3 x36
    obtain ⟨⟨x0, x1⟩, ⟨x2, x3⟩, x36⟩ := HX0.out
    refine HNU.out.mono ?_
    rintro e W1 ⟨rfl, rfl⟩
    go_wp2_with fail
    refine HFR.out.mono ?_
    rintro e W1 ⟨rfl, rfl⟩
    go_wp2_with fail
    refine HUP.out.mono ?_
    rintro e W1 ⟨rfl, rfl⟩
    go_wp2_with fail
    refine HTR.out.mono ?_
    rintro e W1 ⟨rfl, rfl⟩
    go_wp2
    go_ret
    exact ⟨rfl, HB1.out⟩
  obtain ⟨zb, hzb⟩ : ∃ b, b = (m.prev == zero32) := ⟨_, rfl⟩
  rw [← hzb] at HZE
  have HZB := Lib.hid hzb
  clear hzb
  by_cases g2 : m.num = 0 ∧ zb = false
  · obtain ⟨g2, rfl⟩ := g2
    have HE : Hid (errV z = .iface 58 (.int .i64 2)) := Lib.hid (by
      rw [HZ.out]; unfold mchk
      rw [if_neg HIN.out.2.2, if_pos (.inr ⟨g2, by have := HZB.out; intro e; rw [e] at this; simp at this⟩)]
      exact errV_pos (by decide))
    rw [HE.out]
    clear hn hW1
    have g2b : (m.num == 0) = true := by simp [g2]
    clear g2
    go_enter Tryz.func27, Tryz.ntmps27
    go_wp2_with fail
    rw [← HW1.out]
    clear x0 x1 x2 x3 x36
    obtain ⟨⟨x0, x1⟩, ⟨x2, x3⟩, x36⟩ := HX0.out
    refine HNU.out.mono ?_
    rintro e W1 ⟨rfl, rfl⟩
    go_wp2_with fail
    refine HFR.out.mono ?_
    rintro e W1 ⟨rfl, rfl⟩
    go_wp2_with fail
    refine HUP.out.mono ?_
    rintro e W1 ⟨rfl, rfl⟩
    go_wp2_with fail
    refine HTR.out.mono ?_
    rintro e W1 ⟨rfl, rfl⟩
    go_wp2_with ((with_reducible show wpList _ _ _ (Oper.mk (some 41) _ _ _ _ _ :: _) _ _); go_must (refine wpList_load_atG (by rfl) 34 (.tmp 40) rfl w.heap.size 4 rfl (vals .u8 m.prev) _ HPV.out Tryz.underlying34 rfl HDS.out ?_))
    refine HZE.out.mono ?_
    rintro e w2 ⟨rfl, hb2⟩
    have HB2 : Hid (Below w.heap.size w w2) := Lib.hid (HB1.out.trans (hb2.mono HB1.out.size))
    clear hb2
    go_wp2
    go_ret
    exact ⟨rfl, HB2.out⟩
  have HZQ : Hid (errV z = errV (if 1024 < n then 3 else partsC m.upto m.fro m.ps)) := Lib.hid (by
    rw [HZ.out]; unfold mchk
    rw [if_neg HIN.out.2.2, if_neg (by
      rintro (h | ⟨h1, h2⟩)
      · exact g1 h
      · refine g2 ⟨h1, ?_⟩
        rw [HZB.out]
        exact beq_eq_false_iff_ne.2 h2), ← HN.out])
  have HG1 : Hid (decide (m.upto < m.fro) = false) := Lib.hid (decide_eq_false g1)
  have HG2 : Hid (m.num = 0 → zb = true) := Lib.hid fun h => by
    cases zb
    · exact absurd ⟨h, rfl⟩ g2
    · rfl
  clear hn hW1 g2
  go_enter Tryz.func27, Tryz.ntmps27
  go_wp2_with fail
  rw [← HW1.out]
  clear x0 x1 x2 x3 x36
  obtain ⟨⟨x0, x1⟩, ⟨x2, x3⟩, x36⟩ := HX0.out
  refine HNU.out.mono ?_
  rintro e W1 ⟨rfl, rfl⟩
  go_wp2_with fail
  refine HFR.out.mono ?_
  rintro e W1 ⟨rfl, rfl⟩
  go_wp2_with fail
  refine HUP.out.mono ?_
  rintro e W1 ⟨rfl, rfl⟩
  go_wp2_with fail
  refine HTR.out.mono ?_
  rintro e W1 ⟨rfl, rfl⟩
  go_upto_region 3 with fail
  go_cut [45] from 30 to 46 (fun ov wx => ov = .bool false ∧ Below W1.heap.size W1 wx)
  case first =>
    by_cases g3 : m.num = 0
    · have g3b : (m.num == 0) = true := by simp [g3]
      have HZT := HG2.out g3
      rw [HZT] at HZE
      clear HZT g3
      go_wp2_with ((with_reducible show wpList _ _ _ (Oper.mk (some 41) _ _ _ _ _ :: _) _ _); go_must (refine wpList_load_atG (by rfl) 34 (.tmp 40) rfl w.heap.size 4 rfl (vals .u8 m.prev) _ HPV.out Tryz.underlying34 rfl HDS.out ?_))
      refine HZE.out.mono ?_
      rintro e w2 ⟨rfl, hb2⟩
      have HB2 := Lib.hid hb2
      clear hb2
      go_wp2
      go_meet
      case rel => exact ⟨by rw [HG1.out], HB2.out⟩
    · have g3b : (m.num == 0) = false := by simp [g3]
      clear g3
      go_wp2
      go_meet
      case rel => exact ⟨by rw [HG1.out], Below.refl _ _⟩
  case rest =>
    obtain ⟨rfl, hbc⟩ := hcut
    clear x0 x1 x2 x3 x36
    obtain ⟨⟨x0, x1⟩, x2, x36⟩ := HX.out wc hbc
    have HR2 := Lib.hid (HR.out.old hbc)
    have HB2 : Hid (Below w.heap.size w wc) := Lib.hid (HB1.out.trans (hbc.mono HB1.out.size))
    have HXC : Hid (∀ W, Below wc.heap.size wc W → W.cell? ⟨w.heap.size, 2, none⟩ = some (.int .i64 m.upto)) := Lib.hid fun W hb => (HX.out W (hbc.trans (hb.mono hbc.size))).2.1
    clear hbc
    by_cases g4 : (n : Int) > 1024
    · have HE : Hid (errV z = .iface 58 (.int .i64 3)) := Lib.hid (by rw [HZQ.out, if_pos (by omega)]; exact errV_pos (by decide))
      go_wp2
      go_ret
      exact ⟨by rw [HE.out]; rfl, HB2.out⟩
    have HEQ : Hid (errV z = errV (partsC m.upto m.fro m.ps)) := Lib.hid (by rw [HZQ.out, if_neg (by omega)])
    have HN4 : Hid (n ≤ 1024) := Lib.hid (by omega)
    have HCK : Hid (CkS m 0 m.fro) := Lib.hid ⟨Nat.zero_le _, rfl, HIN.out.1.2.1, by have := HIN.out.1.2.2; omega⟩
    go_wp2
    go_loopw [3, 5, 6, 57] (fun xv _ _ iv wr => ∃ (k : Nat) (x : Int), iv = .int .i64 (k : Int) ∧ xv = .int .i64 x ∧ CkS m k x ∧ Below wc.heap.size wc wr)
      (fun _ _ _ iv _ => n - (intOf iv).toNat)
    case atStart => exact ⟨0, m.fro, rfl, rfl, HCK.out, Below.refl _ _⟩
    case round =>
      obtain ⟨k, x, rfl, rfl, hck, hb⟩ := hrel
      have HB := Lib.hid hb
      have HK := Lib.hid hck
      by_cases hlt : k < n
      · have hltp : k < m.ps.length := by rw [← HN.out]; exact hlt
        obtain ⟨b, off, rfl, _, _, hdg, hcell⟩ := (HR2.out.old hb).at hltp
        have HCN := Lib.hid (hck.next hltp)
        have HCB := Lib.hid (hck.bad hltp)
        have h1 := hck.lo
        have h2 := hck.hi
        generalize m.ps.getD k (0, 0, 0, []) = p at hdg hcell HCN HCB
        have HLEN : Hid ((Tryz.prog.info? 67).map (·.size) = some (ptRow p).length) := Lib.hid (by rw [ptRow_len hdg]; exact Tryz.sizePT)
        have HSZ : Hid ((Tryz.prog.info? 67).map (·.size) = some (ptRow p).toArray.size) := Lib.hid (by rw [ptRow_size hdg]; exact Tryz.sizePT)
        have HCELL := Lib.hid hcell
        have HALL := Lib.hid (all_one (ptRow_one p))
        have HS35 := Lib.hid (ptRow_size hdg)
        have hlti : (k : Int) < (n : Int) := by omega
        have HXB : Hid (0 ≤ x ∧ x ≤ 2000000) := Lib.hid (by have := HN4.out; omega)
        clear hb hck hdg hcell h1 h2
        go_wp2_with (first
          | ((with_reducible show wpList _ _ _ (Oper.mk (some 60) _ _ _ _ _ :: _) _ _); go_must (refine wpList_load_at rfl 67 (.tmp 59) rfl b (off + k * 35) rfl (ptRow p) _ HCELL.out Tryz.underlying67 rfl HLEN.out ?_))
          | ((with_reducible show wpList _ _ _ (Oper.mk none _ _ _ _ _ :: _) _ _); go_must (refine wpList_store_new rfl 67 (.tmp 5) (.tmp 60) rfl wr _ (ptRow p).toArray rfl rfl _ HSZ.out (by rw [HS35.out]; rfl) HALL.out ?_)))
        intro W2 hp2 hb2 hs2
        have HP2 : Hid (PB W2 wr.heap.size p 67) := Lib.hid hp2
        have HB2' : Hid (Below wc.heap.size wc W2) := Lib.hid (HB.out.trans (hb2.mono HB.out.size))
        have HCP := Lib.hid (checkPart_any p x W2)
        clear hp2 hb2 hs2
        go_wp2_with (((with_reducible show wpList _ _ _ (Oper.mk (some 61) _ _ _ _ _ :: _) _ _); go_must (refine wpList_load_row rfl 67 (.tmp 5) rfl wr.heap.size rfl _ (ptRow p).toArray _ _ HP2.out Tryz.underlying67 rfl HSZ.out ?_)))
        refine HCP.out.mono ?_
        rintro e w3 ⟨rfl, hb3⟩
        have HB3 : Hid (Below wc.heap.size wc w3) := Lib.hid (HB2'.out.trans (hb3.mono HB2'.out.size))
        have q3 := HP2.out.old hb3
        obtain ⟨_, y1, _⟩ := q3.x
        clear hb3 q3
        obtain ⟨c, hc⟩ : ∃ c, c = partC x p := ⟨_, rfl⟩
        rw [← hc] at HCN HCB ⊢
        have HCC := Lib.hid hc
        by_cases hz : c = 0
        · have HNX := Lib.hid (HCN.out hz)
          have hp := partC_zero (HCC.out.symm.trans hz)
          have hwr : wrap64 (x + p.2.1) = x + p.2.1 := by
            have := HXB.out
            exact IntWalk.wrap64_in _ (by omega)
          have HH := Lib.hid hwr
          rw [hz, errV_zero]
          clear hz hc hp
          go_wp2
          go_roundw
          case rel => exact ⟨k + 1, _, by go_num, by first | rfl | rw [HH.out], HNX.out, HB3.out⟩
          case measure => simp [intOf]; omega
        · have HE : Hid (errV z = .iface 58 (.int .i64 (c : Int))) := Lib.hid (by rw [HEQ.out, HCB.out hz]; exact errV_pos hz)
          rw [errV_pos hz]
          clear hz hc
          go_wp2
          go_ret
          exact ⟨by rw [HE.out]; rfl, HB2.out.trans (HB3.out.mono HB2.out.size)⟩
      · obtain rfl : k = n := by have := hck.kle; have := HN.out; omega
        have hck2 : CkS m m.ps.length x := by rw [HN.out] at hck; exact hck
        have HF := Lib.hid hck2.fin
        clear hck2
        have y2 := HXC.out wr hb
        clear hck hb
        by_cases hu : x = m.upto
        · have HE : Hid (errV z = .nilIface) := Lib.hid (by rw [HEQ.out, HF.out, if_pos hu]; exact errV_zero)
          have hub : (x == m.upto) = true := by simp [hu]
          clear hu
          go_wp2
          go_ret
          exact ⟨by rw [HE.out]; rfl, HB2.out.trans (HB.out.mono HB2.out.size)⟩
        · have HE : Hid (errV z = .iface 58 (.int .i64 2)) := Lib.hid (by rw [HEQ.out, HF.out, if_neg hu]; exact errV_pos (by decide))
          have hub : (x == m.upto) = false := by simp [hu]
          clear hu
          go_wp2
          go_ret
          exact ⟨by rw [HE.out]; rfl, HB2.out.trans (HB.out.mono HB2.out.size)⟩

end Go.Proofs.YtgnalcobcdgnkaaGreatDoor

namespace Go.Proofs.YtgnalcobcdgnkaaGreatDoor
open Go.RowKit

theorem Tryz.sizePTD : (Tryz.prog.info? 73).map (·.size) = some 35 := by kernel_rfl
theorem Tryz.sizeMFD : (Tryz.prog.info? 54).map (·.size) = some 37 := by kernel_rfl
theorem Tryz.sizeDGD : (Tryz.prog.info? 37).map (·.size) = some 32 := by kernel_rfl
theorem eq_digestsD (a b : List Nat) (ha : a.length = 32) (hb : b.length = 32) (w : World) : (Op.equalIn 10000 37 (.agg (vals .u8 a).toArray) (.agg (vals .u8 b).toArray)).run Tryz.prog w = .ok (a == b) w :=
  equalIn_nums (k := .u8) Tryz.underlying37 Tryz.underlying5 (fun w => by kernel_rfl) a b ha hb w

set_option maxHeartbeats 8000000 in
set_option maxRecDepth 100000 in
theorem rmcheck_any (m : MF) (v : Value) (w : World) (B : Nat → Prop) (h : PsAt w B v m.ps) (hd : Dg m.prev) :
    Calls Tryz.prog 21 #[.agg (mfRow m v).toArray] w fun e w' => e = .returned (.int .i64 (mchk m : Int)) ∧ Below w.heap.size w w' := by
  obtain ⟨ao, cap, rfl, l1, m1, _⟩ := h.val
  obtain ⟨n, hn⟩ : ∃ n, n = m.ps.length := ⟨_, rfl⟩
  rw [← hn] at h ⊢
  obtain ⟨W1, hW1⟩ : ∃ W1, W1 = w.alloc (.cells (mfRow m (.slice ao n cap)).toArray 54) := ⟨_, rfl⟩
  have hb1 : Below w.heap.size w W1 := by rw [hW1]; exact (Below.refl _ _).alloc (Nat.le_refl _) _
  have hx1 : MB W1 w.heap.size m (.slice ao n cap) 54 := by rw [hW1]; exact mb_new _ _ _ _
  obtain ⟨W2, hW2⟩ : ∃ W, W = W1.alloc (.cells #[.int .i64 m.fro, .int .i64 m.upto, .int .i64 m.trim] 3) := ⟨_, rfl⟩
  have hb2 : Below W1.heap.size W1 W2 := by rw [hW2]; exact (Below.refl _ _).alloc (Nat.le_refl _) _
  have hs1 : W1.heap.size = w.heap.size + 1 := by rw [hW1]; simp
  have HCE : Hid (∀ k, k < 3 → W2.cell? ⟨w.heap.size + 1, k, none⟩ = some (.int .i64 ([m.fro, m.upto, m.trim].getD k 0))) := Lib.hid fun k hk => by
    rw [hW2, ← hs1]
    match k, hk with
    | 0, _ => rw [World.cell?_alloc_at _ _ _ _ rfl]; rfl
    | 1, _ => rw [World.cell?_alloc_at _ _ _ _ rfl]; rfl
    | 2, _ => rw [World.cell?_alloc_at _ _ _ _ rfl]; rfl
  have hbw : Below w.heap.size w W2 := hb1.trans (hb2.mono hb1.size)
  have hx2 := hx1.old hb2
  have HB2 := Lib.hid hbw
  have HR := Lib.hid ((h.old hb1).old hb2)
  have HD := Lib.hid hd
  have HN := Lib.hid hn
  have HX2 := Lib.hid hx2
  obtain ⟨z, hz⟩ : ∃ z, z = mchk m := ⟨_, rfl⟩
  rw [← hz]
  have HZ := Lib.hid hz
  obtain ⟨x0, x1, x2, x3, x36⟩ := hx1.x hd
  have HXM : Hid (∀ W, Below W2.heap.size W2 W → (W.cell? ⟨w.heap.size, 0, none⟩ = some (.int .i64 m.num) ∧ W.cell? ⟨w.heap.size, 1, none⟩ = some (.int .i64 m.fro)) ∧ W.cell? ⟨w.heap.size, 2, none⟩ = some (.int .i64 m.upto) ∧ W.cell? ⟨w.heap.size, 36, none⟩ = some (.slice ao n cap)) := Lib.hid fun W hb => by
    obtain ⟨a, b, c, _, d⟩ := (HX2.out.old hb).x HD.out
    exact ⟨⟨a, b⟩, c, d⟩
  have HPV : Hid (∀ j u, (vals .u8 m.prev)[j]? = some u → W2.cell? ⟨w.heap.size, 4 + j, none⟩ = some u) := Lib.hid hx2.prev
  have HDS : Hid ((Tryz.prog.info? 37).map (·.size) = some (vals .u8 m.prev).length) := Lib.hid (by rw [vals_length, hd.1]; exact Tryz.sizeDGD)
  have heq := fun w => eq_digestsD m.prev zero32 hd.1 (by simp [zero32]) w
  rw [zero_valsM] at heq
  obtain ⟨zb, hzb⟩ : ∃ b, b = (m.prev == zero32) := ⟨_, rfl⟩
  rw [← hzb] at heq
  have HZB := Lib.hid hzb
  obtain ⟨A, hA⟩ : ∃ A, A = (mfRow m (.slice ao n cap)).toArray := ⟨_, rfl⟩
  rw [← hA] at hW1 ⊢
  rw [hW1] at x0 x1 x2 x3 x36
  have HW1 := Lib.hid hW1
  have HW2 := Lib.hid hW2
  have HS1 := Lib.hid hs1
  clear hA hb1 hb2 hx1 hx2 hbw h l1 m1 hd hz hW1 hW2 hn hzb hs1
  go_enter Tryz.func21, Tryz.ntmps21
  go_wp2
  rw [← HW1.out, ← HW2.out]
  clear x0 x1 x2 x3 x36
  go_loopw [4, 16] (fun _ iv wr => ∃ k : Nat, k ≤ 3 ∧ iv = .int .i64 (k : Int) ∧ (∀ j, j < k → ¬ outM ([m.fro, m.upto, m.trim].getD j 0)) ∧ wr = W2)
    (fun _ iv _ => 3 - (intOf iv).toNat)
  case atStart => exact ⟨0, by omega, rfl, fun j hj => absurd hj (Nat.not_lt_zero j), rfl⟩
  case round =>
    obtain ⟨k, hk, rfl, hno, rfl⟩ := hrel
    have HNO := Lib.hid hno
    by_cases hlt : k < 3
    · have hc := HCE.out k hlt
      have hki : (k : Int) < 3 := by omega
      have HKL : Hid (k + 1 ≤ 3) := Lib.hid hlt
      have HIN : Hid ([m.fro, m.upto, m.trim].getD k 0 = m.fro ∨ [m.fro, m.upto, m.trim].getD k 0 = m.upto ∨ [m.fro, m.upto, m.trim].getD k 0 = m.trim) := Lib.hid (by
        match k, hlt with
        | 0, _ => exact .inl rfl
        | 1, _ => exact .inr (.inl rfl)
        | 2, _ => exact .inr (.inr rfl))
      obtain ⟨x, hx⟩ : ∃ x, x = [m.fro, m.upto, m.trim].getD k 0 := ⟨_, rfl⟩
      rw [← hx] at hc HIN
      have HXX := Lib.hid hx
      clear hno hx
      have HBAD : Hid (outM x → (z : Int) = 1) := Lib.hid fun ho => by
        rw [HZ.out]; unfold mchk
        rw [if_pos (by
          rcases HIN.out with rfl | rfl | rfl
          · exact .inr (.inl ho)
          · exact .inr (.inr (.inl ho))
          · exact .inr (.inr (.inr ho)))]
        rfl
      by_cases g1 : x < 0
      · have HE := Lib.hid (HBAD.out (.inl g1))
        go_wp2
        go_ret
        exact ⟨by rw [HE.out]; rfl, HB2.out⟩
      by_cases g2 : x > 1048576
      · have HE := Lib.hid (HBAD.out (.inr g2))
        go_wp2
        go_ret
        exact ⟨by rw [HE.out]; rfl, HB2.out⟩
      have HOK : Hid (¬ outM x) := Lib.hid (by unfold outM; omega)
      go_wp2
      go_roundw
      case rel =>
        refine ⟨k + 1, HKL.out, by go_num, fun j hj => ?_, by first | rfl | trivial⟩
        by_cases hjk : j < k
        · exact HNO.out j hjk
        · obtain rfl : j = k := by omega
          rw [← HXX.out]; exact HOK.out
      case measure => have := HKL.out; simp [intOf]; omega
    · obtain rfl : k = 3 := by omega
      have HMK : Hid (¬ (outM m.fro ∨ outM m.upto ∨ outM m.trim)) := Lib.hid (by
        rintro (h | h | h)
        · exact HNO.out 0 (by decide) h
        · exact HNO.out 1 (by decide) h
        · exact HNO.out 2 (by decide) h)
      obtain ⟨⟨x0, x1⟩, x2, x36⟩ := HXM.out wr (Below.refl _ _)
      clear hno
      by_cases g1 : m.num < 0
      · have HE : Hid ((z : Int) = 1) := Lib.hid (by rw [HZ.out]; unfold mchk; rw [if_pos (.inl (.inl g1))]; rfl)
        go_wp2
        go_ret
        exact ⟨by rw [HE.out]; rfl, HB2.out⟩
      by_cases g2 : m.num > 999999
      · have HE : Hid ((z : Int) = 1) := Lib.hid (by rw [HZ.out]; unfold mchk; rw [if_pos (.inl (.inr g2))]; rfl)
        go_wp2
        go_ret
        exact ⟨by rw [HE.out]; rfl, HB2.out⟩
      have HNR : Hid (¬ ((m.num < 0 ∨ 999999 < m.num) ∨ outM m.fro ∨ outM m.upto ∨ outM m.trim)) := Lib.hid (by
        rintro (h | h)
        · omega
        · exact HMK.out h)
      have HF0 : Hid (0 ≤ m.fro ∧ m.fro ≤ 1048576) := Lib.hid (by have := HMK.out; unfold outM at this; omega)
      by_cases g3 : m.fro > m.upto
      · have HE : Hid ((z : Int) = 2) := Lib.hid (by rw [HZ.out]; unfold mchk; rw [if_neg HNR.out, if_pos (.inl g3)]; rfl)
        go_wp2
        go_ret
        exact ⟨by rw [HE.out]; rfl, HB2.out⟩
      by_cases g4 : m.num = 0 ∧ zb = false
      · obtain ⟨g4, rfl⟩ := g4
        have HE : Hid ((z : Int) = 2) := Lib.hid (by
          rw [HZ.out]; unfold mchk
          rw [if_neg HNR.out, if_pos (.inr ⟨g4, by have := HZB.out; intro e; rw [e] at this; simp at this⟩)]
          rfl)
        have g4b : (m.num == 0) = true := by simp [g4]
        clear g4
        go_wp2_with ((with_reducible show wpList _ _ _ (Oper.mk (some 46) _ _ _ _ _ :: _) _ _); go_must (refine wpList_load_atG (by first | rfl | simp [Region.wanted, yielded, g4b]) 37 (.tmp 45) rfl w.heap.size 4 rfl (vals .u8 m.prev) _ HPV.out Tryz.underlying37 rfl HDS.out ?_))
        go_ret
        exact ⟨by rw [HE.out]; rfl, HB2.out⟩
      have HZQ : Hid (z = if 1024 < n then 3 else partsC m.upto m.fro m.ps) := Lib.hid (by
        rw [HZ.out]; unfold mchk
        rw [if_neg HNR.out, if_neg (by
          rintro (h | ⟨h1, h2⟩)
          · exact g3 h
          · refine g4 ⟨h1, ?_⟩
            rw [HZB.out]
            exact beq_eq_false_iff_ne.2 h2), ← HN.out])
      have HG4 : Hid (m.num = 0 → zb = true) := Lib.hid fun h => by
        cases zb
        · exact absurd ⟨h, rfl⟩ g4
        · rfl
      have HG3 : Hid (decide (m.upto < m.fro) = false) := Lib.hid (decide_eq_false g3)
      clear g4
      go_upto_region 9 with fail
      go_cut [50] from 35 to 51 (fun ov wx => ov = .bool false ∧ wx = wr)
      case first =>
        by_cases g5 : m.num = 0
        · have g5b : (m.num == 0) = true := by simp [g5]
          have hzt := HG4.out g5
          rw [hzt] at heq
          clear hzt g5
          go_wp2_with ((with_reducible show wpList _ _ _ (Oper.mk (some 46) _ _ _ _ _ :: _) _ _); go_must (refine wpList_load_atG (by first | rfl | simp [Region.wanted, yielded, g5b]) 37 (.tmp 45) rfl w.heap.size 4 rfl (vals .u8 m.prev) _ HPV.out Tryz.underlying37 rfl HDS.out ?_))
          go_meet
          case rel => exact ⟨by first | rfl | rw [HG3.out], by first | rfl | trivial⟩
        · have g5b : (m.num == 0) = false := by simp [g5]
          clear g5
          go_wp2
          go_meet
          case rel => exact ⟨by first | rfl | rw [HG3.out], by first | rfl | trivial⟩
      case rest =>
        obtain ⟨rfl, rfl⟩ := hcut
        by_cases g6 : (n : Int) > 1024
        · have HE : Hid ((z : Int) = 3) := Lib.hid (by rw [HZQ.out, if_pos (by omega)]; rfl)
          go_wp2
          go_ret
          exact ⟨by rw [HE.out]; rfl, HB2.out⟩
        have HEQ : Hid (z = partsC m.upto m.fro m.ps) := Lib.hid (by rw [HZQ.out, if_neg (by omega)])
        have HN4 : Hid (n ≤ 1024) := Lib.hid (by omega)
        have HCK : Hid (CkS m 0 m.fro) := Lib.hid ⟨Nat.zero_le _, rfl, HF0.out.1, by have := HF0.out.2; omega⟩
        go_wp2
        clear x0 x1 x2 x36
        go_loopw [5, 7, 60] (fun xv _ iv wr => ∃ (k : Nat) (x : Int), iv = .int .i64 (k : Int) ∧ xv = .int .i64 x ∧ CkS m k x ∧ Below wc.heap.size wc wr)
          (fun _ _ iv _ => n - (intOf iv).toNat)
        case atStart => exact ⟨0, m.fro, rfl, rfl, HCK.out, Below.refl _ _⟩
        case round =>
          obtain ⟨k, x, rfl, rfl, hck, hb⟩ := hrel
          have HB := Lib.hid hb
          by_cases hlt : k < n
          · have hltp : k < m.ps.length := by rw [← HN.out]; exact hlt
            obtain ⟨b, off, rfl, _, _, hdg, hcell⟩ := (HR.out.old hb).at hltp
            have HCN := Lib.hid (hck.next hltp)
            have HCB := Lib.hid (hck.bad hltp)
            have h1 := hck.lo
            have h2 := hck.hi
            generalize m.ps.getD k (0, 0, 0, []) = p at hdg hcell HCN HCB
            have HLEN : Hid ((Tryz.prog.info? 73).map (·.size) = some (ptRow p).length) := Lib.hid (by rw [ptRow_len hdg]; exact Tryz.sizePTD)
            have HSZ : Hid ((Tryz.prog.info? 73).map (·.size) = some (ptRow p).toArray.size) := Lib.hid (by rw [ptRow_size hdg]; exact Tryz.sizePTD)
            have HCELL := Lib.hid hcell
            have HALL := Lib.hid (all_one (ptRow_one p))
            have HS35 := Lib.hid (ptRow_size hdg)
            have hlti : (k : Int) < (n : Int) := by omega
            have HXB : Hid (0 ≤ x ∧ x ≤ 2000000) := Lib.hid (by have := HN4.out; omega)
            have HKL : Hid (k + 1 ≤ n) := Lib.hid hlt
            clear hb hck hdg hcell h1 h2
            go_wp2_with (first
              | ((with_reducible show wpList _ _ _ (Oper.mk (some 63) _ _ _ _ _ :: _) _ _); go_must (refine wpList_load_at rfl 73 (.tmp 62) rfl b (off + k * 35) rfl (ptRow p) _ HCELL.out Tryz.underlying73 rfl HLEN.out ?_))
              | ((with_reducible show wpList _ _ _ (Oper.mk none _ _ _ _ _ :: _) _ _); go_must (refine wpList_store_new rfl 73 (.tmp 7) (.tmp 63) rfl wr _ (ptRow p).toArray rfl rfl _ HSZ.out (by rw [HS35.out]; rfl) HALL.out ?_)))
            intro W3 hp3 hb3 hs3
            have hp3 : PB W3 wr.heap.size p 73 := hp3
            have HB3 : Hid (Below wc.heap.size wc W3) := Lib.hid (HB.out.trans (hb3.mono HB.out.size))
            have HBF : Hid (Below w.heap.size w W3) := Lib.hid (HB2.out.trans (HB3.out.mono HB2.out.size))
            obtain ⟨y0, y1, y2⟩ := hp3.x
            clear hp3 hb3 hs3
            obtain ⟨f, mm, ss, sum⟩ := p
            simp only at y0 y1 y2
            have HP1 : Hid ((mm < 1 ∨ 64 < mm ∨ ss < 1 ∨ 65536 < ss) → (z : Int) = 1) := Lib.hid fun hc => by
              have h1 : partC x (f, mm, ss, sum) = 1 := by unfold partC; rw [if_pos hc]
              rw [HEQ.out, HCB.out (by rw [h1]; decide), h1]; rfl
            by_cases k1 : mm < 1
            · have HE := Lib.hid (HP1.out (.inl k1))
              go_wp2
              go_ret
              exact ⟨by rw [HE.out]; rfl, HBF.out⟩
            by_cases k2 : mm > 64
            · have HE := Lib.hid (HP1.out (.inr (.inl k2)))
              go_wp2
              go_ret
              exact ⟨by rw [HE.out]; rfl, HBF.out⟩
            by_cases k3 : ss < 1
            · have HE := Lib.hid (HP1.out (.inr (.inr (.inl k3))))
              go_wp2
              go_ret
              exact ⟨by rw [HE.out]; rfl, HBF.out⟩
            by_cases k4 : ss > 65536
            · have HE := Lib.hid (HP1.out (.inr (.inr (.inr k4))))
              go_wp2
              go_ret
              exact ⟨by rw [HE.out]; rfl, HBF.out⟩
            by_cases k5 : f = x
            rotate_left
            · have HE : Hid ((z : Int) = 2) := Lib.hid (by
                have h1 : partC x (f, mm, ss, sum) = 2 := by unfold partC; rw [if_neg (by simp only; omega), if_pos k5]
                rw [HEQ.out, HCB.out (by rw [h1]; decide), h1]; rfl)
              have hfx : (f == x) = false := by simp [k5]
              clear k5
              go_wp2
              go_ret
              exact ⟨by rw [HE.out]; rfl, HBF.out⟩
            have HNX := Lib.hid (HCN.out (partC_good ⟨by simp only; omega, by simp only; omega, by simp only; omega, by simp only; omega, k5⟩))
            subst k5
            have hwr : wrap64 (f + mm) = f + mm := by
              have := HXB.out
              exact IntWalk.wrap64_in _ (by omega)
            have HH := Lib.hid hwr
            go_wp2
            go_roundw
            case rel => exact ⟨k + 1, _, by go_num, by first | rfl | rw [HH.out], HNX.out, HB3.out⟩
            case measure => have := HKL.out; simp [intOf]; omega
          · obtain rfl : k = n := by have := hck.kle; have := HN.out; omega
            have hck2 : CkS m m.ps.length x := by rw [HN.out] at hck; exact hck
            have HF := Lib.hid hck2.fin
            obtain ⟨_, y2, _⟩ := HXM.out wr hb
            clear hck hck2 hb
            have HBF : Hid (Below w.heap.size w wr) := Lib.hid (HB2.out.trans (HB.out.mono HB2.out.size))
            by_cases hu : x = m.upto
            · have HE : Hid ((z : Int) = 0) := Lib.hid (by rw [HEQ.out, HF.out, if_pos hu]; rfl)
              have hub : (x == m.upto) = true := by simp [hu]
              clear hu
              go_wp2
              go_ret
              exact ⟨by rw [HE.out]; rfl, HBF.out⟩
            · have HE : Hid ((z : Int) = 2) := Lib.hid (by rw [HEQ.out, HF.out, if_neg hu]; rfl)
              have hub : (x == m.upto) = false := by simp [hu]
              clear hu
              go_wp2
              go_ret
              exact ⟨by rw [HE.out]; rfl, HBF.out⟩

end Go.Proofs.YtgnalcobcdgnkaaGreatDoor
