/- Package manifest: within, isMark, checkPart, has, Check, Find. -/
import Derived.Test.YtpebmmhokigglaaAgA
import Derived.Deep.RegionHeld3
import Derived.Deep.Cut
namespace Go.Proofs.Ytpebmmhokigglaa
open Go.RowKit

/-- A struct that is stored whole into a box laid just before. -/
theorem wpList_store_new {P : Program} {ops : Array Oper} {rest : List Oper} {o : Oper} {a : Act} {Q : Exit → Act → World → Prop} (hgd : o.guard = none) (ty : TypeId) (x y : Operand) (ho : o.op = .store ty x y)
    (w0 : World) (Z row : Array Value) (hx : a.eval x = .pointer (some ⟨w0.heap.size, 0, none⟩)) (hy : a.eval y = .agg row) (T : TypeId) (hi : (P.info? ty).map (·.size) = some row.size) (hold : Z.size = row.size) (h1 : row.all (·.oneCell') = true)
    (h : ∀ W2 : World, W2.heap[w0.heap.size]? = some (.cells row T (0, 0)) → Below w0.heap.size w0 W2 → W2.heap.size = w0.heap.size + 1 → wpList P ops Q rest (a.put o.dst undef) W2) : wpList P ops Q (o :: rest) a (w0.alloc (.cells Z T)) :=
  wpList_store_row hgd ty x y ho w0.heap.size row hx hy T Z (heap_alloc_new _ _) hi hold h1
    (h _ (setRow_heap _ _ _ _ _ _ (heap_alloc_new _ _)) (((Below.refl _ _).alloc (Nat.le_refl _) _).trans ⟨rfl, rfl, rfl, by simp [World.setRow], fun k hk => setRow_other _ _ k _ (by omega)⟩) (by simp [World.setRow]))

theorem Try.sizePT : (Try.prog.info? 49).map (·.size) = some 35 := by kernel_rfl
theorem Try.sizeMF : (Try.prog.info? 27).map (·.size) = some 37 := by kernel_rfl
theorem Try.sizeDG : (Try.prog.info? 24).map (·.size) = some 32 := by kernel_rfl
theorem ptRow_size {p : PT} (h : Dg p.2.2.2) : (ptRow p).toArray.size = 35 := by rw [List.size_toArray, ptRow_len h]
theorem mfRow_size {m : MF} {v : Value} (h : Dg m.prev) : (mfRow m v).toArray.size = 37 := by rw [List.size_toArray, mfRow_len v h]
theorem all_one {l : List Value} (h : ∀ u ∈ l, u.oneCell' = true) : l.toArray.all (·.oneCell') = true := by
  rw [List.all_toArray, List.all_eq_true]; exact h

set_option maxHeartbeats 1000000 in
set_option maxRecDepth 100000 in
theorem mwithin_any (n a b : Int) (w : World) :
    Calls Try.prog 30 #[.int .i64 n, .int .i64 a, .int .i64 b] w fun e w' => e = .returned (.bool (decide (a ≤ n) && decide (n ≤ b))) ∧ w' = w := by
  by_cases h : a ≤ n
  · have H := Lib.hid h
    go_enter Try.func30, Try.ntmps30
    go_wp2
    go_ret
    exact ⟨by rw [decide_eq_true H.out, Bool.true_and]; rfl, rfl⟩
  · have H := Lib.hid h
    go_enter Try.func30, Try.ntmps30
    go_wp2
    go_ret
    exact ⟨by rw [decide_eq_false (by have := H.out; omega), Bool.false_and]; rfl, rfl⟩

/-- Whether a number may say up to where something goes. -/
def markB (x : Int) : Bool := decide (0 ≤ x) && decide (x ≤ 1048576)
theorem markB_iff {x : Int} : markB x = true ↔ ¬ outM x := by unfold markB outM; simp

set_option maxHeartbeats 1000000 in
set_option maxRecDepth 100000 in
theorem isMark_any (n : Int) (w : World) :
    Calls Try.prog 31 #[.int .i64 n] w fun e w' => e = .returned (.bool (markB n)) ∧ w' = w := by
  have HW := Lib.hid (mwithin_any n 0 1048576 w)
  go_enter Try.func31, Try.ntmps31
  go_wp2_with fail
  refine HW.out.mono ?_
  rintro e w2 ⟨rfl, rfl⟩
  go_wp2
  go_ret
  exact ⟨rfl, rfl⟩

set_option maxHeartbeats 2000000 in
set_option maxRecDepth 100000 in
theorem checkPart_any (p : PT) (x : Int) (w : World) :
    Calls Try.prog 33 #[.agg (ptRow p).toArray, .int .i64 x] w fun e w' => e = .returned (errV (partC x p)) ∧ Below w.heap.size w w' := by
  obtain ⟨W1, hW1⟩ : ∃ W1, W1 = w.alloc (.cells (ptRow p).toArray 49) := ⟨_, rfl⟩
  have hb1 : Below w.heap.size w W1 := by rw [hW1]; exact (Below.refl _ _).alloc (Nat.le_refl _) _
  have hx1 : PB W1 w.heap.size p 49 := by rw [hW1]; exact pb_new _ _ _
  obtain ⟨x0, x1, x2⟩ := hx1.x
  obtain ⟨z, hz⟩ : ∃ z, z = partC x p := ⟨_, rfl⟩
  obtain ⟨A, hA⟩ : ∃ A, A = (ptRow p).toArray := ⟨_, rfl⟩
  obtain ⟨f, mm, ss, sum⟩ := p
  simp only at x0 x1 x2
  rw [← hz, ← hA]
  rw [← hA] at hW1
  have HB1 := Lib.hid hb1
  have HW1 := Lib.hid hW1
  have HM := Lib.hid (mwithin_any mm 1 64 W1)
  have HS := Lib.hid (mwithin_any ss 1 65536 W1)
  have HX := Lib.hid (And.intro x0 (And.intro x1 x2))
  rw [hW1] at x0 x1 x2
  clear hA hb1 hx1
  by_cases g1 : 1 ≤ mm ∧ mm ≤ 64
  rotate_left
  · have hE : (decide (1 ≤ mm) && decide (mm ≤ 64)) = false := by
      rw [Bool.and_eq_false_iff, decide_eq_false_iff_not, decide_eq_false_iff_not]; omega
    rw [hE] at HM
    have HZ : Hid (errV z = .iface 76 (.int .i64 1)) := Lib.hid (by rw [hz]; unfold partC; rw [if_pos (by simp only; omega)]; exact errV_pos (by decide))
    rw [HZ.out]
    clear hE g1 hz hW1
    go_enter Try.func33, Try.ntmps33
    go_wp2_with fail
    rw [← HW1.out]
    clear x0 x1 x2
    obtain ⟨x0, x1, x2⟩ := HX.out
    refine HM.out.mono ?_
    rintro e w2 ⟨rfl, rfl⟩
    go_wp2
    go_ret
    exact ⟨rfl, HB1.out⟩
  have hE : (decide (1 ≤ mm) && decide (mm ≤ 64)) = true := by rw [decide_eq_true g1.1, decide_eq_true g1.2]; rfl
  rw [hE] at HM
  clear hE
  by_cases g2 : 1 ≤ ss ∧ ss ≤ 65536
  rotate_left
  · have hE : (decide (1 ≤ ss) && decide (ss ≤ 65536)) = false := by
      rw [Bool.and_eq_false_iff, decide_eq_false_iff_not, decide_eq_false_iff_not]; omega
    rw [hE] at HS
    have HZ : Hid (errV z = .iface 76 (.int .i64 1)) := Lib.hid (by rw [hz]; unfold partC; rw [if_pos (by simp only; omega)]; exact errV_pos (by decide))
    rw [HZ.out]
    clear hE g1 g2 hz hW1
    go_enter Try.func33, Try.ntmps33
    go_wp2_with fail
    rw [← HW1.out]
    clear x0 x1 x2
    obtain ⟨x0, x1, x2⟩ := HX.out
    refine HM.out.mono ?_
    rintro e w2 ⟨rfl, rfl⟩
    go_wp2_with fail
    refine HS.out.mono ?_
    rintro e w2 ⟨rfl, rfl⟩
    go_wp2
    go_ret
    exact ⟨rfl, HB1.out⟩
  have hE : (decide (1 ≤ ss) && decide (ss ≤ 65536)) = true := by rw [decide_eq_true g2.1, decide_eq_true g2.2]; rfl
  rw [hE] at HS
  clear hE
  have HP : Hid (z = if f ≠ x then 2 else 0) := Lib.hid (by rw [hz]; unfold partC; rw [if_neg (by simp only; omega)])
  by_cases g3 : f = x
  · have HZ : Hid (errV z = .nilIface) := Lib.hid (by rw [HP.out, if_neg (by simpa using g3)]; exact errV_zero)
    rw [HZ.out]
    clear g1 g2 hz hW1
    subst g3
    go_enter Try.func33, Try.ntmps33
    go_wp2_with fail
    rw [← HW1.out]
    clear x0 x1 x2
    obtain ⟨x0, x1, x2⟩ := HX.out
    refine HM.out.mono ?_
    rintro e w2 ⟨rfl, rfl⟩
    go_wp2_with fail
    refine HS.out.mono ?_
    rintro e w2 ⟨rfl, rfl⟩
    go_wp2
    go_ret
    exact ⟨rfl, HB1.out⟩
  · have HZ : Hid (errV z = .iface 76 (.int .i64 2)) := Lib.hid (by rw [HP.out, if_pos g3]; exact errV_pos (by decide))
    rw [HZ.out]
    clear g1 g2 hz hW1
    go_enter Try.func33, Try.ntmps33
    go_wp2_with fail
    rw [← HW1.out]
    clear x0 x1 x2
    obtain ⟨x0, x1, x2⟩ := HX.out
    refine HM.out.mono ?_
    rintro e w2 ⟨rfl, rfl⟩
    go_wp2_with fail
    refine HS.out.mono ?_
    rintro e w2 ⟨rfl, rfl⟩
    go_wp2
    go_ret
    exact ⟨rfl, HB1.out⟩

/-- Whether a part has an address, by its place. -/
def hasB (p : PT) (x : Int) : Bool := decide (0 ≤ wrap64 (x - p.1)) && decide (wrap64 (x - p.1) < p.2.1)

set_option maxHeartbeats 2000000 in
set_option maxRecDepth 100000 in
theorem phas_any (p : PT) (x : Int) (w : World) :
    Calls Try.prog 34 #[.agg (ptRow p).toArray, .int .i64 x] w fun e w' => e = .returned (.bool (hasB p x)) ∧ Below w.heap.size w w' := by
  obtain ⟨W1, hW1⟩ : ∃ W1, W1 = w.alloc (.cells (ptRow p).toArray 49) := ⟨_, rfl⟩
  have hb1 : Below w.heap.size w W1 := by rw [hW1]; exact (Below.refl _ _).alloc (Nat.le_refl _) _
  have hx1 : PB W1 w.heap.size p 49 := by rw [hW1]; exact pb_new _ _ _
  obtain ⟨x0, x1, _⟩ := hx1.x
  obtain ⟨A, hA⟩ : ∃ A, A = (ptRow p).toArray := ⟨_, rfl⟩
  unfold hasB
  obtain ⟨f, mm, ss, sum⟩ := p
  simp only at x0 x1 ⊢
  rw [← hA]
  rw [← hA] at hW1
  have HB1 := Lib.hid hb1
  rw [hW1] at x0 x1
  obtain ⟨d, hd⟩ : ∃ d, d = wrap64 (x - f) := ⟨_, rfl⟩
  have HD := Lib.hid hd
  rw [← hd]
  have HW1 := Lib.hid hW1
  clear hA hb1 hx1 hW1
  by_cases g : 0 ≤ d
  · have G := Lib.hid g
    rw [hd] at g
    clear hd
    go_enter Try.func34, Try.ntmps34
    go_wp2
    go_ret
    exact ⟨by rw [decide_eq_true G.out, Bool.true_and, HD.out]; rfl, by rw [← HW1.out]; exact HB1.out⟩
  · have G := Lib.hid g
    rw [hd] at g
    clear hd
    go_enter Try.func34, Try.ntmps34
    go_wp2
    go_ret
    exact ⟨by rw [decide_eq_false (by have := G.out; omega), Bool.false_and]; rfl, by rw [← HW1.out]; exact HB1.out⟩

end Go.Proofs.Ytpebmmhokigglaa
