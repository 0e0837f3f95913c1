/- Package segment: Slice. -/
import Derived.Test.YtojndpelilolkaaSgH
namespace Go.Proofs.Ytojndpelilolkaa
open Go.RowKit

/-- A segment's part: the first address, the cells, an error's number. -/
def sgS (f : Int) (cs : List IC) (lo hi : Int) : Int × List IC × Nat :=
  if sgC f cs ≠ 0 then (0, [], sgC f cs) else if lo < f ∨ hi > f + (cs.length : Int) ∨ lo > hi then (0, [], 1) else (lo, (cs.drop (lo - f).toNat).take (hi - lo).toNat, 0)
theorem CellsAt.head {w : World} {B : Nat → Prop} {ao : Option Addr} {n cap m : Nat} {cs : List IC} (h : CellsAt w B (.slice ao n cap) cs) (hm : m ≤ cs.length) : CellsAt w B (.slice ao m cap) (cs.take m) := by
  obtain ⟨ao', cap', hv, h1, h2, h3, h4⟩ := h
  obtain ⟨rfl, rfl, rfl⟩ : ao = ao' ∧ n = cs.length ∧ cap = cap' := by simpa using hv
  have hl : (cs.take m).length = m := by rw [List.length_take]; omega
  refine ⟨ao, cap, by rw [hl], by omega, h2, h3, ?_⟩
  by_cases h0 : m = 0
  · left; subst h0; rfl
  rcases h4 with h4 | ⟨b, off, ha, hb, hB, hc⟩
  · left; rw [h4, List.take_nil]
  · right
    refine ⟨b, off, ha, hb, hB, fun i hi => ?_⟩
    have e : (cs.take m).getD i (0, []) = cs.getD i (0, []) := by
      rw [List.getD_eq_getElem?_getD, List.getElem?_take, if_pos (by omega), ← List.getD_eq_getElem?_getD]
    rw [e]
    exact hc i (by omega)
theorem slice_midS (w : World) (a : Option Addr) (n c m h : Nat) (hm : m ≤ h) (hc : h ≤ c) : (Instr.slice 22 (.slice a n c) (some (.int .i64 (m : Int))) (some (.int .i64 (h : Int))) none).run Try.prog w = .ok (.slice (if c = m then a else a.map fun x => x.add (m * 2)) (h - m) (c - m)) w := by
  rw [run_slice_lh w 22 a n c (by kernel_rfl) .i64 .i64 (m : Int) (h : Int) (by omega) (by omega) (by omega)]
  have hs : (sizeOf (Try.prog.elem 22)).run Try.prog w = .ok 2 w := by kernel_rfl
  rw [hs]
  simp only [Result.andThen, sliced, Int.toNat_natCast]

set_option maxHeartbeats 4000000 in
set_option maxRecDepth 100000 in
theorem sgslice_any (f lo hi : Int) (v : Value) (cs : List IC) (w : World) (B : Nat → Prop) (h : CellsAt w B v cs) :
    Calls Try.prog 23 #[.agg #[.int .i64 f, v], .int .i64 lo, .int .i64 hi] w (SgRes (sgS f cs lo hi) w) := by
  obtain ⟨ao, cap, rfl, l1, _, _⟩ := h.val
  obtain ⟨W1, hW1⟩ : ∃ W1, W1 = (w.alloc (.cells #[.int .i64 f, .slice ao cs.length cap] 24)).alloc (.cells #[.int .i64 0, .slice none 0 0] 24) := ⟨_, rfl⟩
  have hb1 : Below w.heap.size w W1 := by rw [hW1]; exact ((Below.refl _ _).alloc (Nat.le_refl _) _).alloc (by simp) _
  have hx1 : SgB W1 w.heap.size (.int .i64 f) (.slice ao cs.length cap) := by rw [hW1]; exact (sgb_new _ _ _).old ((Below.refl _ _).alloc (Nat.le_refl _) _)
  have hz1 : SgB W1 (w.heap.size + 1) (.int .i64 0) (.slice none 0 0) := by
    have := sgb_new (w.alloc (.cells #[.int .i64 f, .slice ao cs.length cap] 24)) (.int .i64 0) (.slice none 0 0)
    rw [hW1]; simpa using this
  have HX1 := Lib.hid hx1
  have HZ1 := Lib.hid hz1
  have HB1 := Lib.hid hb1
  have HR1 := Lib.hid (h.old hb1)
  have HCA := Lib.hid (sgcheck_any f _ cs W1 B (h.old hb1))
  obtain ⟨n, hn⟩ : ∃ n, n = cs.length := ⟨_, rfl⟩
  rw [← hn] at HX1 HR1 HCA hW1 l1 ⊢
  have HN := Lib.hid hn
  have HW1 := Lib.hid hW1
  have HCAP := Lib.hid l1
  obtain ⟨ca, hca⟩ : ∃ c, c = sgC f cs := ⟨_, rfl⟩
  rw [← hca] at HCA
  have HCA2 := Lib.hid hca
  have HX : Hid (∀ W, Below W1.heap.size W1 W → (W.cell? ⟨w.heap.size, 0, none⟩ = some (.int .i64 f) ∧ W.cell? ⟨w.heap.size, 1, none⟩ = some (.slice ao n cap)) ∧
      W.cell? ⟨w.heap.size + 1, 0, none⟩ = some (.int .i64 0) ∧ W.cell? ⟨w.heap.size + 1, 1, none⟩ = some (.slice none 0 0) ∧ W.frozen? ⟨w.heap.size + 1, 0, none⟩ = false ∧ W.frozen? ⟨w.heap.size + 1, 1, none⟩ = false) := Lib.hid fun W hb => by
    obtain ⟨p0, p1, _, _⟩ := (HX1.out.old hb).x
    exact ⟨⟨p0, p1⟩, (HZ1.out.old hb).x⟩
  have HBAD : Hid (∀ (c : Nat) W, sgS f cs lo hi = (0, [], c) → Below W1.heap.size W1 W → SgRes (sgS f cs lo hi) w (.returned (.tuple #[.agg #[.int .i64 0, .slice none 0 0], errV c])) ((W.setCell ⟨w.heap.size + 1, 0, none⟩ (.int .i64 0)).setCell ⟨w.heap.size + 1, 1, none⟩ (.slice none 0 0))) := Lib.hid fun c W he hb => by
    rw [he]
    refine ⟨((HB1.out.trans (hb.mono HB1.out.size)).setCell ?_ _).setCell ?_ _, _, rfl, cells_nil _ _⟩
    · show w.heap.size ≤ w.heap.size + 1; omega
    · show w.heap.size ≤ w.heap.size + 1; omega
  clear h hb1 hx1 hz1 hn hW1 hca l1
  go_enter Try.func23, Try.ntmps23
  go_wp2_with fail
  rw [← HW1.out]
  refine HCA.out.mono ?_
  rintro e w2 ⟨rfl, hb2⟩
  have HB2 := Lib.hid hb2
  obtain ⟨⟨x0, x1⟩, z0, z1, f0, f1⟩ := HX.out w2 hb2
  clear hb2
  by_cases g1 : ca = 0
  rotate_left
  · have HE : Hid (sgS f cs lo hi = (0, [], ca)) := Lib.hid (by unfold sgS; rw [if_pos (by rw [← HCA2.out]; exact g1), HCA2.out])
    have he := errV_pos g1
    rw [he]
    clear g1
    go_wp2
    refine bodyPost_ret (v := .tuple #[.agg #[.int .i64 0, .slice none 0 0], .iface 70 (.int .i64 (ca : Int))]) (by simp [results, Try.results23, go_sem, z0, z1]) rfl ?_
    have := HBAD.out ca w2 HE.out HB2.out
    rw [he] at this
    exact this
  have HA0 : Hid (sgC f cs = 0) := Lib.hid (by rw [← HCA2.out, g1])
  obtain ⟨a0, a1, a2, a3⟩ := sgC_zero HA0.out
  rw [← HN.out] at a1 a2
  have HLE : Hid (0 ≤ f ∧ f + (n : Int) ≤ 1048576 ∧ n ≤ 64) := Lib.hid ⟨a0, a1, a2⟩
  have HEN := Lib.hid (fun W => sgend_any f ao n cap W)
  have hwr : wrap64 (f + (n : Int)) = f + (n : Int) := w64_in (by omega) (by omega)
  rw [hwr] at HEN
  obtain ⟨m, hm⟩ : ∃ m, m = f + (n : Int) := ⟨_, rfl⟩
  rw [← hm] at HEN
  have HM := Lib.hid hm
  have HG1 := Lib.hid g1
  rw [g1, errV_zero]
  have HRANGE : Hid (lo < f ∨ hi > m ∨ lo > hi → sgS f cs lo hi = (0, [], 1)) := Lib.hid fun h => by
    unfold sgS; rw [if_neg (by rw [HA0.out]; decide), if_pos (by rw [← HN.out, ← HM.out]; exact h)]
  clear g1 a0 a1 a2 a3 hwr hm
  by_cases g2 : lo < f
  · have HE := Lib.hid (HRANGE.out (.inl g2))
    go_wp2
    refine bodyPost_ret (v := .tuple #[.agg #[.int .i64 0, .slice none 0 0], .iface 70 (.int .i64 1)]) (by simp [results, Try.results23, go_sem, z0, z1]) rfl ?_
    exact HBAD.out 1 w2 HE.out HB2.out
  go_wp2_with fail
  refine (HEN.out _).mono ?_
  rintro r w3 ⟨rfl, hb3⟩
  have HB3 := Lib.hid (HB2.out.trans (hb3.mono HB2.out.size))
  clear hb3 x0 x1 z0 z1 f0 f1
  obtain ⟨⟨x0, x1⟩, z0, z1, f0, f1⟩ := HX.out w3 HB3.out
  by_cases g3 : hi > m
  · have HE := Lib.hid (HRANGE.out (.inr (.inl g3)))
    go_wp2
    refine bodyPost_ret (v := .tuple #[.agg #[.int .i64 0, .slice none 0 0], .iface 70 (.int .i64 1)]) (by simp [results, Try.results23, go_sem, z0, z1]) rfl ?_
    exact HBAD.out 1 w3 HE.out HB3.out
  by_cases g4 : lo > hi
  · have HE := Lib.hid (HRANGE.out (.inr (.inr g4)))
    go_wp2
    refine bodyPost_ret (v := .tuple #[.agg #[.int .i64 0, .slice none 0 0], .iface 70 (.int .i64 1)]) (by simp [results, Try.results23, go_sem, z0, z1]) rfl ?_
    exact HBAD.out 1 w3 HE.out HB3.out
  obtain ⟨q0, q1, q2⟩ := HLE.out
  have q3 := HM.out
  obtain ⟨k, hk⟩ : ∃ k : Nat, lo - f = (k : Int) := ⟨(lo - f).toNat, by omega⟩
  obtain ⟨j, hj⟩ : ∃ j : Nat, hi - f = (j : Int) := ⟨(hi - f).toNat, by omega⟩
  have hkj : k ≤ j := by omega
  have hjn : j ≤ n := by omega
  have hjc : j ≤ cap := by have := HCAP.out; omega
  have hw1 : wrap64 (lo - f) = (k : Int) := by rw [w64_in (by omega) (by omega), hk]
  have hw2 : wrap64 (hi - f) = (j : Int) := by rw [w64_in (by omega) (by omega), hj]
  have HE : Hid (sgS f cs lo hi = (lo, (cs.drop k).take (j - k), 0)) := Lib.hid (by
    unfold sgS
    rw [if_neg (by rw [HA0.out]; decide), if_neg (by rw [← HN.out, ← HM.out]; omega), show (lo - f).toNat = k by omega, show (hi - lo).toNat = j - k by omega])
  have hsl := fun W => slice_midS W ao n cap k j hkj hjc
  have hrt := (HR1.out.tail (m := k) (by rw [← HN.out]; omega)).head (m := j - k) (by rw [List.length_drop, ← HN.out]; omega)
  generalize (if cap = k then ao else ao.map fun x => x.add (k * 2)) = A at hsl hrt
  have HRT := Lib.hid hrt
  have hdl : ∀ c ∈ (cs.drop k).take (j - k), c.2.length ≤ 100 := fun c hc => sgC_short HA0.out c (List.mem_of_mem_drop (List.mem_of_mem_take hc))
  have hll : ((cs.drop k).take (j - k)).length = j - k := by rw [List.length_take, List.length_drop, ← HN.out]; omega
  have HCP := Lib.hid (sgcopy_any lo _ ((cs.drop k).take (j - k)) w3 B (HRT.out.old HB3.out) (by omega) hdl)
  obtain ⟨d, hd⟩ : ∃ d, d = j - k := ⟨_, rfl⟩
  have HLL : Hid (((cs.drop k).take (j - k)).length = d) := Lib.hid (by rw [hd]; exact hll)
  simp only [← hd] at hsl
  rw [← hd] at HCP HE HLL
  generalize hcl : (cs.drop k).take d = ds at HCP HE HLL
  clear hk hj hrt hdl hll q0 q1 q2 q3 hd hcl
  go_wp2_with fail
  refine HCP.out.mono ?_
  rintro e w6 ⟨v6, rfl, ho6, hb6⟩
  obtain ⟨ao6, cap6, rfl⟩ := ho6.form
  rw [HLL.out] at ho6 ⊢
  have HO6 := Lib.hid ho6
  have HB6 : Hid (Below W1.heap.size W1 w6) := Lib.hid (HB3.out.trans (hb6.mono HB3.out.size))
  have HSZ : Hid (w.heap.size + 1 < w3.heap.size) := Lib.hid (HZ1.out.old HB3.out).lt
  clear ho6 hb6 x0 x1 z0 z1 f0 f1
  obtain ⟨⟨x0, x1⟩, z0, z1, f0, f1⟩ := HX.out w6 HB6.out
  go_wp2
  refine bodyPost_ret (v := .tuple #[.agg #[.int .i64 lo, .slice ao6 d cap6], .nilIface]) (by simp [results, Try.results23, go_sem, z0, z1]) rfl ?_
  rw [HE.out]
  refine ⟨((HB1.out.trans (HB6.out.mono HB1.out.size)).setCell ?_ _).setCell ?_ _, _, rfl, ?_⟩
  · show w.heap.size ≤ w.heap.size + 1; omega
  · show w.heap.size ≤ w.heap.size + 1; omega
  · exact (((HO6.out.set HSZ.out _ _).set HSZ.out _ _).mono (by have := HSZ.out; omega)).cells

end Go.Proofs.Ytojndpelilolkaa
