/- The program's words of a block. -/
import Derived.Test.YtjhipfgmiilmdaaDoorShaQ
import Derived.Test.YtjhipfgmiilmdaaDoorShaE
import Derived.Laws.Rows
import Derived.Laws.Tables
import Derived.StillTailTactics
import Derived.Deep.QuietTactic
import Derived.BigQuiet
import Derived.Outline
namespace Go.Proofs.YtjhipfgmiilmdaaDoor
open Go.RowKit

/-- The first t numbers, and noughts up to 64. -/
def fill64 (W : Nat → Nat) (t : Nat) : Array Value := ((List.range 64).map fun j => Value.int .u32 (((if j < t then W j else 0) : Nat) : Int)).toArray
theorem fill64_size (W : Nat → Nat) (t : Nat) : (fill64 W t).size = 64 := by simp [fill64]
theorem fill64_get (W : Nat → Nat) (t j : Nat) (h : j < 64) : (fill64 W t)[j]? = some (.int .u32 (((if j < t then W j else 0) : Nat) : Int)) := by
  simp [fill64, h]
theorem fill64_set (W : Nat → Nat) (t : Nat) (h : t < 64) : (fill64 W t).setIfInBounds t (.int .u32 ((W t : Nat) : Int)) = fill64 W (t + 1) := by
  apply Array.ext_getElem?
  intro j
  by_cases hj : j < 64
  · rw [Array.getElem?_setIfInBounds, fill64_get W (t + 1) j hj, fill64_get W t j hj]
    by_cases he : t = j
    · subst he
      rw [if_pos rfl, if_pos (by rw [fill64_size]; exact h), if_pos (by omega)]
    · rw [if_neg he]
      by_cases h1 : j < t
      · rw [if_pos h1, if_pos (by omega)]
      · rw [if_neg h1, if_neg (by omega)]
  · rw [Array.getElem?_eq_none (by rw [Array.size_setIfInBounds, fill64_size]; omega), Array.getElem?_eq_none (by rw [fill64_size]; omega)]

/-- Number t of a block's words. -/
def wf (b : List Nat) (t : Nat) : Nat := wordNext b 0 (words b 0 t) t
theorem words_get (b : List Nat) : ∀ t j, j < t → (words b 0 t).getD j 0 = wf b j
  | t + 1, j, h => by
    have e : words b 0 (t + 1) = words b 0 t ++ [wordNext b 0 (words b 0 t) t] := rfl
    rw [e, List.getD_eq_getElem?_getD]
    by_cases hj : j < t
    · rw [List.getElem?_append_left (by rw [words_length]; exact hj), ← List.getD_eq_getElem?_getD]
      exact words_get b t j hj
    · obtain rfl : j = t := by omega
      rw [List.getElem?_append_right (by rw [words_length]; exact Nat.le_refl _), words_length, Nat.sub_self]
      rfl
theorem fill64_all (b : List Nat) : fill64 (wf b) 64 = (vals .u32 (words b 0 64)).toArray := by
  apply Array.ext_getElem?
  intro j
  by_cases hj : j < 64
  · rw [fill64_get _ _ _ hj, List.getElem?_toArray, vals_get _ _ _ (by rw [words_length]; exact hj), words_get b 64 j hj, if_pos hj]
  · rw [Array.getElem?_eq_none (by rw [fill64_size]; omega), Array.getElem?_eq_none (by rw [List.size_toArray, vals_length, words_length]; omega)]
theorem wf_lt {b : List Nat} (h : ∀ y ∈ b, y < 256) (t : Nat) : wf b t < 4294967296 := by
  unfold wf wordNext
  split
  · exact wordAt_lt h 0 t
  · exact Nat.mod_lt _ (by decide)
theorem fill64_zero (W : Nat → Nat) : fill64 W 0 = Array.replicate 64 (.int .u32 0) := by
  simp [fill64]
  rfl

/-- The blocks of a call of words: the block, the answer, the words. -/
structure Wd (w wr : World) (b : List Nat) (t : Nat) : Prop where
  below : Below w.heap.size w wr
  size : w.heap.size + 3 ≤ wr.heap.size
  src : wr.heap[w.heap.size]? = some (.cells (vals .u8 b).toArray 67 (0, 0))
  res : wr.heap[w.heap.size + 1]? = some (.cells (Array.replicate 64 (.int .u32 0)) 69 (0, 0))
  row : wr.heap[w.heap.size + 1 + 1]? = some (.cells (fill64 (wf b) t) 69 (0, 0))

theorem Wd.byte {w wr : World} {b : List Nat} {t : Nat} (h : Wd w wr b t) (i : Nat) (hi : i < b.length) : wr.cell? ⟨w.heap.size, i, none⟩ = some (.int .u8 ((b.getD i 0 : Nat) : Int)) := by
  have := vals_get .u8 b i hi
  simpa [World.cell?, h.src] using this
theorem Wd.word {w wr : World} {b : List Nat} {t : Nat} (h : Wd w wr b t) (i : Nat) (hi : i < 64) : wr.cell? ⟨w.heap.size + 1 + 1, i, none⟩ = some (.int .u32 (((if i < t then wf b i else 0) : Nat) : Int)) := by
  have := fill64_get (wf b) t i hi
  simpa [World.cell?, h.row] using this
theorem Wd.free {w wr : World} {b : List Nat} {t : Nat} (h : Wd w wr b t) (i : Nat) : wr.frozen? ⟨w.heap.size + 1 + 1, i, none⟩ = false := by simp [World.frozen?, h.row]
theorem Wd.drew {w wr : World} {b : List Nat} {t : Nat} (h : Wd w wr b t) : Wd w wr.drew b t := ⟨h.below.drew, h.size, h.src, h.res, h.row⟩
theorem Wd.drewN {w wr : World} {b : List Nat} {t : Nat} (h : Wd w wr b t) (n : Nat) : Wd w (wr.drewN n) b t := ⟨⟨h.below.os, h.below.tape, h.below.output, h.below.size, h.below.block⟩, h.size, h.src, h.res, h.row⟩
theorem heap_setCell_row (w : World) (g i : Nat) (cs : Array Value) (t : TypeId) (v : Value) (hg : w.heap[g]? = some (.cells cs t (0, 0))) : (w.setCell ⟨g, i, none⟩ v).heap[g]? = some (.cells (cs.setIfInBounds i v) t (0, 0)) := by
  rw [setCell_eq_setRow w g i cs t (0, 0) v hg]
  exact setRow_heap w g cs _ t (0, 0) hg
theorem Wd.set {w wr : World} {b : List Nat} {t : Nat} (h : Wd w wr b t) (ht : t < 64) {x : Int} (hx : x = ((wf b t : Nat) : Int)) : Wd w (wr.setCell ⟨w.heap.size + 1 + 1, t, none⟩ (.int .u32 x)) b (t + 1) := by
  subst hx
  refine ⟨h.below.setCell (by show w.heap.size ≤ w.heap.size + 1 + 1; omega) _, by have := h.size; simpa [World.setCell] using this, ?_, ?_, ?_⟩
  · rw [Below.heap_setCell _ _ _ _ (by show w.heap.size ≠ w.heap.size + 1 + 1; omega)]; exact h.src
  · rw [Below.heap_setCell _ _ _ _ (by show w.heap.size + 1 ≠ w.heap.size + 1 + 1; omega)]; exact h.res
  · rw [heap_setCell_row _ _ _ _ _ _ h.row, fill64_set _ _ ht]

theorem Wd.new (w : World) (b : List Nat) : Wd w (((w.alloc (.cells (vals .u8 b).toArray 67)).alloc (.cells (Array.replicate 64 (.int .u32 0)) 69)).alloc (.cells (Array.replicate 64 (.int .u32 0)) 69)) b 0 := by
  have h1 := heap_alloc_new w (.cells (vals .u8 b).toArray 67)
  generalize hw1 : w.alloc (.cells (vals .u8 b).toArray 67) = w1 at h1 ⊢
  have s1 : w1.heap.size = w.heap.size + 1 := by rw [← hw1]; simp
  have b1 : Below w.heap.size w w1 := by rw [← hw1]; exact (Below.refl _ _).alloc (Nat.le_refl _) _
  have h2 := heap_alloc_new w1 (.cells (Array.replicate 64 (.int .u32 0)) 69)
  generalize hw2 : w1.alloc (.cells (Array.replicate 64 (.int .u32 0)) 69) = w2 at h2 ⊢
  have s2 : w2.heap.size = w.heap.size + 1 + 1 := by rw [← hw2]; simp [s1]
  have k1 : w2.heap[w.heap.size]? = some (.cells (vals .u8 b).toArray 67 (0, 0)) := by rw [← hw2, Below.heap_alloc _ _ _ (by omega)]; exact h1
  have b2 : Below w.heap.size w w2 := by rw [← hw2]; exact b1.alloc (by omega) _
  have h3 := heap_alloc_new w2 (.cells (Array.replicate 64 (.int .u32 0)) 69)
  rw [s1] at h2
  rw [s2] at h3
  refine ⟨b2.alloc (by omega) _, by simp; omega, ?_, ?_, ?_⟩
  · rw [Below.heap_alloc _ _ _ (by omega)]; exact k1
  · rw [Below.heap_alloc _ _ _ (by omega)]; exact h2
  · rw [fill64_zero]; exact h3

theorem or_sum (a b : Nat) (k : Nat) (hb : b < 2 ^ k) : a * 2 ^ k ||| b = a * 2 ^ k + b := by
  rw [Nat.mul_comm, Nat.two_pow_add_eq_or_of_lt hb]

set_option maxHeartbeats 2000000 in
set_option maxRecDepth 100000 in
theorem words_any (b : List Nat) (w : World) (hb : ∀ y ∈ b, y < 256) (hl : b.length = 64) :
    Calls Tryd.prog 29 #[.agg (vals .u8 b).toArray] w fun e w' => e = .returned (.agg (vals .u32 (words b 0 64)).toArray) ∧ Below w.heap.size w w' := by
  go_enter Tryd.func29, Tryd.ntmps29
  go_wp2
  have hz := Wd.new w b
  rw [show (Array.replicate 64 (Value.int .u32 0)) = _ from rfl] at hz
  go_loopw [9] (fun iv wr => ∃ t : Nat, t ≤ 16 ∧ iv = .int .i64 (t : Int) ∧ Wd w wr b t) (fun iv _ => 16 - (intOf iv).toNat)
  case atStart => exact ⟨0, Nat.zero_le _, rfl, hz⟩
  case round =>
    clear hz
    obtain ⟨t, ht, rfl, hd⟩ := hrel
    have HD := Lib.hid hd
    by_cases hlt : t < 16
    · have hlti : (t : Int) < 16 := by omega
      obtain ⟨q, hq⟩ : ∃ q, q = 4 * t := ⟨_, rfl⟩
      have HQ : Hid ((t : Int) * 4 = (q : Int)) := Lib.hid (by omega)
      have d0 := hd.byte q (by omega)
      have d1 := hd.byte (q + 1) (by omega)
      have d2 := hd.byte (q + 2) (by omega)
      have d3 := hd.byte (q + 3) (by omega)
      have b0 := getD_lt hb (by decide) q
      have b1 := getD_lt hb (by decide) (q + 1)
      have b2 := getD_lt hb (by decide) (q + 2)
      have b3 := getD_lt hb (by decide) (q + 3)
      have hfz := hd.free t
      have hcl := hd.word t (by omega)
      rw [if_neg (by omega)] at hcl
      have hw0 : Hid (wf b t = b.getD q 0 * 16777216 + b.getD (q + 1) 0 * 65536 + b.getD (q + 2) 0 * 256 + b.getD (q + 3) 0) := Lib.hid (by unfold wf wordNext; rw [if_pos hlt, hq]; unfold wordAt; simp only [Nat.zero_add])
      have i0 : (q : Int) < 64 := by omega
      have i1 : (q : Int) + 1 < 64 := by omega
      have i2 : (q : Int) + 2 < 64 := by omega
      have i3 : (q : Int) + 3 < 64 := by omega
      have j0 : (0 : Int) ≤ (q : Int) := by omega
      have j1 : (0 : Int) ≤ (q : Int) + 1 := by omega
      have j2 : (0 : Int) ≤ (q : Int) + 2 := by omega
      have j3 : (0 : Int) ≤ (q : Int) + 3 := by omega
      have t0 : (0 : Int) ≤ (t : Int) := by omega
      have t64 : (t : Int) < 64 := by omega
      have w1 : IntKind.i64.wrap ((q : Int) + 1) = (q : Int) + 1 := IntWalk.i64_in _ (by omega)
      have w2 : IntKind.i64.wrap ((q : Int) + 2) = (q : Int) + 2 := IntWalk.i64_in _ (by omega)
      have w3 : IntKind.i64.wrap ((q : Int) + 3) = (q : Int) + 3 := IntWalk.i64_in _ (by omega)
      have n1 : ((q : Int) + 1).toNat = q + 1 := by omega
      have n2 : ((q : Int) + 2).toNat = q + 2 := by omega
      have n3 : ((q : Int) + 3).toNat = q + 3 := by omega
      generalize b.getD q 0 = x0 at d0 b0 hw0
      generalize b.getD (q + 1) 0 = x1 at d1 b1 hw0
      generalize b.getD (q + 2) 0 = x2 at d2 b2 hw0
      generalize b.getD (q + 3) 0 = x3 at d3 b3 hw0
      have HV : Hid (bits .or .u32 (bits .or .u32 (bits .or .u32 ((x0 : Int) * 16777216) ((x1 : Int) * 65536)) ((x2 : Int) * 256)) (x3 : Int) = ((wf b t : Nat) : Int)) := Lib.hid (by
        rw [hw0.out]
        have c1 : (x0 : Int) * 16777216 = ((x0 * 16777216 : Nat) : Int) := by omega
        have c2 : (x1 : Int) * 65536 = ((x1 * 65536 : Nat) : Int) := by omega
        have c3 : (x2 : Int) * 256 = ((x2 * 256 : Nat) : Int) := by omega
        rw [c1, c2, c3, u32_or_nat _ _ (by omega) (by omega), show x0 * 16777216 ||| x1 * 65536 = x0 * 16777216 + x1 * 65536 from or_sum x0 (x1 * 65536) 24 (by omega)]
        rw [u32_or_nat _ _ (by omega) (by omega), show x0 * 16777216 + x1 * 65536 ||| x2 * 256 = x0 * 16777216 + x1 * 65536 + x2 * 256 from by
          have := or_sum (x0 * 256 + x1) (x2 * 256) 16 (by omega)
          rw [show (x0 * 256 + x1) * 2 ^ 16 = x0 * 16777216 + x1 * 65536 from by omega] at this
          exact this]
        rw [u32_or_nat _ _ (by omega) (by omega), show x0 * 16777216 + x1 * 65536 + x2 * 256 ||| x3 = x0 * 16777216 + x1 * 65536 + x2 * 256 + x3 from by
          have := or_sum (x0 * 65536 + x1 * 256 + x2) x3 8 (by omega)
          rw [show (x0 * 65536 + x1 * 256 + x2) * 2 ^ 8 = x0 * 16777216 + x1 * 65536 + x2 * 256 from by omega] at this
          exact this])
      clear hd hq
      go_wp2_with fail
      rw [HQ.out]
      go_still_tail 27, (by kernel_rfl)
      go_wp2
      go_roundw
      case rel =>
        exact ⟨t + 1, by omega, by go_num, (HD.out.set (by omega) HV.out).drew⟩
      case measure => simp [intOf]; omega
    · have hti : (t : Int) = 16 := by omega
      have h16 : t = 16 := by omega
      have h0 := HD.out
      rw [h16] at h0
      rw [hti]
      clear hti h16 ht
      generalize wr = w0 at h0 ⊢
      clear hlt hd HD
      go_wp2
      go_loopw [6] (fun iv wr => ∃ t : Nat, 16 ≤ t ∧ t ≤ 64 ∧ iv = .int .i64 (t : Int) ∧ Wd w wr b t) (fun iv _ => 64 - (intOf iv).toNat)
      case atStart => exact ⟨16, by omega, by omega, rfl, h0⟩
      case round =>
        clear h0
        obtain ⟨t, ht16, ht, rfl, hd⟩ := hrel
        have HD := Lib.hid hd
        by_cases hlt : t < 64
        · have hlti : (t : Int) < 64 := by omega
          have d15 := hd.word (t - 15) (by omega)
          have d2 := hd.word (t - 2) (by omega)
          have d16 := hd.word (t - 16) (by omega)
          have d7 := hd.word (t - 7) (by omega)
          rw [if_pos (by omega)] at d15 d2 d16 d7
          have hfz := hd.free t
          have hcl := hd.word t (by omega)
          rw [if_neg (by omega)] at hcl
          have t0 : (0 : Int) ≤ (t : Int) := by omega
          have i15 : (t : Int) - 15 < 64 := by omega
          have i2 : (t : Int) - 2 < 64 := by omega
          have i16 : (t : Int) - 16 < 64 := by omega
          have i7 : (t : Int) - 7 < 64 := by omega
          have j15 : (0 : Int) ≤ (t : Int) - 15 := by omega
          have j2 : (0 : Int) ≤ (t : Int) - 2 := by omega
          have j16 : (0 : Int) ≤ (t : Int) - 16 := by omega
          have j7 : (0 : Int) ≤ (t : Int) - 7 := by omega
          have n15 : ((t : Int) - 15).toNat = t - 15 := by omega
          have n2 : ((t : Int) - 2).toNat = t - 2 := by omega
          have n16 : ((t : Int) - 16).toNat = t - 16 := by omega
          have n7 : ((t : Int) - 7).toNat = t - 7 := by omega
          have k7 : (7 : Int) ≤ (t : Int) := by omega
          have k15 : (15 : Int) ≤ (t : Int) := by omega
          have k2 : (2 : Int) ≤ (t : Int) := by omega
          have k16 : (16 : Int) ≤ (t : Int) := by omega
          have m16 : IntKind.i64.wrap ((t : Int) - 16) = (t : Int) - 16 := IntWalk.i64_in _ (by omega)
          have m7 : IntKind.i64.wrap ((t : Int) - 7) = (t : Int) - 7 := IntWalk.i64_in _ (by omega)
          have m15 : IntKind.i64.wrap ((t : Int) - 15) = (t : Int) - 15 := IntWalk.i64_in _ (by omega)
          have m2 : IntKind.i64.wrap ((t : Int) - 2) = (t : Int) - 2 := IntWalk.i64_in _ (by omega)
          have h15 := wf_lt hb (t - 15)
          have h2 := wf_lt hb (t - 2)
          have h16 := wf_lt hb (t - 16)
          have h7 := wf_lt hb (t - 7)
          have HWN : Hid (wf b t = (wf b (t - 16) + wf b (t - 7) + sig0 (wf b (t - 15)) + sig1 (wf b (t - 2))) % 4294967296) := Lib.hid (by
            rw [← words_get b t (t - 16) (by omega), ← words_get b t (t - 7) (by omega), ← words_get b t (t - 15) (by omega), ← words_get b t (t - 2) (by omega)]
            unfold wf wordNext; rw [if_neg (by omega)]; rfl)
          generalize wf b (t - 15) = x15 at d15 h15 HWN
          generalize wf b (t - 2) = x2 at d2 h2 HWN
          generalize wf b (t - 16) = x16 at d16 h16 HWN
          generalize wf b (t - 7) = x7 at d7 h7 HWN
          have e1 := u32_xor_nat (rot x15 7) (rot x15 18) (rot_lt h15) (rot_lt h15)
          have q1 : (x15 : Int) / 8 = ((x15 / 8 : Nat) : Int) := by omega
          have e2 : bits .xor .u32 ((rot x15 7 ^^^ rot x15 18 : Nat) : Int) ((x15 : Int) / 8) = ((sig0 x15 : Nat) : Int) := by rw [q1]; exact u32_xor_nat _ _ (Nat.xor_lt_two_pow (n := 32) (rot_lt h15) (rot_lt h15)) (by omega)
          have e3 := u32_xor_nat (rot x2 17) (rot x2 19) (rot_lt h2) (rot_lt h2)
          have q2 : (x2 : Int) / 1024 = ((x2 / 1024 : Nat) : Int) := by omega
          have e4 : bits .xor .u32 ((rot x2 17 ^^^ rot x2 19 : Nat) : Int) ((x2 : Int) / 1024) = ((sig1 x2 : Nat) : Int) := by rw [q2]; exact u32_xor_nat _ _ (Nat.xor_lt_two_pow (n := 32) (rot_lt h2) (rot_lt h2)) (by omega)
          have t1 := fun w => pturn_lit x15 7 7 rfl w h15 (by decide) (by decide)
          have t2 := fun w => pturn_lit x15 18 18 rfl w h15 (by decide) (by decide)
          have t3 := fun w => pturn_lit x2 17 17 rfl w h2 (by decide) (by decide)
          have t4 := fun w => pturn_lit x2 19 19 rfl w h2 (by decide) (by decide)
          clear q1 q2
          generalize sig0 x15 = g0 at e2 HWN
          generalize sig1 x2 = g1 at e4 HWN
          generalize rot x15 7 ^^^ rot x15 18 = z1 at e1 e2
          generalize rot x2 17 ^^^ rot x2 19 = z2 at e3 e4
          generalize rot x15 7 = y1 at e1 t1
          generalize rot x15 18 = y2 at e1 t2
          generalize rot x2 17 = y3 at e3 t3
          generalize rot x2 19 = y4 at e3 t4
          have T1 := Lib.hid t1
          have T2 := Lib.hid t2
          have T3 := Lib.hid t3
          have T4 := Lib.hid t4
          have D16 := Lib.hid d16
          have D7 := Lib.hid d7
          have HCL := Lib.hid hcl
          have HFZ := Lib.hid hfz
          clear hd t1 t2 t3 t4 d16 d7 hcl hfz
          go_wp2_with fail
          go_quiet (fail)
          go_wp2_with fail
          refine (T1.out _).mono ?_
          rintro e w' ⟨rfl, rfl⟩
          go_wp2_with fail
          refine (T2.out _).mono ?_
          rintro e w' ⟨rfl, rfl⟩
          go_wp2_with fail
          refine (T3.out _).mono ?_
          rintro e w' ⟨rfl, rfl⟩
          go_wp2_with fail
          refine (T4.out _).mono ?_
          rintro e w' ⟨rfl, rfl⟩
          go_wp2_with fail
          have s16 : (wr.drewN nq).cell? ⟨w.heap.size + 1 + 1, t - 16, none⟩ = _ := D16.out
          have s7 : (wr.drewN nq).cell? ⟨w.heap.size + 1 + 1, t - 7, none⟩ = _ := D7.out
          have sc : (wr.drewN nq).cell? ⟨w.heap.size + 1 + 1, t, none⟩ = _ := HCL.out
          have sf : (wr.drewN nq).frozen? ⟨w.heap.size + 1 + 1, t, none⟩ = _ := HFZ.out
          have HD5 := Lib.hid (HD.out.drewN nq)
          generalize wr.drewN nq = w5 at s16 s7 sc sf HD5 ⊢
          clear HD D16 D7 HCL HFZ e1 e2 e3 e4
          go_still_tail 15, (by kernel_rfl)
          go_wp2
          go_roundw
          case rel =>
            exact ⟨t + 1, by omega, by omega, by go_num, (HD5.out.set (by omega) (by rw [HWN.out]; (try simp only [IntKind.wrap_u32]); omega)).drew⟩
          case measure => simp [intOf]; omega
        · obtain rfl : t = 64 := by omega
          have hW : fill64 (wf b) 64 = (vals .u32 (words b 0 64)).toArray := fill64_all b
          have hrow : wr.heap[w.heap.size + 1 + 1]? = some (.cells (vals .u32 (words b 0 64)).toArray 69 (0, 0)) := by rw [← hW]; exact hd.row
          have hres := hd.res
          have hbel := hd.below
          have hsz := hd.size
          have hA : (vals .u32 (words b 0 64)).toArray.size = 64 := by rw [List.size_toArray, vals_length, words_length]
          have hAs : (Tryd.prog.info? 69).map (·.size) = some (vals .u32 (words b 0 64)).toArray.size := by rw [hA]; kernel_rfl
          have hA1 : (vals .u32 (words b 0 64)).toArray.all (·.oneCell') = true := by
            rw [Array.all_eq_true_iff_forall_mem]
            intro u hu
            exact vals_oneCell _ _ u (by simpa using hu)
          have hAz : (Array.replicate 64 (Value.int .u32 0)).size = (vals .u32 (words b 0 64)).toArray.size := by rw [hA]; exact Array.size_replicate
          generalize hAe : (vals .u32 (words b 0 64)).toArray = A at hrow hAs hA1 hAz
          have HAE := Lib.hid hAe; clear hAe
          have HR := Lib.hid hrow
          have HS := Lib.hid hres
          have HB := Lib.hid hbel
          clear hd HD hrow hres hbel hW hA
          go_wp2_with (first
            | ((with_reducible show wpList _ _ _ (Oper.mk (some 85) _ _ _ _ _ :: _) _ _); refine wpList_load_row rfl 69 (.tmp 3) rfl (w.heap.size + 1 + 1) rfl _ A _ _ HR.out Tryd.underlying69 rfl hAs ?_)
            | ((with_reducible show wpList _ _ _ (Oper.mk none _ _ _ _ _ :: _) _ _); refine wpList_store_row rfl 69 (.tmp 2) (.tmp 85) rfl (w.heap.size + 1) A rfl rfl _ _ HS.out hAs hAz hA1 ?_))
          refine bodyPost_ret (results_cell_row rfl _ _ (w.heap.size + 1) _ A _ _ rfl (setRow_heap _ _ _ _ _ _ HS.out) Tryd.underlying69 rfl hAs) rfl ?_
          exact ⟨by rw [HAE.out], HB.out.trans ⟨rfl, rfl, rfl, by simp [World.setRow], fun k hk => setRow_other _ _ k _ (by omega)⟩⟩

end Go.Proofs.YtjhipfgmiilmdaaDoor
