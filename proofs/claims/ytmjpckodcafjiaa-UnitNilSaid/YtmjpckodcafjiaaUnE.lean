/- Calls at no unit; Tail; the chapter's example. -/
import Derived.Test.YtmjpckodcafjiaaUnD
import Derived.Test.YtmjpckodcafjiaaIsA
import Derived.Lib.SlBytesConst
namespace Go.Proofs.Ytmjpckodcafjiaa
open Go.RowKit

theorem reads_lit8 (w : World) (e : TypeId) (k : IntKind) (l : List Nat) (cs : Array Value) (fr : Nat × Nat) (hc : cs.toList = vals k l) (hm : l.length ≤ maxLen) :
    Reads (w.alloc (.cells cs e fr)) k (.slice (some ⟨w.heap.size, 0, none⟩) l.length l.length) l :=
  ⟨_, _, rfl, Nat.le_refl _, hm, by simp, .inr ⟨w.heap.size, 0, rfl, by simp, fun i hi => by
    rw [Nat.zero_add, World.cell?_alloc_mark, ← Array.getElem?_toList, hc, vals_get k l i hi]⟩⟩
abbrev nilU : Value := .pointer none
abbrev err4 : Value := .iface 46 (.int .i64 4)
set_option maxRecDepth 100000 in
theorem utakes_nil (a b c : Int) (w : World) : Calls Try.prog 77 #[nilU, .int .i64 a, .int .i64 b, .int .i64 c] w fun r w' => r = .returned err4 ∧ w' = w := by
  go_enter Try.func77, Try.ntmps77
  go_wp2
  go_ret
  exact ⟨rfl, rfl⟩
set_option maxRecDepth 100000 in
theorem useal_nil (a : Int) (w : World) : Calls Try.prog 36 #[nilU, .int .i64 a] w fun r w' => r = .returned (.tuple #[.int .i64 0, err4]) ∧ w' = w := by
  go_enter Try.func36, Try.ntmps36
  go_wp2
  go_ret2
  exact ⟨rfl, rfl⟩
set_option maxRecDepth 100000 in
theorem utailc_nil (a : Int) (w : World) : Calls Try.prog 39 #[nilU, .int .i64 a] w fun r w' => r = .returned (.tuple #[.int .i64 0, err4]) ∧ w' = w := by
  go_enter Try.func39, Try.ntmps39
  go_wp2
  go_ret2
  exact ⟨rfl, rfl⟩
set_option maxRecDepth 100000 in
theorem uwrite_nil (a b : Int) (ao : Option Addr) (n c : Nat) (w : World) : Calls Try.prog 40 #[nilU, .int .i64 a, .int .i64 b, .slice ao n c] w fun r w' => r = .returned err4 ∧ w' = w := by
  go_enter Try.func40, Try.ntmps40
  go_wp2
  go_ret
  exact ⟨rfl, rfl⟩
set_option maxRecDepth 100000 in
theorem ufill_nil (a b : Int) (w : World) : Calls Try.prog 41 #[nilU, .int .i64 a, .int .i64 b] w fun r w' => r = .returned err4 ∧ w' = w := by
  have HT := Lib.hid (fun W => utakes_nil a b 1048575 W)
  go_enter Try.func41, Try.ntmps41
  go_wp2_with fail
  refine (HT.out _).mono ?_
  rintro r w ⟨rfl, rfl⟩
  go_wp2
  go_ret
  exact ⟨rfl, rfl⟩
set_option maxRecDepth 100000 in
theorem utrim_nil (a b : Int) (w : World) : Calls Try.prog 35 #[nilU, .int .i64 a, .int .i64 b] w fun r w' => r = .returned err4 ∧ Below w.heap.size w w' := by
  have HT := Lib.hid (fun W => utakes_nil a b 1048576 W)
  obtain ⟨W1, hW1⟩ : ∃ W1, W1 = w.alloc (.cells #[nilU] 55) := ⟨_, rfl⟩
  have HB1 : Hid (Below w.heap.size w W1) := Lib.hid (by rw [hW1]; exact (Below.refl _ _).alloc (Nat.le_refl _) _)
  have HW1 := Lib.hid hW1
  clear hW1
  go_enter Try.func35, Try.ntmps35
  go_wp2_with fail
  rw [← HW1.out]
  refine (HT.out _).mono ?_
  rintro r w3 ⟨rfl, rfl⟩
  go_wp2
  go_ret
  exact ⟨rfl, HB1.out⟩
set_option maxRecDepth 100000 in
theorem ucut_nil (a b : Int) (w : World) : Calls Try.prog 38 #[nilU, .int .i64 a, .int .i64 b] w fun r w' => r = .returned (.tuple #[.int .i64 0, err4]) ∧ Below w.heap.size w w' := by
  have HT := Lib.hid (fun W => utakes_nil a b 1048576 W)
  obtain ⟨W1, hW1⟩ : ∃ W1, W1 = w.alloc (.cells #[.int .i64 b] 3) := ⟨_, rfl⟩
  have HB1 : Hid (Below w.heap.size w W1) := Lib.hid (by rw [hW1]; exact (Below.refl _ _).alloc (Nat.le_refl _) _)
  have HW1 := Lib.hid hW1
  clear hW1
  go_enter Try.func38, Try.ntmps38
  go_wp2_with fail
  rw [← HW1.out]
  refine (HT.out _).mono ?_
  rintro r w3 ⟨rfl, rfl⟩
  go_wp2
  go_ret2
  exact ⟨rfl, HB1.out⟩
set_option maxRecDepth 100000 in
theorem uread_nil (a b : Int) (w : World) : Calls Try.prog 37 #[nilU, .int .i64 a, .int .i64 b] w fun r w' => r = .returned (.tuple #[.agg #[.int .i64 0, .slice none 0 0], err4]) ∧ Below w.heap.size w w' := by
  have HT := Lib.hid (fun W => utakes_nil a b 1048575 W)
  obtain ⟨W1, hW1⟩ : ∃ W1, W1 = w.alloc (.cells #[.int .i64 0, .slice none 0 0] 77) := ⟨_, rfl⟩
  have hb1 : Below w.heap.size w W1 := by rw [hW1]; exact (Below.refl _ _).alloc (Nat.le_refl _) _
  have HB1 := Lib.hid hb1
  have hx : W1.heap[w.heap.size]? = some (.cells #[.int .i64 0, .slice none 0 0] 77 (0, 0)) := by rw [hW1]; exact heap_alloc_new _ _
  obtain ⟨b0, b1, b2, b3⟩ := blk2 hx
  have HW1 := Lib.hid hW1
  clear hW1 hb1
  go_enter Try.func37, Try.ntmps37
  go_wp2_with fail
  rw [← HW1.out]
  refine (HT.out _).mono ?_
  rintro r w3 ⟨rfl, rfl⟩
  go_wp2
  obtain ⟨q0, q1, _, _⟩ := blk2 (set2 (x := .int .i64 0) (y := .slice none 0 0) hx)
  exact bodyPost_ret (v := .tuple #[.agg #[.int .i64 0, .slice none 0 0], err4]) (by simp [results, Try.results37, go_sem, q0, q1]) rfl ⟨rfl, (HB1.out.setCell (by simp) _).setCell (by simp) _⟩
set_option maxRecDepth 100000 in
theorem uepoch_nil (w : World) : Calls Try.prog 42 #[nilU] w fun r w' => r = .returned (.int .i64 0) ∧ w' = w := by
  go_enter Try.func42, Try.ntmps42
  go_wp2
  go_ret
  exact ⟨rfl, rfl⟩
set_option maxRecDepth 100000 in
theorem ulow_nil (w : World) : Calls Try.prog 43 #[nilU] w fun r w' => r = .returned (.int .i64 0) ∧ w' = w := by
  go_enter Try.func43, Try.ntmps43
  go_wp2
  go_ret
  exact ⟨rfl, rfl⟩
set_option maxRecDepth 100000 in
theorem uentries_nil (w : World) : Calls Try.prog 33 #[nilU] w fun r w' => r = .returned (.slice none 0 0) ∧ w' = w := by
  go_enter Try.func33, Try.ntmps33
  go_wp2
  go_ret
  exact ⟨rfl, rfl⟩
set_option maxRecDepth 100000 in
theorem ucopy_nil (w : World) : Calls Try.prog 32 #[nilU] w fun r w' => r = .returned nilU ∧ w' = w := by
  go_enter Try.func32, Try.ntmps32
  go_wp2
  go_ret
  exact ⟨rfl, rfl⟩

/-! ### Tail -/
def utailc (U : US) (e : Int) : Int × Nat := if ucur U e ≠ 0 then (0, ucur U e) else (utail U, 0)
section
variable {w : World} {B : Nat → Prop} {u m : Nat} {U : US}
set_option maxRecDepth 100000 in
theorem utailc_any (h : Un w B u m U) (e : Int) : Calls Try.prog 39 #[.pointer (some ⟨u, 0, none⟩), .int .i64 e] w fun r w' => r = .returned (.tuple #[.int .i64 (utailc U e).1, errV (utailc U e).2]) ∧ Below w.heap.size w w' := by
  have HA := Lib.hid (uasked_any h e)
  have HT := Lib.hid (utail_any h)
  obtain ⟨c, hc⟩ : ∃ c, c = ucur U e := ⟨_, rfl⟩
  obtain ⟨t, ht⟩ : ∃ c, c = utail U := ⟨_, rfl⟩
  have HU : Hid (utailc U e = if c ≠ 0 then (0, c) else (t, 0)) := Lib.hid (by rw [hc, ht]; rfl)
  rw [← hc] at HA
  rw [← ht] at HT
  clear h hc ht
  go_enter Try.func39, Try.ntmps39
  go_wp2_with fail
  refine HA.out.mono ?_
  rintro r w ⟨rfl, rfl⟩
  by_cases hz : c = 0
  rotate_left
  · have HE : Hid (utailc U e = (0, c)) := Lib.hid (by rw [HU.out, if_pos hz])
    rw [errV_pos hz]
    have HZ := Lib.hid hz
    clear hz
    go_wp2
    go_ret2
    exact ⟨by rw [HE.out, errV_pos HZ.out]; rfl, Below.refl _ _⟩
  · have HE : Hid (utailc U e = (t, 0)) := Lib.hid (by rw [HU.out, if_neg (by omega)])
    rw [hz, errV_zero]
    clear hz
    go_wp2_with fail
    refine HT.out.mono ?_
    rintro r w' ⟨rfl, hb⟩
    have HB := Lib.hid hb
    clear hb
    go_wp2
    go_ret2
    exact ⟨by rw [HE.out]; rfl, HB.out⟩
end

/-! ### The chapter's example -/
def U8a : US := ⟨0, 0, [(3, (1, [97]))]⟩
theorem al8_put : uwrite unew 0 3 [97] = (U8a, 0) := by rfl
theorem al8_again : uwrite U8a 0 3 [98] = (U8a, 8) := by rfl
theorem al8_tail : utailc U8a 0 = (4, 0) := by rfl

set_option maxHeartbeats 2000000 in
set_option maxRecDepth 100000 in
theorem alive8_any (w : World) : Calls Try.prog 21 #[] w fun e w' => e = .returned (.bool true) ∧ Below w.heap.size w w' := by
  have HIS : Hid (∀ W, Calls Try.prog 16 #[.iface 46 (.int .i64 8), .int .i64 8] W fun e w' => e = .returned (.bool true) ∧ w' = W) := Lib.hid fun W => by
    have := is_any 8 W
    rw [errV_pos (by decide)] at this
    exact this.mono fun e w' h => ⟨h.1, h.2.symm⟩
  go_enter Try.func21, Try.ntmps21
  go_wp2_with fail
  refine (new_unit w).mono ?_
  rintro e w1 ⟨rfl, hu1, hb1⟩
  have HU1 := Lib.hid hu1
  have HB1 := Lib.hid hb1
  clear hu1 hb1
  obtain ⟨m, hm⟩ : ∃ m, m = w.heap.size := ⟨_, rfl⟩
  obtain ⟨u, hu⟩ : ∃ u, u = w.heap.size + 1 := ⟨_, rfl⟩
  rw [← hu, ← hm] at HU1
  rw [← hu]
  have HMU : Hid (w.heap.size ≤ m ∧ w.heap.size ≤ u) := Lib.hid (by omega)
  clear hm hu
  have hcv := fun (W : World) (C : Array Value) (n c : Nat) => Lib.run_convert_bytes_const (P := Try.prog) W 37 5 C n c Try.underlying37 Try.underlying5
  obtain ⟨W3, hW3⟩ : ∃ W3, W3 = w1.alloc (.cells #[.int .u8 97] 5 (1, 2)) := ⟨_, rfl⟩
  have hb3 : Below w1.heap.size w1 W3 := by rw [hW3]; exact (Below.refl _ _).alloc (Nat.le_refl _) _
  have hat : Reads W3 .u8 (.slice (some ⟨w1.heap.size, 0, none⟩) 1 1) [97] := by
    rw [hW3]
    exact reads_lit8 w1 5 .u8 [97] _ _ (by simp [vals]) (by simp [maxLen])
  have hcall := uwrite_any (HU1.out.old hb3) 0 (a := 3) ⟨by decide, by decide⟩ hat (by simp)
  rw [al8_put] at hcall
  have HC3 := Lib.hid hcall
  have HB3 := Lib.hid (HB1.out.trans (hb3.mono HB1.out.size))
  have HW3 := Lib.hid hW3
  clear hW3 hb3 hat hcall
  go_wp2_with fail
  rw [← HW3.out]
  refine HC3.out.mono ?_
  rintro e w4 ⟨rfl, hu4, hf4⟩
  rw [show errV ((U8a, 0) : US × Nat).2 = .nilIface from rfl]
  have HU4 : Hid (Un w4 (fun j => (fun _ => False) j ∨ W3.heap.size ≤ j) u m U8a) := Lib.hid hu4
  have HB4 := Lib.hid (HB3.out.trans ((hf4.below HB3.out.size fun j hj hS => by have := HMU.out; omega)))
  obtain ⟨W5, hW5⟩ : ∃ W5, W5 = w4.alloc (.cells #[.int .u8 98] 5 (1, 2)) := ⟨_, rfl⟩
  have hb5 : Below w4.heap.size w4 W5 := by rw [hW5]; exact (Below.refl _ _).alloc (Nat.le_refl _) _
  have hat : Reads W5 .u8 (.slice (some ⟨w4.heap.size, 0, none⟩) 1 1) [98] := by
    rw [hW5]
    exact reads_lit8 w4 5 .u8 [98] _ _ (by simp [vals]) (by simp [maxLen])
  have hcall := uwrite_any (HU4.out.old hb5) 0 (a := 3) ⟨by decide, by decide⟩ hat (by simp)
  rw [al8_again] at hcall
  have HC5 := Lib.hid hcall
  have HB5 := Lib.hid (HB4.out.trans (hb5.mono HB4.out.size))
  have HW5 := Lib.hid hW5
  clear hu4 hf4 hW5 hb5 hat hcall
  go_wp2_with fail
  rw [← HW5.out]
  refine HC5.out.mono ?_
  rintro e w6 ⟨rfl, hu6, hf6⟩
  rw [show errV ((U8a, 8) : US × Nat).2 = .iface 46 (.int .i64 8) from errV_pos (by decide)]
  have hcall := utailc_any hu6 0
  simp only [al8_tail] at hcall
  have HC6 := Lib.hid hcall
  have HB6 := Lib.hid (HB5.out.trans ((hf6.below HB5.out.size fun j hj hS => by have := HMU.out; omega)))
  clear hu6 hf6 hcall hcv
  go_wp2_with fail
  refine (HIS.out _).mono ?_
  rintro e w6 ⟨rfl, rfl⟩
  go_wp2_with fail
  refine HC6.out.mono ?_
  rintro e w7 ⟨rfl, hb7⟩
  rw [errV_zero]
  have HB7 := Lib.hid (HB6.out.trans (hb7.mono HB6.out.size))
  clear hb7
  go_wp2
  go_ret
  exact ⟨rfl, HB7.out⟩

end Go.Proofs.Ytmjpckodcafjiaa
