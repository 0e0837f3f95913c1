/- The fixed fact at the head of the disk statements: the chapter's example. -/
import Derived.Test.YtjgdbhmogdaggaaDskQ
import Derived.Test.YtjgdbhmogdaggaaIsA
import Derived.Lib.SlBytesConst
namespace Go.Proofs.Ytjgdbhmogdaggaa
open Go.RowKit

theorem alive_write : (dwrite (dnew 100) [97] [120]).2 = 0 := by decide
theorem alive_read : dread (dstart (dcut (dwrite (dnew 100) [97] [120]).1 [true])) [97] = ([120], 0) := by decide
theorem alive_sz : (dwrite (dnew 100) [97] [120]).1.sz < 1099511627776 := by decide

/-- A row of a text that is written out. -/
theorem reads_marked (w : World) (e : TypeId) (k : IntKind) (l : List Nat) (cs : Array Value) (fr : Nat × Nat) (hc : cs.toList = vals k l) (hm : l.length ≤ maxLen) :
    Reads (w.alloc (.cells cs e fr)) k (.slice (some ⟨w.heap.size, 0, none⟩) l.length l.length) l :=
  ⟨_, _, rfl, Nat.le_refl _, hm, by simp, .inr ⟨w.heap.size, 0, rfl, by simp, fun i hi => by
    rw [Nat.zero_add, World.cell?_alloc_mark, ← Array.getElem?_toList, hc, vals_get k l i hi]⟩⟩
theorem rowV_new (w : World) (e : TypeId) (us : List Value) (hm : us.length ≤ maxLen) : RowV (w.alloc (.cells us.toArray e)) (fun j => w.heap.size ≤ j) (.slice (some ⟨w.heap.size, 0, none⟩) us.length us.length) us :=
  ⟨_, _, rfl, Nat.le_refl _, hm, by simp, .inr ⟨w.heap.size, 0, rfl, by simp, Nat.le_refl _, fun i hi => by
    rw [Nat.zero_add, World.cell?_alloc_mark]; simp⟩⟩

set_option maxHeartbeats 1000000 in
set_option maxRecDepth 100000 in
theorem alive6_any (w : World) : Calls Try.prog 6 #[] w fun e w' => e = .returned (.bool true) ∧ Below w.heap.size w w' := by
  go_enter Try.func6, Try.ntmps6
  go_wp2_with fail
  refine (newD_any 100 w).mono ?_
  rintro e w1 (⟨_, _, rfl, hd1, hb1, hs1⟩ | ⟨h, _⟩)
  case inr => exact absurd ⟨by decide, by decide⟩ h
  have HD1 : Hid (Dk w1 (fun j => j = w.heap.size) w.heap.size (dnew 100)) := Lib.hid hd1
  have HB1 := Lib.hid hb1
  have HS1 := Lib.hid hs1
  clear hd1 hb1 hs1
  have hcv := fun (C : Array Value) (n c : Nat) => Lib.run_convert_bytes_const (P := Try.prog) w1 37 5 C n c Try.underlying37 Try.underlying5
  obtain ⟨W2, hW2⟩ : ∃ W2, W2 = w1.alloc (.cells #[.int .u8 120] 5 (1, 2)) := ⟨_, rfl⟩
  have hb2 : Below w1.heap.size w1 W2 := by rw [hW2]; exact (Below.refl _ _).alloc (Nat.le_refl _) _
  have hat : At W2 (fun j => ¬ j = w.heap.size) .u8 (.slice (some ⟨w1.heap.size, 0, none⟩) 1 1) [120] := by
    rw [hW2]
    exact ⟨reads_marked w1 5 .u8 [120] _ _ (by simp [vals]) (by simp [maxLen]), .inr ⟨w1.heap.size, 0, 1, 1, rfl, by have := HS1.out; omega⟩⟩
  have HC2 : Hid (Calls Try.prog 23 #[.pointer (some ⟨w.heap.size, 0, none⟩), .string { data := #[97] }, .slice (some ⟨w1.heap.size, 0, none⟩) 1 1] W2 (WPost (fun j => j = w.heap.size) w.heap.size W2 (dwrite (dnew 100) [97] [120]))) :=
    Lib.hid (writeD_any (HD1.out.keep (kept_new hb2 _)) (by decide) (n := [97]) (by simp) hat (by simp))
  have HB2 : Hid (Below w.heap.size w W2) := Lib.hid (HB1.out.trans (hb2.mono HB1.out.size))
  have HW2 := Lib.hid hW2
  clear hW2 hb2 hat
  go_wp2_with fail
  rw [← HW2.out]
  refine HC2.out.mono ?_
  rintro e w3 ⟨rfl, S3, hd3, hf3, hs3, ht3⟩
  rw [alive_write, errV_zero]
  have HD3 := Lib.hid hd3
  have HB3 : Hid (Below w.heap.size w w3) := Lib.hid (HB2.out.trans (hf3.below HB2.out.size fun j hj => Nat.ne_of_lt hj))
  have HT3 : Hid (∀ j, S3 j → w.heap.size ≤ j) := Lib.hid fun j hj => by
    rcases ht3 j hj with rfl | h
    · exact Nat.le_refl _
    · exact Nat.le_trans HB2.out.size h
  clear hd3 hf3 hs3 ht3
  obtain ⟨W4, hW4⟩ : ∃ W4, W4 = w3.alloc (.cells #[.bool true] 4) := ⟨_, rfl⟩
  have hb4 : Below w3.heap.size w3 W4 := by rw [hW4]; exact (Below.refl _ _).alloc (Nat.le_refl _) _
  have hkv : RowV W4 (fun j => ¬ S3 j) (.slice (some ⟨w3.heap.size, 0, none⟩) 1 1) ([true].map Value.bool) := by
    rw [hW4]
    exact (rowV_new w3 4 [.bool true] (by simp [maxLen])).mono fun j _ h h2 => by have := HD3.out.lt h2; omega
  have HC4 := Lib.hid (cutD_any (HD3.out.keep (kept_new hb4 _)) alive_sz hkv)
  have HB4 : Hid (Below w.heap.size w W4) := Lib.hid (HB3.out.trans (hb4.mono HB3.out.size))
  have HW4 := Lib.hid hW4
  clear hW4 hb4 hkv
  go_wp2_with fail
  rw [← HW4.out]
  refine HC4.out.mono ?_
  rintro e w5 ⟨rfl, S5, hd5, hf5, hs5, ht5⟩
  have HD5 := Lib.hid hd5
  have HB5 : Hid (Below w.heap.size w w5) := Lib.hid (HB4.out.trans (hf5.below HB4.out.size fun j hj h => Nat.not_le_of_lt hj (HT3.out j h)))
  have HT5 : Hid (∀ j, S5 j → w.heap.size ≤ j) := Lib.hid fun j hj => by
    rcases ht5 j hj with h | h
    · exact HT3.out j h
    · exact Nat.le_trans HB4.out.size h
  clear hd5 hf5 hs5 ht5
  go_wp2_with fail
  refine (startD_any HD5.out).mono ?_
  rintro e w6 ⟨rfl, S6, hd6, hf6, hs6, ht6⟩
  have HC6 : Hid (Calls Try.prog 25 #[.pointer (some ⟨w.heap.size, 0, none⟩), .string { data := #[97] }] w6 (ReadDPost ([120], 0) w6)) := Lib.hid (by
    have := readD_any hd6 (n := [97]) (by simp)
    rw [alive_read] at this
    exact this)
  have HB6 : Hid (Below w.heap.size w w6) := Lib.hid (HB5.out.trans (hf6.below HB5.out.size fun j hj h => Nat.not_le_of_lt hj (HT5.out j h)))
  clear hd6 hf6 hs6 ht6
  go_wp2_with fail
  refine HC6.out.mono ?_
  rintro e w7 ⟨v, rfl, ho7, hb7⟩
  have hc1 : (convert 37 9 v).run Try.prog w7 = .ok (.string (strOfNums (([120] : List Nat).map (fun n : Nat => (n : Int))))) w7 := conv_reads _ _ w7 ho7.reads
  rw [show strOfNums (([120] : List Nat).map (fun n : Nat => (n : Int))) = { data := #[120] } from rfl] at hc1
  obtain ⟨ao7, cap7, rfl, _, _, _⟩ := ho7.reads.val
  have HB7 := Lib.hid (HB6.out.trans (hb7.mono HB6.out.size))
  clear ho7 hb7
  rw [show errV (([120], 0) : List Nat × Nat).2 = .nilIface from rfl]
  have hc2 : (convert 37 9 (.slice ao7 1 cap7)).run Try.prog w7 = .ok (.string { data := #[120] }) w7 := hc1
  clear hc1
  go_wp2
  go_ret
  exact ⟨rfl, HB7.out⟩

end Go.Proofs.Ytjgdbhmogdaggaa
