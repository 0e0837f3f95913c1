/- The fixed fact at the head of the cell statements: the chapter's examples. -/
import Derived.Test.YtbihammpdjkonaaCelJ
import Derived.Lib.SlBytesConst
namespace Go.Proofs.Ytbihammpdjkonaa
open Go.RowKit

/-- A row of a text that is written out. -/
theorem reads_marked (w : World) (e : TypeId) (k : IntKind) (l : List Nat) (cs : Array Value) (fr : Nat × Nat) (hc : cs.toList = vals k l) (hm : l.length ≤ maxLen) :
    Reads (w.alloc (.cells cs e fr)) k (.slice (some ⟨w.heap.size, 0, none⟩) l.length l.length) l :=
  ⟨_, _, rfl, Nat.le_refl _, hm, by simp, .inr ⟨w.heap.size, 0, rfl, by simp, fun i hi => by
    rw [Nat.zero_add, World.cell?_alloc_mark, ← Array.getElem?_toList, hc, vals_get k l i hi]⟩⟩

theorem cb_hole : cbytes (2, []) = [2] := by unfold cbytes; rw [if_neg (by decide), enc_small (by decide)]
theorem cb_ab : cbytes (1, [97, 98]) = [1, 2, 97, 98] := by unfold cbytes; rw [if_pos rfl, enc_small (by decide), enc_small (by decide)]; rfl

set_option maxHeartbeats 1000000 in
set_option maxRecDepth 100000 in
theorem alive5_any (w : World) : Calls Try.prog 9 #[] w fun e w' => e = .returned (.bool true) ∧ Below w.heap.size w w' := by
  go_enter Try.func9, Try.ntmps9
  go_wp2_with fail
  refine (cput_any _ _ [] 2 [] w (reads_none _ _) (reads_none _ _) (by simp)).mono ?_
  rintro e w1 ⟨v1, o1, rfl, ho1, he1, hb1⟩
  obtain rfl : o1 = [2] := by rw [he1, if_pos (by decide)]; exact cb_hole
  rw [show chk 2 ([] : List Nat).length = 0 by decide, errV_zero]
  obtain ⟨ao1, cap1, rfl, _, _, _⟩ := ho1.reads.val
  have HR := Lib.hid ho1.reads
  have HB := Lib.hid hb1
  clear ho1 hb1 he1
  have hcv := fun (C : Array Value) (n c : Nat) => Lib.run_convert_bytes_const (P := Try.prog) w1 22 5 C n c Try.underlying22 Try.underlying5
  go_wp2_with fail
  refine (cput_any _ _ [] 1 [97, 98] _ (reads_none _ _) (reads_marked w1 5 .u8 [97, 98] _ _ (by simp [vals]) (by simp [maxLen])) (by simp)).mono ?_
  rintro e w2 ⟨v2, o2, rfl, ho2, he2, hb2⟩
  obtain rfl : o2 = [1, 2, 97, 98] := by rw [he2, if_pos (by decide)]; exact cb_ab
  rw [show chk 1 ([97, 98] : List Nat).length = 0 by decide, errV_zero]
  obtain ⟨ao2, cap2, rfl, _, _, _⟩ := ho2.reads.val
  have hb12 := ((Below.refl w1.heap.size w1).alloc (Nat.le_refl _) _).trans (hb2.mono (by simp))
  have hc1 : (convert 22 9 (.slice ao1 1 cap1)).run Try.prog w2 = .ok (.string (strOfNums (([2] : List Nat).map (fun n : Nat => (n : Int))))) w2 := conv_reads _ _ w2 (HR.out.new hb12)
  have hc2 : (convert 22 9 (.slice ao2 4 cap2)).run Try.prog w2 = .ok (.string (strOfNums (([1, 2, 97, 98] : List Nat).map (fun n : Nat => (n : Int))))) w2 := conv_reads _ _ w2 ho2.reads
  rw [show strOfNums (([2] : List Nat).map (fun n : Nat => (n : Int))) = { data := #[2] } from rfl] at hc1
  rw [show strOfNums (([1, 2, 97, 98] : List Nat).map (fun n : Nat => (n : Int))) = { data := #[1, 2, 97, 98] } from rfl] at hc2
  have HB2 := Lib.hid (HB.out.trans (hb12.mono HB.out.size))
  clear ho2 he2 hb2 hb12
  go_wp2
  go_ret
  exact ⟨rfl, HB2.out⟩

end Go.Proofs.Ytbihammpdjkonaa
