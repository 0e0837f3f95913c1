/- The fixed fact at the head of the crc statements: the chapter's example. -/
import Derived.Test.YtlaloddmlkkbgaaCrcP
import Derived.Test.YtlaloddmlkkbgaaByteA
import Derived.Lib.SlBytesConst
namespace Go.Proofs.Ytlaloddmlkkbgaa
open Go.RowKit

def nine : List Nat := [49, 50, 51, 52, 53, 54, 55, 56, 57]
/-- A row of a text that is written out. -/
theorem reads_mark (w : World) (e : TypeId) (k : IntKind) (l : List Nat) (cs : Array Value) (fr : Nat × Nat) (hc : cs.toList = vals k l) (hm : l.length ≤ maxLen) :
    Reads (w.alloc (.cells cs e fr)) k (.slice (some ⟨w.heap.size, 0, none⟩) l.length l.length) l :=
  ⟨_, _, rfl, Nat.le_refl _, hm, by simp, .inr ⟨w.heap.size, 0, rfl, by simp, fun i hi => by
    rw [Nat.zero_add, World.cell?_alloc_mark, ← Array.getElem?_toList, hc, vals_get k l i hi]⟩⟩

theorem nine_sum : crcx 0 nine = 3808858755 := by decide +kernel

set_option maxHeartbeats 400000 in
set_option maxRecDepth 100000 in
theorem alive2_any (w : World) :
    Calls Try.prog 41 #[] w fun e w' => e = .returned (.bool true) ∧ Below w.heap.size w w' := by
  go_enter Try.func41, Try.ntmps41
  go_wp2_with fail
  refine (new_any _).mono ?_
  rintro e w1 ⟨p, rfl, hp, hm, hb⟩
  have hcv := fun (C : Array Value) (n c : Nat) => Lib.run_convert_bytes_const (P := Try.prog) w1 22 5 C n c Try.underlying22 Try.underlying5
  go_wp2_with fail
  refine (sum_any p 0 _ nine _ (hm.alloc _) (by omega) (reads_mark w1 5 .u8 nine _ _ (by simp [vals, nine]) (by simp [nine, maxLen])) (by decide)).mono ?_
  rintro e w2 ⟨rfl, hm2, hg⟩
  rw [nine_sum]
  go_wp2_with fail
  refine (asked_any p 1 _ hm2).mono ?_
  rintro e w3 ⟨rfl, rfl⟩
  go_wp2
  go_ret
  exact ⟨rfl, (hb.alloc (by have := hb.size; omega) _).grown hg (by have := hb.size; simp; omega) (fun j hj => by simp at hj; omega)⟩

end Go.Proofs.Ytlaloddmlkkbgaa
