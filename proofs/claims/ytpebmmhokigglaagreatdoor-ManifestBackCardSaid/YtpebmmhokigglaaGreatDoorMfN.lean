/- The law's own Document and PartOf; the document's Same. -/
import Derived.Test.YtpebmmhokigglaaGreatDoorQe
import Derived.Test.YtpebmmhokigglaaGreatDoorQf
import Derived.Test.YtpebmmhokigglaaGreatDoorQg
namespace Go.Proofs.YtpebmmhokigglaaGreatDoor
open Go.RowKit

theorem fold_shift (o : Nat) : ∀ (l : List Value) (k : Nat) (Z : Array Value), List.foldl (fun (cs : Array Value) (x : Value × Nat) => cs.setIfInBounds (o + x.2) x.1) Z (l.zipIdx k) = List.foldl (fun (cs : Array Value) (x : Value × Nat) => cs.setIfInBounds x.2 x.1) Z (l.zipIdx (o + k))
  | [], _, _ => rfl
  | v :: r, k, Z => by
    rw [List.zipIdx_cons, List.zipIdx_cons, List.foldl_cons, List.foldl_cons, fold_shift o r (k + 1)]
    rfl
theorem fold_part (f mm ss : Int) {sum : List Nat} (h : sum.length = 32) : List.foldl (fun (cs : Array Value) (x : Value × Nat) => cs.setIfInBounds (3 + x.2) x.1) #[.int .i64 f, .int .i64 mm, .int .i64 ss, .int .u8 0, .int .u8 0, .int .u8 0, .int .u8 0, .int .u8 0, .int .u8 0, .int .u8 0, .int .u8 0, .int .u8 0, .int .u8 0, .int .u8 0, .int .u8 0, .int .u8 0, .int .u8 0, .int .u8 0, .int .u8 0, .int .u8 0, .int .u8 0, .int .u8 0, .int .u8 0, .int .u8 0, .int .u8 0, .int .u8 0, .int .u8 0, .int .u8 0, .int .u8 0, .int .u8 0, .int .u8 0, .int .u8 0, .int .u8 0, .int .u8 0, .int .u8 0] (vals .u8 sum).zipIdx = (ptRow (f, mm, ss, sum)).toArray := by
  rw [fold_shift 3 (vals .u8 sum) 0]
  apply Array.toList_inj.1
  rw [fold_put_aux _ _ _ (by rw [vals_length, h]; simp), vals_length, h]
  unfold ptRow
  simp
theorem pt0_cells : (ptRow (0, 0, 0, zero32)).toArray = #[.int .i64 0, .int .i64 0, .int .i64 0, .int .u8 0, .int .u8 0, .int .u8 0, .int .u8 0, .int .u8 0, .int .u8 0, .int .u8 0, .int .u8 0, .int .u8 0, .int .u8 0, .int .u8 0, .int .u8 0, .int .u8 0, .int .u8 0, .int .u8 0, .int .u8 0, .int .u8 0, .int .u8 0, .int .u8 0, .int .u8 0, .int .u8 0, .int .u8 0, .int .u8 0, .int .u8 0, .int .u8 0, .int .u8 0, .int .u8 0, .int .u8 0, .int .u8 0, .int .u8 0, .int .u8 0, .int .u8 0] := by rfl

set_option maxHeartbeats 4000000 in
set_option maxRecDepth 100000 in
theorem partOf_any (p : PT) (w : World) (hd : Dg p.2.2.2) :
    Calls Tryz.prog 12 #[.agg (ptRow p).toArray] w fun e w' => e = .returned (.agg (ptRow p).toArray) ∧ Below w.heap.size w w' := by
  obtain ⟨W1, hW1⟩ : ∃ W1, W1 = w.alloc (.cells (ptRow p).toArray 28) := ⟨_, rfl⟩
  have hb1 : Below w.heap.size w W1 := by rw [hW1]; exact (Below.refl _ _).alloc (Nat.le_refl _) _
  have hx1 : PB W1 w.heap.size p 28 := by rw [hW1]; exact pb_new _ _ _
  obtain ⟨W2, hW2⟩ : ∃ W2, W2 = W1.alloc (.cells (ptRow (0, 0, 0, zero32)).toArray 44) := ⟨_, rfl⟩
  have hb2 : Below W1.heap.size W1 W2 := by rw [hW2]; exact (Below.refl _ _).alloc (Nat.le_refl _) _
  have hs1 : W1.heap.size = w.heap.size + 1 := by rw [hW1]; simp
  have hx2 := hx1.old hb2
  have hz2 : W2.heap[w.heap.size + 1]? = some (.cells (ptRow (0, 0, 0, zero32)).toArray 44 (0, 0)) := by rw [hW2, ← hs1]; exact heap_alloc_new _ _
  obtain ⟨x0, x1, x2⟩ := hx2.x
  have HSUM := Lib.hid hx2.sum
  have HZ2 := Lib.hid hz2
  have HB2 : Hid (Below w.heap.size w W2) := Lib.hid (hb1.trans (hb2.mono hb1.size))
  have HDS : Hid ((Tryz.prog.info? 26).map (·.size) = some (vals .u8 p.2.2.2).length) := Lib.hid (by rw [vals_length, hd.1]; exact Tryz.sizeDG)
  have HSZ : Hid ((Tryz.prog.info? 44).map (·.size) = some (ptRow p).toArray.size) := Lib.hid (by rw [ptRow_size hd]; exact Tryz.sizePTD)
  have HS2 : Hid ((ptRow (0, 0, 0, zero32)).toArray.size = (ptRow p).toArray.size) := Lib.hid (by rw [ptRow_size dg_zero, ptRow_size hd])
  have HAL := Lib.hid (all_one (ptRow_one p))
  have HDG := Lib.hid hd
  have hv32 : (vals .u8 p.2.2.2).length = 32 := by rw [vals_length, hd.1]
  have hW2' := hW2
  rw [hW1, pt0_cells] at hW2'
  obtain ⟨A, hA⟩ : ∃ A, A = (ptRow p).toArray := ⟨_, rfl⟩
  rw [← hA] at hW2' HSZ HS2 HAL ⊢
  have HA := Lib.hid hA
  have HW2 := Lib.hid hW2'
  obtain ⟨f, mm, ss, sum⟩ := p
  simp only at x0 x1 x2 hv32
  have HFO := Lib.hid (fold_part f mm ss (sum := sum) HDG.out.1)
  clear hb1 hx1 hW1 hW2 hb2 hs1 hx2 hz2 hA hd
  rw [hW2'] at x0 x1 x2
  clear hW2'
  go_enter Tryz.func12, Tryz.ntmps12
  go_wp2_with (first
    | ((with_reducible show wpList _ _ _ (Oper.mk (some 10) _ _ _ _ _ :: _) _ _); rw [← HW2.out]; go_must (refine wpList_load_at rfl 26 (.tmp 9) rfl w.heap.size 3 rfl (vals .u8 sum) _ HSUM.out Tryz.underlying26 rfl HDS.out ?_))
    | ((with_reducible show wpList _ _ _ (Oper.mk none _ _ _ _ _ :: _) _ _); rw [HFO.out, ← HA.out]; go_must (refine wpList_store_box rfl 44 (.tmp 2) (.tmp 11) rfl (w.heap.size + 1) A rfl rfl _ _ HZ2.out HSZ.out HS2.out HAL.out ?_)))
  intro W3 hq3 hb3 _
  have HQ3 := Lib.hid hq3
  have HB3 : Hid (Below w.heap.size w W3) := Lib.hid (HB2.out.trans (hb3.mono (Nat.le_succ _)))
  clear hq3 hb3 x0 x1 x2
  go_wp2
  refine bodyPost_ret (v := .agg A) (results_cell_row (p := 2) rfl _ _ (w.heap.size + 1) _ _ _ _ rfl HQ3.out Tryz.underlying44 rfl HSZ.out) rfl ?_
  exact ⟨rfl, HB3.out⟩

end Go.Proofs.YtpebmmhokigglaaGreatDoor
