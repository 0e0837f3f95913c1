/- The package's Zero and Link. -/
import Derived.Test.YtjhipfgmiilmdaaDoorShaZ
import Derived.Test.YtjhipfgmiilmdaaDoorEqA
namespace Go.Proofs.YtjhipfgmiilmdaaDoor
open Go.RowKit

theorem eq_digests (a b : List Nat) (ha : a.length = 32) (hb : b.length = 32) (w : World) : (Op.equalIn 10000 29 (.agg (vals .u8 a).toArray) (.agg (vals .u8 b).toArray)).run Tryd.prog w = .ok (a == b) w :=
  equalIn_nums (k := .u8) Tryd.underlying29 Tryd.underlying5 (fun w => by kernel_rfl) a b ha hb w

theorem zero_vals : (vals .u8 (List.replicate 32 0)).toArray = zeros32l := by rfl

set_option maxHeartbeats 1000000 in
set_option maxRecDepth 100000 in
theorem zero_any (l : List Nat) (hl : l.length = 32) (w : World) :
    Calls Tryd.prog 11 #[.agg (vals .u8 l).toArray] w fun e w' => e = .returned (.bool (l == List.replicate 32 0)) ∧ Below w.heap.size w w' := by
  have hbx := box_new w (vals .u8 l).toArray 29
  have hds : (Tryd.prog.info? 29).map (·.size) = some (vals .u8 l).toArray.size := by rw [List.size_toArray, vals_length, hl]; kernel_rfl
  have heq := fun w => eq_digests l (List.replicate 32 0) hl (by simp) w
  rw [zero_vals] at heq
  unfold zeros32l at heq
  have HBX := Lib.hid hbx
  clear hbx
  go_enter Tryd.func11, Tryd.ntmps11
  go_wp2_with ((with_reducible show wpList _ _ _ (Oper.mk (some 3) _ _ _ _ _ :: _) _ _); go_must (refine wpList_load_row rfl 29 (.tmp 1) rfl w.heap.size rfl _ (vals .u8 l).toArray _ _ (by first | exact HBX.out.1 | exact (Below.heap_alloc _ _ _ (by simp)).trans HBX.out.1) Tryd.underlying29 rfl hds ?_))
  go_ret
  exact ⟨rfl, HBX.out.2.2⟩

set_option maxHeartbeats 1000000 in
set_option maxRecDepth 100000 in
theorem link_any (v : Value) (p l : List Nat) (w : World) (hr : Reads w .u8 v l) (hp : p.length = 32) (hpb : ∀ y ∈ p, y < 256) (hx : l.length ≤ 90000) (hl : ∀ y ∈ l, y < 256) (hld : Laid w) :
    Calls Tryd.prog 13 #[.agg (vals .u8 p).toArray, v] w fun e w' => e = .returned (.agg (vals .u8 (shaOf shaK shaH (p ++ l))).toArray) ∧ Below w.heap.size w w' := by
  obtain ⟨ao, cap, rfl, _, _, _⟩ := hr.val
  obtain ⟨W0, hW0⟩ : ∃ W0, W0 = w.alloc (.cells (vals .u8 p).toArray 29) := ⟨_, rfl⟩
  obtain ⟨W1, hW1⟩ : ∃ W1, W1 = W0.alloc (.cells zeros32l 29) := ⟨_, rfl⟩
  have hs0 : W0.heap.size = w.heap.size + 1 := by rw [hW0]; simp
  have hb0 : Below w.heap.size w W0 := by rw [hW0]; exact (Below.refl _ _).alloc (Nat.le_refl _) _
  have hp0 : W0.heap[w.heap.size]? = some (.cells (vals .u8 p).toArray 29 (0, 0)) := by rw [hW0]; exact heap_alloc_new _ _
  have hs1 : W1.heap.size = w.heap.size + 1 + 1 := by rw [hW1]; simp [hs0]
  have hb1 : Below W0.heap.size W0 W1 := by rw [hW1]; exact (Below.refl _ _).alloc (Nat.le_refl _) _
  have hz1 : W1.heap[w.heap.size + 1]? = some (.cells zeros32l 29 (0, 0)) := by rw [hW1, ← hs0]; exact heap_alloc_new _ _
  have hp1 : W1.heap[w.heap.size]? = some (.cells (vals .u8 p).toArray 29 (0, 0)) := (hb1.block _ (by omega)).trans hp0
  have hbw : Below w.heap.size w W1 := hb0.trans (hb1.mono (by omega))
  have hrp : Reads W1 .u8 (.slice (some ⟨w.heap.size, 0, none⟩) 32 32) p := ⟨_, 32, by rw [hp], by omega, by simp [maxLen], by simp, .inr ⟨w.heap.size, 0, rfl, by omega, fun i hi => by
    rw [Nat.zero_add]; exact cell_of_row hp1 i hi⟩⟩
  have hfl : [p, l].flatten = p ++ l := by simp
  have ho := of_any _ [p, l] _ (pieces_two W1 22 _ _ p l hrp (hr.below hbw (Nat.le_refl _))) (by rw [hfl, List.length_append]; omega) (by
      intro q hq y hy
      simp only [List.mem_cons, List.not_mem_nil, or_false] at hq
      rcases hq with rfl | rfl
      · exact hpb y hy
      · exact hl y hy) (by simp) ((hld.next hbw).next ((Below.refl _ _).alloc (Nat.le_refl _) _))
  rw [hfl, hs1] at ho
  obtain ⟨D, hD⟩ : ∃ D, D = shaOf shaK shaH (p ++ l) := ⟨_, rfl⟩
  have hDl : D.length = 32 := by rw [hD]; exact shaOf_len _
  rw [← hD] at ho ⊢
  have hAs : (Tryd.prog.info? 29).map (·.size) = some (vals .u8 D).toArray.size := by rw [List.size_toArray, vals_length, hDl]; kernel_rfl
  have HO := Lib.hid ho
  have HW1 := Lib.hid hW1
  have HW0 := Lib.hid hW0
  have HZ1 := Lib.hid hz1
  have HB1 := Lib.hid hbw
  have HS1 := Lib.hid hs1
  clear ho hfl hD hrp hp1 hz1 hbw hs1 hb1 hb0 hp0 hs0 hW0 hW1
  go_enter Tryd.func13, Tryd.ntmps13
  go_wp2_with fail
  rw [← HW0.out]
  have hW1 := HW1.out
  unfold zeros32l at hW1
  rw [← hW1]
  clear hW1
  refine HO.out.mono ?_
  rintro e w2 ⟨rfl, hb2⟩
  have hb2' : Below W1.heap.size W1 w2 := ((Below.refl W1.heap.size W1).alloc (Nat.le_refl _) _).trans (hb2.mono (by simp))
  have hz1 := HZ1.out
  unfold zeros32l at hz1
  have HR2 : Hid (w2.heap[w.heap.size + 1]? = _) := Lib.hid ((hb2'.block (w.heap.size + 1) (by have := HS1.out; omega)).trans hz1)
  have HB2 := Lib.hid hb2'
  have hAz : (#[.int .u8 0, .int .u8 0, .int .u8 0, .int .u8 0, .int .u8 0, .int .u8 0, .int .u8 0, .int .u8 0, .int .u8 0, .int .u8 0, .int .u8 0, .int .u8 0, .int .u8 0, .int .u8 0, .int .u8 0, .int .u8 0, .int .u8 0, .int .u8 0, .int .u8 0, .int .u8 0, .int .u8 0, .int .u8 0, .int .u8 0, .int .u8 0, .int .u8 0, .int .u8 0, .int .u8 0, .int .u8 0, .int .u8 0, .int .u8 0, .int .u8 0, .int .u8 0] : Array Value).size = (vals .u8 D).toArray.size := by
    have h : (vals .u8 D).toArray.size = 32 := by rw [List.size_toArray, vals_length, hDl]
    rw [h]; rfl
  clear hb2 hb2' hz1
  go_wp2_with ((with_reducible show wpList _ _ _ (Oper.mk none _ _ _ _ _ :: _) _ _); go_must (refine wpList_store_row rfl 29 (.tmp 4) (.tmp 8) rfl (w.heap.size + 1) (vals .u8 D).toArray rfl rfl _ _ HR2.out hAs hAz (row_one _ _) ?_))
  refine bodyPost_ret (v := .agg (vals .u8 D).toArray) (results_cell_row (p := 4) rfl _ _ (w.heap.size + 1) _ _ _ _ rfl (setRow_heap _ _ _ _ _ _ HR2.out) Tryd.underlying29 rfl hAs) rfl ?_
  have hbb := HB1.out.trans (HB2.out.mono HB1.out.size)
  exact ⟨rfl, hbb.trans ⟨rfl, rfl, rfl, by simp [World.setRow], fun k hk => setRow_other _ _ k _ (by omega)⟩⟩

end Go.Proofs.YtjhipfgmiilmdaaDoor
