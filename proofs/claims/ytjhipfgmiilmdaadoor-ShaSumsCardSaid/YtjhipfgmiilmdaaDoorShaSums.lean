/- ShaSums, walked. -/
import Derived.Test.YtjhipfgmiilmdaaDoorShaL
import Derived.Test.YtjhipfgmiilmdaaDoorHeldA
import Derived.Test.YtjhipfgmiilmdaaDoorShaI
import Derived.Test.YtjhipfgmiilmdaaDoorNumA
namespace Go.Proofs.YtjhipfgmiilmdaaDoor
open Go.RowKit

set_option maxHeartbeats 8000000 in
set_option maxRecDepth 100000 in
theorem sums_walk (v0 : Value) (l B : List Nat) (w : World) (hr : Reads w .u8 v0 l) (hl : ∀ y ∈ l, y < 256) (hB : B.length = 32) (hBb : ∀ y ∈ B, y < 256) (hld : Laid w) :
    Calls Tryd.prog 3 #[v0, .agg (vals .u8 B).toArray] w fun e w' => e = .returned (.bool true) ∧ Below w.heap.size w w' := by
  obtain ⟨ao, c0, rfl, hc1, hc2, hc3⟩ := hr.val
  obtain ⟨W0, hW0⟩ : ∃ W0, W0 = w.alloc (.cells (vals .u8 B).toArray 23) := ⟨_, rfl⟩
  have hb0 : Below w.heap.size w W0 := by rw [hW0]; exact (Below.refl _ _).alloc (Nat.le_refl _) _
  have hs0 : W0.heap.size = w.heap.size + 1 := by rw [hW0]; simp
  have hx0 : W0.heap[w.heap.size]? = some (.cells (vals .u8 B).toArray 23 (0, 0)) := by rw [hW0]; exact heap_alloc_new _ _
  have hl0 := hld.next hb0
  have HR := Lib.hid (hr.below hb0 (Nat.le_refl _))
  have HB0 := Lib.hid hb0
  have HX := Lib.hid hx0
  have HS0 := Lib.hid hs0
  have HL := Lib.hid hl
  have HW0 := Lib.hid hW0
  clear hr hl hb0 hx0 hs0 hW0
  go_enter Tryd.func3, Tryd.ntmps3
  go_wp2_with fail
  rw [← HW0.out]
  refine (alive3_any _ hl0).mono ?_
  rintro e w1 ⟨rfl, hb1⟩
  have HLD := Lib.hid (hl0.next hb1)
  have HR1 := Lib.hid (HR.out.below hb1 (Nat.le_refl _))
  have HX1 := Lib.hid ((hb1.block _ (by have := HS0.out; omega)).trans HX.out)
  have HB1 := Lib.hid (HB0.out.trans (hb1.mono HB0.out.size))
  have HSZ : Hid (w.heap.size + 1 ≤ w1.heap.size) := Lib.hid (by have := HS0.out; have := hb1.size; omega)
  clear hb1 hl0 HR HX HW0 HS0 HB0
  by_cases hlen : (l.length : Int) > 1000
  · go_wp2
    go_ret
    exact ⟨rfl, HB1.out⟩
  have hlen' : l.length ≤ 1000 := by omega
  go_wp2_with ((with_reducible show wpList _ _ _ (Oper.mk (some 15) _ _ _ _ _ :: _) _ _); go_must (refine wpList_app _ rfl _ _ 22 rfl w1.heap.size 5 (.int .u8 0) 1 Tryd.underlying22 Tryd.info5 rfl .u8 _ [] rfl (owns_empty w1 w1.heap.size 5 .u8 (Nat.le_refl _)) _ l rfl (HR1.out.below ((Below.refl _ _).alloc (Nat.le_refl _) _) (Nat.le_refl _)) (by decide) (by simp; omega) (by simp) (fun v3 w2 ho3 hg3 => ?_)))
  have HO2 := Lib.hid ho3
  have hb2 : Below w1.heap.size w1 w2 := ((Below.refl _ _).alloc (Nat.le_refl _) _).grown hg3 (by simp) (fun j hj => by first | (cases hj; exact Nat.le_refl _) | (cases hj; exact Nat.zero_le _))
  have HB2 := Lib.hid hb2
  clear ho3 hg3 hb2
  go_wp2_with fail
  refine (tables_any _).mono ?_
  rintro e w3 ⟨cv, fv, rfl, hc, hf, hb3⟩
  have hb13 : Below w1.heap.size w1 w3 := HB2.out.trans (hb3.mono HB2.out.size)
  have HRO : Hid (Reads w3 .u8 v3 l) := Lib.hid (HO2.out.reads.below hb3 (Nat.le_refl _))
  have HRL := Lib.hid (HR1.out.below hb13 (Nat.le_refl _))
  have HRC := Lib.hid hc.reads
  have HRF := Lib.hid hf.reads
  have HX3 := Lib.hid ((hb13.block _ (by have := HSZ.out; omega)).trans HX1.out)
  have HLD3 := Lib.hid (HLD.out.next hb13)
  have HB3 := Lib.hid (HB1.out.trans (hb13.mono HB1.out.size))
  have HSZ3 : Hid (w.heap.size + 1 ≤ w3.heap.size) := Lib.hid (by have := HSZ.out; have := hb13.size; omega)
  obtain ⟨ao3, c3, rfl, _, _, _⟩ := HRO.out.val
  clear HO2 HB2 HR1 HX1 HLD HB1 HSZ hc hf hb3 hb13
  go_wp2_with fail
  obtain ⟨D, hD⟩ : ∃ D, D = shaOf shaK shaH l := ⟨_, rfl⟩
  have hDl : D.length = 32 := by rw [hD]; exact shaOf_len _
  have HD := Lib.hid hD
  clear hD
  have hds23 : (Tryd.prog.info? 23).map (·.size) = some (vals .u8 B).toArray.size := by rw [List.size_toArray, vals_length, hB]; kernel_rfl
  have hsz1 : ∀ w, (sizeOf 5).run Tryd.prog w = .ok 1 w := fun w => by kernel_rfl
  have e28 : ∀ w, (Op.equalIn 10000 28 (.agg (vals .u8 D).toArray) (.agg (vals .u8 D).toArray)).run Tryd.prog w = .ok true w := fun w => by
    rw [equalIn_nums (k := .u8) Tryd.underlying28 Tryd.underlying5 hsz1 D D hDl hDl w, beq_self_eq_true]
  have e29 : ∀ w, (Op.equalIn 10000 29 (.agg (vals .u8 D).toArray) (.agg (vals .u8 D).toArray)).run Tryd.prog w = .ok true w := fun w => by
    rw [equalIn_nums (k := .u8) Tryd.underlying29 Tryd.underlying5 hsz1 D D hDl hDl w, beq_self_eq_true]
  have e23 := fun w => equalIn_nums (k := .u8) Tryd.underlying23 Tryd.underlying5 hsz1 B (List.replicate 32 0) hB (by simp) w
  rw [zero_vals] at e23
  unfold zeros32l at e23
  have hmx : Tryd.prog.follows .mixedOrders = true := by kernel_rfl
  have HS : Hid (Below w3.heap.size w3 w3.drew) := Lib.hid (Below.refl _ _).drew
  refine wp_region_held (S := Below w3.heap.size w3) hmx ?_
  change wpAnyH _ _ _ _ _ _ _ _ (World.drew _)
  refine wpAnyH_take (i := 0) (v := ?_) rfl (by kernel_rfl) (by kernel_rfl) (by kernel_rfl) (fun _ _ _ h => h) (Or.inl ⟨by rfl, ?_⟩) HS.out ?_
  rotate_left
  · intro W hS
    go_simp
    try with_reducible rfl
  refine wpAnyH_take (i := 2) (v := ?_) rfl (by kernel_rfl) (by kernel_rfl) (by kernel_rfl) (fun _ _ _ h => h) (Or.inl ⟨by rfl, ?_⟩) HS.out ?_
  rotate_left
  · intro W hS
    go_simp
    try with_reducible rfl
  refine wpAnyH_take (i := 3) (v := ?_) rfl (by kernel_rfl) (by kernel_rfl) (by kernel_rfl) (fun _ _ _ h => h) (Or.inl ⟨by rfl, ?_⟩) HS.out ?_
  rotate_left
  · intro W hS
    go_simp
    try with_reducible rfl
  refine wpAnyH_take (i := 4) (v := ?_) rfl (by kernel_rfl) (by kernel_rfl) (by kernel_rfl) (fun _ _ _ h => h) (Or.inl ⟨by rfl, ?_⟩) HS.out ?_
  rotate_left
  · intro W hS
    go_simp
    try with_reducible rfl
  refine held_one (i := 1) (by kernel_rfl) rfl (fun K hK => ?_)
  go_simp
  refine (sum_any _ l _ (HRO.out.below HS.out (Nat.le_refl _)) (by omega) HL.out (HLD3.out.next HS.out)).mono ?_
  rintro e wn ⟨rfl, hbn⟩
  rw [← HD.out]
  have HSn : Hid (Below w3.heap.size w3 wn) := Lib.hid (HS.out.trans (hbn.mono HS.out.size))
  refine hK _ _ HSn.out ?_
  clear hK K hbn HS
  have HS := HSn
  clear HSn
  refine held_one (i := 5) (by kernel_rfl) rfl (fun K hK => ?_)
  go_simp
  refine (refSha_any _ _ _ l _ (HRL.out.below HS.out (Nat.le_refl _)) HL.out (by omega) (HRC.out.below HS.out (Nat.le_refl _)) (HRF.out.below HS.out (Nat.le_refl _))).mono ?_
  rintro e wn ⟨rfl, hbn⟩
  rw [← HD.out]
  have HSn : Hid (Below w3.heap.size w3 wn) := Lib.hid (HS.out.trans (hbn.mono HS.out.size))
  refine hK _ _ HSn.out ?_
  clear hK K hbn HS
  have HS := HSn
  clear HSn
  refine wpAnyH_take (i := 6) (v := ?_) rfl (by kernel_rfl) (by kernel_rfl) (by kernel_rfl) (fun _ _ _ h => h) (Or.inl ⟨by rfl, ?_⟩) HS.out ?_
  rotate_left
  · intro W hS
    go_simp
    try with_reducible rfl
  refine wpAnyH_take (i := 7) (v := ?_) rfl (by kernel_rfl) (by kernel_rfl) (by kernel_rfl) (fun _ _ _ h => h) (Or.inl ⟨by rfl, ?_⟩) HS.out ?_
  rotate_left
  · intro W hS
    go_simp
    try with_reducible rfl
  refine wpAnyH_take (i := 11) (v := ?_) rfl (by kernel_rfl) (by kernel_rfl) (by kernel_rfl) (fun _ _ _ h => h) (Or.inl ⟨by rfl, ?_⟩) HS.out ?_
  rotate_left
  · intro W hS
    go_simp
    try with_reducible rfl
  refine wpAnyH_take (i := 8) (v := ?_) rfl (by kernel_rfl) (by kernel_rfl) (by kernel_rfl) (fun _ _ _ h => h) (Or.inl ⟨by rfl, ?_⟩) HS.out ?_
  rotate_left
  · intro W hS
    refine load_yields 23 (.tmp 3) ?_ w.heap.size ?_ _ (vals .u8 B).toArray (0, 0) _ ((hS.block _ (by have := HSZ3.out; omega)).trans HX3.out) Tryd.underlying23 rfl hds23 <;> rfl
  refine wpAnyH_take (i := 10) (v := ?_) rfl (by kernel_rfl) (by kernel_rfl) (by kernel_rfl) (fun _ _ _ h => h) (Or.inl ⟨by rfl, ?_⟩) HS.out ?_
  rotate_left
  · intro W hS
    refine load_yields 23 (.tmp 3) ?_ w.heap.size ?_ _ (vals .u8 B).toArray (0, 0) _ ((hS.block _ (by have := HSZ3.out; omega)).trans HX3.out) Tryd.underlying23 rfl hds23 <;> rfl
  refine wpAnyH_take (i := 12) (v := ?_) rfl (by kernel_rfl) (by kernel_rfl) (by kernel_rfl) (fun _ _ _ h => h) (Or.inl ⟨by rfl, ?_⟩) HS.out ?_
  rotate_left
  · intro W hS
    go_simp
    try with_reducible rfl
  refine held_one (i := 9) (by kernel_rfl) rfl (fun K hK => ?_)
  go_simp
  refine (zero_any B hB _).mono ?_
  rintro e wn ⟨rfl, hbn⟩
  have HSn : Hid (Below w3.heap.size w3 wn) := Lib.hid (HS.out.trans (hbn.mono HS.out.size))
  refine hK _ _ HSn.out ?_
  clear hK K hbn HS
  have HS := HSn
  clear HSn
  refine wpAnyH_take (i := 13) (v := ?_) rfl (by kernel_rfl) (by kernel_rfl) (by kernel_rfl) (fun _ _ _ h => h) (Or.inl ⟨by rfl, ?_⟩) HS.out ?_
  rotate_left
  · intro W hS
    go_simp
    try with_reducible rfl
  refine wpAnyH_take (i := 14) (v := ?_) rfl (by kernel_rfl) (by kernel_rfl) (by kernel_rfl) (fun _ _ _ h => h) (Or.inl ⟨by rfl, ?_⟩) HS.out ?_
  rotate_left
  · intro W hS
    go_simp
    try with_reducible rfl
  refine wpAnyH_take (i := 15) (v := ?_) rfl (by kernel_rfl) (by kernel_rfl) (by kernel_rfl) (fun _ _ _ h => h) (Or.inl ⟨by rfl, ?_⟩) HS.out ?_
  rotate_left
  · intro W hS
    go_simp
    try with_reducible rfl
  refine wpAnyH_take (i := 16) (v := ?_) rfl (by kernel_rfl) (by kernel_rfl) (by kernel_rfl) (fun _ _ _ h => h) (Or.inl ⟨by rfl, ?_⟩) HS.out ?_
  rotate_left
  · intro W hS
    go_simp
    try with_reducible rfl
  refine wpAnyH_take (i := 19) (v := ?_) rfl (by kernel_rfl) (by kernel_rfl) (by kernel_rfl) (fun _ _ _ h => h) (Or.inl ⟨by rfl, ?_⟩) HS.out ?_
  rotate_left
  · intro W hS
    go_simp
    try with_reducible rfl
  refine held_one (i := 17) (by kernel_rfl) rfl (fun K hK => ?_)
  go_simp
  generalize hWm : World.alloc _ _ = Wm
  have hpc : Pieces Wm _ [[], l] := hWm ▸ pieces_two _ 22 (.slice none 0 0) (.slice ao3 l.length c3) [] l ((owns_nil _ 0 5 .u8).reads) (HRO.out.below HS.out (Nat.le_refl _))
  have HSm : Hid (Below w3.heap.size w3 Wm) := Lib.hid (hWm ▸ HS.out.alloc HS.out.size _)
  refine hK _ _ HSm.out ?_
  clear hK K hWm HS
  have HS := HSm
  clear HSm
  refine held_one (i := 18) (by kernel_rfl) rfl (fun K hK => ?_)
  go_simp
  refine (of_any _ [[], l] _ hpc (by simp; omega) (by intro q hq y hy; simp only [List.mem_cons, List.not_mem_nil, or_false] at hq; rcases hq with rfl | rfl; (· simp at hy); exact HL.out y hy) (by simp) (HLD3.out.next HS.out)).mono ?_
  rintro e wn ⟨rfl, hbn⟩
  rw [show [[], l].flatten = l by simp, ← HD.out]
  have HSn : Hid (Below w3.heap.size w3 wn) := Lib.hid (HS.out.trans (hbn.mono HS.out.size))
  refine hK _ _ HSn.out ?_
  clear hK K hbn HS
  have HS := HSn
  clear HSn
  refine held_one (i := 20) (by kernel_rfl) rfl (fun K hK => ?_)
  go_simp
  refine (sum_any _ l _ (HRO.out.below HS.out (Nat.le_refl _)) (by omega) HL.out (HLD3.out.next HS.out)).mono ?_
  rintro e wn ⟨rfl, hbn⟩
  rw [← HD.out]
  have HSn : Hid (Below w3.heap.size w3 wn) := Lib.hid (HS.out.trans (hbn.mono HS.out.size))
  refine hK _ _ HSn.out ?_
  clear hK K hbn HS
  have HS := HSn
  clear HSn
  refine wpAnyH_take (i := 21) (v := ?_) rfl (by kernel_rfl) (by kernel_rfl) (by kernel_rfl) (fun _ _ _ h => h) (Or.inl ⟨by rfl, ?_⟩) HS.out ?_
  rotate_left
  · intro W hS
    go_simp
    try with_reducible rfl
  refine wpAnyH_take (i := 22) (v := ?_) rfl (by kernel_rfl) (by kernel_rfl) (by kernel_rfl) (fun _ _ _ h => h) (Or.inl ⟨by rfl, ?_⟩) HS.out ?_
  rotate_left
  · intro W hS
    go_simp
    try with_reducible rfl
  refine wpAnyH_done (by kernel_rfl) ?_ _
  clear hpc
  go_wp2_with fail
  obtain ⟨E, hE⟩ : ∃ E, E = shaOf shaK shaH (B ++ l) := ⟨_, rfl⟩
  have hEl : E.length = 32 := by rw [hE]; exact shaOf_len _
  have HE := Lib.hid hE
  have e28E : ∀ w, (Op.equalIn 10000 28 (.agg (vals .u8 E).toArray) (.agg (vals .u8 E).toArray)).run Tryd.prog w = .ok true w := fun w => by
    rw [equalIn_nums (k := .u8) Tryd.underlying28 Tryd.underlying5 hsz1 E E hEl hEl w, beq_self_eq_true]
  have hrB : Hid (Reads w3 .u8 (.slice (some ⟨w.heap.size, 0, none⟩) 32 32) B) := Lib.hid ⟨_, 32, by rw [hB], by omega, by simp [maxLen], by simp, .inr ⟨w.heap.size, 0, rfl, by have := HSZ3.out; omega, fun i hi => by
    rw [Nat.zero_add]; exact cell_of_row HX3.out i hi⟩⟩
  have hBl : ∀ y ∈ B ++ l, y < 256 := fun y hy => (List.mem_append.1 hy).elim (hBb y) (HL.out y)
  clear hE e23 e28 e29 HD
  have HSd := Lib.hid HS.out.drew
  have HSu := HS
  clear HS
  have HS := HSd
  clear HSd
  refine wp_region_held (S := Below w3.heap.size w3) hmx ?_
  change wpAnyH _ _ _ _ _ _ _ _ (World.drew _)
  refine wpAnyH_take (i := 0) (v := ?_) rfl (by kernel_rfl) (by kernel_rfl) (by kernel_rfl) (fun _ _ _ h => h) (Or.inl ⟨by rfl, ?_⟩) HS.out ?_
  rotate_left
  · intro W hS
    refine load_yields 23 (.tmp 3) ?_ w.heap.size ?_ _ (vals .u8 B).toArray (0, 0) _ ((hS.block _ (by have := HSZ3.out; omega)).trans HX3.out) Tryd.underlying23 rfl hds23 <;> rfl
  refine wpAnyH_take (i := 1) (v := ?_) rfl (by kernel_rfl) (by kernel_rfl) (by kernel_rfl) (fun _ _ _ h => h) (Or.inl ⟨by rfl, ?_⟩) HS.out ?_
  rotate_left
  · intro W hS
    go_simp
    try with_reducible rfl
  refine wpAnyH_take (i := 6) (v := ?_) rfl (by kernel_rfl) (by kernel_rfl) (by kernel_rfl) (fun _ _ _ h => h) (Or.inl ⟨by rfl, ?_⟩) HS.out ?_
  rotate_left
  · intro W hS
    go_simp
    try with_reducible rfl
  refine wpAnyH_take (i := 8) (v := ?_) rfl (by kernel_rfl) (by kernel_rfl) (by kernel_rfl) (fun _ _ _ h => h) (Or.inl ⟨by rfl, ?_⟩) HS.out ?_
  rotate_left
  · intro W hS
    go_simp
    try with_reducible rfl
  refine wpAnyH_take (i := 9) (v := ?_) rfl (by kernel_rfl) (by kernel_rfl) (by kernel_rfl) (fun _ _ _ h => h) (Or.inl ⟨by rfl, ?_⟩) HS.out ?_
  rotate_left
  · intro W hS
    go_simp
    try with_reducible rfl
  refine wpAnyH_take (i := 4) (v := ?_) rfl (by kernel_rfl) (by kernel_rfl) (by kernel_rfl) (fun _ _ _ h => h) (Or.inl ⟨by rfl, ?_⟩) HS.out ?_
  rotate_left
  · intro W hS
    go_simp
    try with_reducible rfl
  refine held_two (i := 2) (j := 3) (by kernel_rfl) rfl rfl (fun K hK => ?_) (fun K hK => ?_)
  · skip
    go_simp
    refine (link_any _ B l _ (HRO.out.below HS.out (Nat.le_refl _)) hB hBb (by omega) HL.out (HLD3.out.next HS.out)).mono ?_
    rintro e wn ⟨rfl, hbn⟩
    rw [← HE.out]
    have HSn : Hid (Below w3.heap.size w3 wn) := Lib.hid (HS.out.trans (hbn.mono HS.out.size))
    refine hK _ _ HSn.out ?_
    clear hK K hbn HS
    have HS := HSn
    clear HSn
    refine held_one (i := 3) (by kernel_rfl) rfl (fun K hK => ?_)
    go_simp
    have HOm := Lib.hid (owns_empty _ w3.heap.size 5 .u8 HS.out.size)
    have HSm := Lib.hid (HS.out.alloc HS.out.size (.cells #[] 5))
    refine hK _ _ HSm.out ?_
    generalize World.alloc _ (.cells #[] 5) = Wm at HOm HSm ⊢
    clear hK K HS
    have HS := HSm
    have HO := HOm
    clear HSm HOm
    refine held_one (i := 5) (by kernel_rfl) rfl (fun K hK => ?_)
    refine step_app_reads rfl (.tmp 46) (.tmp 47) 22 rfl w3.heap.size 5 (.int .u8 0) 1 Tryd.underlying22 Tryd.info5 rfl .u8 _ [] rfl HO.out _ B rfl (hrB.out.below HS.out (Nat.le_refl _)) (by decide) (by simp [hB] <;> omega) HS.out.size (fun v' w' ho' hg' => ?_)
    have HSn : Hid (Below w3.heap.size w3 w') := Lib.hid (HS.out.grown hg' HS.out.size (fun j hj => (HO.out.lt j hj).1))
    have HOn := Lib.hid ho'
    refine hK _ _ HSn.out ?_
    clear hK K hg' ho' HS HO
    have HS := HSn
    have HO := HOn
    clear HSn HOn
    refine held_one (i := 7) (by kernel_rfl) rfl (fun K hK => ?_)
    refine step_app_reads rfl (.tmp 48) (.tmp 49) 22 rfl w3.heap.size 5 (.int .u8 0) 1 Tryd.underlying22 Tryd.info5 rfl .u8 _ ([] ++ B) rfl HO.out _ l rfl (HRL.out.below HS.out (Nat.le_refl _)) (by decide) (by simp [hB] <;> omega) HS.out.size (fun v' w' ho' hg' => ?_)
    have HSn : Hid (Below w3.heap.size w3 w') := Lib.hid (HS.out.grown hg' HS.out.size (fun j hj => (HO.out.lt j hj).1))
    have HOn := Lib.hid ho'
    refine hK _ _ HSn.out ?_
    clear hK K hg' ho' HS HO
    have HS := HSn
    have HO := HOn
    clear HSn HOn
    have HO2 : Hid (Reads _ .u8 _ (B ++ l)) := Lib.hid HO.out.reads
    refine held_one (i := 10) (by kernel_rfl) rfl (fun K hK => ?_)
    go_simp
    refine (refSha_any _ _ _ (B ++ l) _ HO2.out hBl (by simp [hB]; omega) (HRC.out.below HS.out (Nat.le_refl _)) (HRF.out.below HS.out (Nat.le_refl _))).mono ?_
    rintro e wn ⟨rfl, hbn⟩
    rw [← HE.out]
    have HSn : Hid (Below w3.heap.size w3 wn) := Lib.hid (HS.out.trans (hbn.mono HS.out.size))
    refine hK _ _ HSn.out ?_
    clear hK K hbn HS
    have HS := HSn
    clear HSn
    refine wpAnyH_take (i := 11) (v := ?_) rfl (by kernel_rfl) (by kernel_rfl) (by kernel_rfl) (fun _ _ _ h => h) (Or.inl ⟨by rfl, ?_⟩) HS.out ?_
    rotate_left
    · intro W hS
      go_simp
      try with_reducible rfl
    refine wpAnyH_take (i := 12) (v := ?_) rfl (by kernel_rfl) (by kernel_rfl) (by kernel_rfl) (fun _ _ _ h => h) (Or.inl ⟨by rfl, ?_⟩) HS.out ?_
    rotate_left
    · intro W hS
      go_simp
      try with_reducible rfl
    refine wpAnyH_take (i := 13) (v := ?_) rfl (by kernel_rfl) (by kernel_rfl) (by kernel_rfl) (fun _ _ _ h => h) (Or.inl ⟨by rfl, ?_⟩) HS.out ?_
    rotate_left
    · intro W hS
      go_simp
      try with_reducible rfl
    refine wpAnyH_take (i := 14) (v := ?_) rfl (by kernel_rfl) (by kernel_rfl) (by kernel_rfl) (fun _ _ _ h => h) (Or.inl ⟨by rfl, ?_⟩) HS.out ?_
    rotate_left
    · intro W hS
      go_simp
      try with_reducible rfl
    refine held_one (i := 15) (by kernel_rfl) rfl (fun K hK => ?_)
    go_simp
    refine (numBytes_any _ _ l l _ (HRO.out.below HS.out (Nat.le_refl _)) (HRL.out.below HS.out (Nat.le_refl _)) HL.out HL.out).mono ?_
    rintro e wn ⟨rfl, rfl⟩
    rw [decide_eq_true rfl]
    refine hK _ _ HS.out ?_
    clear hK K
    refine wpAnyH_take (i := 16) (v := ?_) rfl (by kernel_rfl) (by kernel_rfl) (by kernel_rfl) (fun _ _ _ h => h) (Or.inl ⟨by rfl, ?_⟩) HS.out ?_
    rotate_left
    · intro W hS
      go_simp
      try with_reducible rfl
    refine wpAnyH_take (i := 17) (v := ?_) rfl (by kernel_rfl) (by kernel_rfl) (by kernel_rfl) (fun _ _ _ h => h) (Or.inl ⟨by rfl, ?_⟩) HS.out ?_
    rotate_left
    · intro W hS
      go_simp
      try with_reducible rfl
    refine wpAnyH_done (by kernel_rfl) ?_ _
    go_wp2
    go_ret
    exact ⟨rfl, HB3.out.trans (HS.out.mono HB3.out.size)⟩
  · skip
    go_simp
    have HOm := Lib.hid (owns_empty _ w3.heap.size 5 .u8 HSu.out.size).drew
    have HSm := Lib.hid (HSu.out.alloc HSu.out.size (.cells #[] 5)).drew
    refine hK _ _ HSm.out ?_
    generalize World.drew (World.alloc _ (.cells #[] 5)) = Wm at HOm HSm ⊢
    clear hK K HS
    have HS := HSm
    have HO := HOm
    clear HSm HOm
    refine held_one (i := 2) (by kernel_rfl) rfl (fun K hK => ?_)
    go_simp
    refine (link_any _ B l _ (HRO.out.below HS.out (Nat.le_refl _)) hB hBb (by omega) HL.out (HLD3.out.next HS.out)).mono ?_
    rintro e wn ⟨rfl, hbn⟩
    rw [← HE.out]
    have HSn : Hid (Below w3.heap.size w3 wn) := Lib.hid (HS.out.trans (hbn.mono HS.out.size))
    have HOn := Lib.hid (Owns.keep HO.out hbn)
    clear HO
    have HO := HOn
    clear HOn
    refine hK _ _ HSn.out ?_
    clear hK K hbn HS
    have HS := HSn
    clear HSn
    refine held_one (i := 5) (by kernel_rfl) rfl (fun K hK => ?_)
    refine step_app_reads rfl (.tmp 46) (.tmp 47) 22 rfl w3.heap.size 5 (.int .u8 0) 1 Tryd.underlying22 Tryd.info5 rfl .u8 _ [] rfl HO.out _ B rfl (hrB.out.below HS.out (Nat.le_refl _)) (by decide) (by simp [hB] <;> omega) HS.out.size (fun v' w' ho' hg' => ?_)
    have HSn : Hid (Below w3.heap.size w3 w') := Lib.hid (HS.out.grown hg' HS.out.size (fun j hj => (HO.out.lt j hj).1))
    have HOn := Lib.hid ho'
    refine hK _ _ HSn.out ?_
    clear hK K hg' ho' HS HO
    have HS := HSn
    have HO := HOn
    clear HSn HOn
    refine held_one (i := 7) (by kernel_rfl) rfl (fun K hK => ?_)
    refine step_app_reads rfl (.tmp 48) (.tmp 49) 22 rfl w3.heap.size 5 (.int .u8 0) 1 Tryd.underlying22 Tryd.info5 rfl .u8 _ ([] ++ B) rfl HO.out _ l rfl (HRL.out.below HS.out (Nat.le_refl _)) (by decide) (by simp [hB] <;> omega) HS.out.size (fun v' w' ho' hg' => ?_)
    have HSn : Hid (Below w3.heap.size w3 w') := Lib.hid (HS.out.grown hg' HS.out.size (fun j hj => (HO.out.lt j hj).1))
    have HOn := Lib.hid ho'
    refine hK _ _ HSn.out ?_
    clear hK K hg' ho' HS HO
    have HS := HSn
    have HO := HOn
    clear HSn HOn
    have HO2 : Hid (Reads _ .u8 _ (B ++ l)) := Lib.hid HO.out.reads
    refine held_one (i := 10) (by kernel_rfl) rfl (fun K hK => ?_)
    go_simp
    refine (refSha_any _ _ _ (B ++ l) _ HO2.out hBl (by simp [hB]; omega) (HRC.out.below HS.out (Nat.le_refl _)) (HRF.out.below HS.out (Nat.le_refl _))).mono ?_
    rintro e wn ⟨rfl, hbn⟩
    rw [← HE.out]
    have HSn : Hid (Below w3.heap.size w3 wn) := Lib.hid (HS.out.trans (hbn.mono HS.out.size))
    refine hK _ _ HSn.out ?_
    clear hK K hbn HS
    have HS := HSn
    clear HSn
    refine wpAnyH_take (i := 11) (v := ?_) rfl (by kernel_rfl) (by kernel_rfl) (by kernel_rfl) (fun _ _ _ h => h) (Or.inl ⟨by rfl, ?_⟩) HS.out ?_
    rotate_left
    · intro W hS
      go_simp
      try with_reducible rfl
    refine wpAnyH_take (i := 12) (v := ?_) rfl (by kernel_rfl) (by kernel_rfl) (by kernel_rfl) (fun _ _ _ h => h) (Or.inl ⟨by rfl, ?_⟩) HS.out ?_
    rotate_left
    · intro W hS
      go_simp
      try with_reducible rfl
    refine wpAnyH_take (i := 13) (v := ?_) rfl (by kernel_rfl) (by kernel_rfl) (by kernel_rfl) (fun _ _ _ h => h) (Or.inl ⟨by rfl, ?_⟩) HS.out ?_
    rotate_left
    · intro W hS
      go_simp
      try with_reducible rfl
    refine wpAnyH_take (i := 14) (v := ?_) rfl (by kernel_rfl) (by kernel_rfl) (by kernel_rfl) (fun _ _ _ h => h) (Or.inl ⟨by rfl, ?_⟩) HS.out ?_
    rotate_left
    · intro W hS
      go_simp
      try with_reducible rfl
    refine held_one (i := 15) (by kernel_rfl) rfl (fun K hK => ?_)
    go_simp
    refine (numBytes_any _ _ l l _ (HRO.out.below HS.out (Nat.le_refl _)) (HRL.out.below HS.out (Nat.le_refl _)) HL.out HL.out).mono ?_
    rintro e wn ⟨rfl, rfl⟩
    rw [decide_eq_true rfl]
    refine hK _ _ HS.out ?_
    clear hK K
    refine wpAnyH_take (i := 16) (v := ?_) rfl (by kernel_rfl) (by kernel_rfl) (by kernel_rfl) (fun _ _ _ h => h) (Or.inl ⟨by rfl, ?_⟩) HS.out ?_
    rotate_left
    · intro W hS
      go_simp
      try with_reducible rfl
    refine wpAnyH_take (i := 17) (v := ?_) rfl (by kernel_rfl) (by kernel_rfl) (by kernel_rfl) (fun _ _ _ h => h) (Or.inl ⟨by rfl, ?_⟩) HS.out ?_
    rotate_left
    · intro W hS
      go_simp
      try with_reducible rfl
    refine wpAnyH_done (by kernel_rfl) ?_ _
    go_wp2
    go_ret
    exact ⟨rfl, HB3.out.trans (HS.out.mono HB3.out.size)⟩

end Go.Proofs.YtjhipfgmiilmdaaDoor
