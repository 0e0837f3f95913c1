/- alive of law 14; the document's Put. -/
import Derived.Test.YtojndpelilolkaaSgP
import Derived.Deep.RegionHeldLaw
namespace Go.Proofs.Ytojndpelilolkaa
open Go.RowKit

theorem alive_seg : sgC 3 [((2 : Int), [])] = 0 ∧ (fr (sgtext 3 [((2 : Int), [])])).length = 9 ∧ (fr (sgtext 3 [((2 : Int), [])])).take 5 = [4, 3, 1, 1, 2] := by decide +kernel
theorem cells_one (w : World) (k : Int) : CellsAt (w.alloc (.cells #[.int .i64 k, .slice none 0 0] 41)) (fun _ => True) (.slice (some ⟨w.heap.size, 0, none⟩) 1 1) [(k, [])] := by
  refine ⟨_, 1, rfl, Nat.le_refl _, by simp [maxLen], by simp, .inr ⟨w.heap.size, 0, rfl, by simp, trivial, fun i hi => ?_⟩⟩
  obtain rfl : i = 0 := by simpa using hi
  obtain ⟨c0, c1, _, _⟩ := blk2 (heap_alloc_new w (.cells #[.int .i64 k, .slice none 0 0] 41))
  exact ⟨_, c0, c1, (reads_none _ _).at'.mono fun _ _ _ => trivial⟩

set_option maxHeartbeats 1000000 in
set_option maxRecDepth 100000 in
theorem alive14_any (w : World) : Calls Try.prog 6 #[] w fun e w' => e = .returned (.bool true) ∧ Below w.heap.size w w' := by
  have HP := Lib.hid (sgput_any 3 _ [((2 : Int), [])] _ (fun _ => True) (cells_one w 2) (by simp))
  have HB1 : Hid (Below w.heap.size w (w.alloc (.cells #[.int .i64 2, .slice none 0 0] 41))) := Lib.hid ((Below.refl _ _).alloc (Nat.le_refl _) _)
  go_enter Try.func6, Try.ntmps6
  go_wp2_with fail
  refine HP.out.mono ?_
  rintro e w1 ⟨hb1, ⟨_, v1, rfl, ho1⟩ | ⟨hne, _⟩⟩
  rotate_left
  · exact absurd alive_seg.1 hne
  have HB2 := Lib.hid (HB1.out.trans (hb1.mono HB1.out.size))
  have HR := Lib.hid ho1.reads
  obtain ⟨ao, cap, rfl, l1, _, _⟩ := ho1.reads.val
  rw [alive_seg.2.1] at l1
  have l1' : (5 : Int) ≤ (cap : Int) := by omega
  have hr5 := HR.out.head (m := 5) (by rw [alive_seg.2.1]; decide)
  rw [alive_seg.2.2] at hr5
  have hcv : (convert 32 9 (.slice ao 5 cap)).run Try.prog w1 = .ok (.string (strOfNums (([4, 3, 1, 1, 2] : List Nat).map (fun n : Nat => (n : Int))))) w1 := conv_reads _ _ w1 hr5
  rw [show strOfNums (([4, 3, 1, 1, 2] : List Nat).map (fun n : Nat => (n : Int))) = { data := #[4, 3, 1, 1, 2] } from rfl] at hcv
  rw [alive_seg.2.1]
  have hsl := fun W => slice_head W ao 9 cap 5 (by omega)
  clear hb1 ho1 hr5
  go_wp2
  go_ret
  exact ⟨rfl, HB2.out⟩

set_option maxHeartbeats 4000000 in
set_option maxRecDepth 100000 in
theorem rsgput_any (f : Int) (v : Value) (cs : List IC) (w : World) (base : Nat) (h : OwnsD w base v cs) (hz : sgC f cs = 0) (h8 : ∀ c ∈ cs, ∀ y ∈ c.2, y < 256) :
    Calls Try.prog 20 #[.agg #[.int .i64 f, v]] w fun e w' => ∃ v', e = .returned v' ∧ Owns w' w.heap.size 5 .u8 v' (fr (sgtext f cs)) ∧ Below w.heap.size w w' := by
  obtain ⟨ao, cap, rfl⟩ := h.form
  obtain ⟨hf0, hf1, hcl, hck⟩ := sgC_zero hz
  obtain ⟨en, rfl⟩ : ∃ en : Nat, f = (en : Int) := ⟨f.toNat, by omega⟩
  have HU : Hid (U64 en) := Lib.hid (by unfold U64; omega)
  have hwr : IntKind.u64.wrap (en : Int) = (en : Int) := IntWalk.u64_in _ (by omega)
  have HTL := Lib.hid (sgtext_len hz h8)
  have HTX : Hid (sgtext (en : Int) cs = enc en ++ rbytes (cs.map toCC)) := Lib.hid (by unfold sgtext; rw [Int.toNat_natCast])
  have HRL : Hid ((rbytes (cs.map toCC)).length ≤ 6410) := Lib.hid (rbytes_len (by rw [List.length_map]; exact hcl) (sg_okC hck h8))
  obtain ⟨W1, hW1⟩ : ∃ W1, W1 = w.alloc (.cells #[.int .i64 (en : Int), .slice ao cs.length cap] 29) := ⟨_, rfl⟩
  have hb1 : Below w.heap.size w W1 := by rw [hW1]; exact (Below.refl _ _).alloc (Nat.le_refl _) _
  have hx1 : SdB W1 w.heap.size (.int .i64 (en : Int)) (.slice ao cs.length cap) := by rw [hW1]; exact sdb_new _ _ _
  have hmi : (cs.map toCC).map toIC = cs := map_toIC hck
  have HRUN : Hid (∀ W, Below W1.heap.size W1 W → Calls Try.prog 37 #[.slice ao cs.length cap] W fun e w' => ∃ v', e = .returned v' ∧ Owns w' W.heap.size 5 .u8 v' (rbytes (cs.map toCC)) ∧ Below W.heap.size W w') := Lib.hid fun W hb =>
    rrun_any _ (cs.map toCC) W base (by rw [hmi]; exact (h.below hb1).below hb) (sg_okC hck h8) (by rw [List.length_map]; exact hcl)
  have HX : Hid (∀ W, Below W1.heap.size W1 W → W.cell? ⟨w.heap.size, 0, none⟩ = some (.int .i64 (en : Int)) ∧ W.cell? ⟨w.heap.size, 1, none⟩ = some (.slice ao cs.length cap)) := Lib.hid fun W hb => by
    obtain ⟨a, b, _, _⟩ := (hx1.old hb).x
    exact ⟨a, b⟩
  have HB1 := Lib.hid hb1
  have HD1 : Hid (Below W1.heap.size W1 W1.drew) := Lib.hid ⟨rfl, rfl, rfl, Nat.le_refl _, fun _ _ => rfl⟩
  have HRK := Lib.hid (refBytes_any en W1.drew HU.out)
  obtain ⟨x0, x1⟩ := HX.out W1 (Below.refl _ _)
  obtain ⟨n, hn⟩ : ∃ n, n = cs.length := ⟨_, rfl⟩
  simp only [← hn] at HRUN HX hW1 x1 ⊢
  have HW1 := Lib.hid hW1
  clear h hz h8 hf0 hf1 hcl hck hb1 hx1 hmi hn hW1
  go_enter Try.func20, Try.ntmps20
  go_wp2_with fail
  rw [← HW1.out]
  go_region_held_law (fun w' => w'.cell? ⟨w.heap.size, 0, none⟩ = some (.int .i64 (en : Int)) ∧ w'.cell? ⟨w.heap.size, 1, none⟩ = some (.slice ao n cap)) (go_keep) (first
    | (refine step_app_reads (by rfl) _ _ _ (by rfl) W1.heap.size 5 (.int .u8 0) 1 Try.underlying32 Try.info5 rfl .u8 _ (enc en) (by rfl) HO3.out _ (rbytes (cs.map toCC)) (by rfl) HR4.out (by decide) (by have h1 := enc_len10 HU.out; have h2 := HRL.out; omega) HB14.out.size ?_
       intro v5 w5 ho5 hg5
       have HB15 : Hid (Below W1.heap.size W1 w5) := Lib.hid (HB14.out.grown hg5 HB14.out.size fun j hj => (HO3.out.lt j hj).1)
       obtain ⟨x0, x1⟩ := HX.out w5 HB15.out
       have HFR := Lib.hid (fun (W : World) (hb : Below w5.heap.size w5 W) => refFrame_any v5 (sgtext (en : Int) cs) W (by rw [HTX.out]; exact ho5.reads.new hb) HTL.out.2 (by have := HTL.out.1; omega))
       clear ho5 hg5)
    | (go_at_call 36
       with_reducible refine HRK.out.mono ?_
       rintro r w3 ⟨v3, rfl, ho3, hb3⟩
       have HB13 : Hid (Below W1.heap.size W1 w3) := Lib.hid (HD1.out.trans (hb3.mono HD1.out.size))
       obtain ⟨x0, x1⟩ := HX.out w3 HB13.out
       have HOA := Lib.hid ho3
       clear ho3 hb3)
    | (go_at_call 37
       refine (HRUN.out w3 HB13.out).mono ?_
       rintro r w4 ⟨v4, rfl, ho4, hb4⟩
       have HB14 : Hid (Below W1.heap.size W1 w4) := Lib.hid (HB13.out.trans (hb4.mono HB13.out.size))
       obtain ⟨x0, x1⟩ := HX.out w4 HB14.out
       have HO3 : Hid (Owns w4 W1.heap.size 5 .u8 v3 (enc en)) := Lib.hid (HOA.out.below hb4 (Nat.le_refl _))
       have HR4 := Lib.hid ho4.reads
       clear ho4 hb4)
    | (go_at_call 35
       refine (HFR.out _ ?hbf).mono ?_
       case hbf => first | exact Below.refl _ _ | exact ⟨rfl, rfl, rfl, Nat.le_refl _, fun _ _ => rfl⟩
       rintro r w9 ⟨v9, rfl, ho9, hb9⟩
       have HB9 : Hid (Below W1.heap.size W1 w9) := Lib.hid (HB15.out.trans (Below.mono ⟨hb9.os, hb9.tape, hb9.output, hb9.size, hb9.block⟩ HB15.out.size))
       have HO9 : Hid (Owns w9 w.heap.size 5 .u8 v9 (fr (sgtext (en : Int) cs))) := Lib.hid (ho9.mono (Nat.le_trans HB1.out.size HB15.out.size))
       obtain ⟨x0, x1⟩ := HX.out w9 HB9.out
       clear ho9 hb9))
  all_goals
    go_wp2
    go_ret
    exact ⟨_, rfl, HO9.out, HB1.out.trans (HB9.out.mono HB1.out.size)⟩

end Go.Proofs.Ytojndpelilolkaa
