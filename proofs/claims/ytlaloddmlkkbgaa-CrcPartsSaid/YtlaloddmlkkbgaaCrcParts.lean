/- The walk of the statement on parted bytes. -/
import Derived.Test.YtlaloddmlkkbgaaCrcQ
import Derived.Deep.RegionHeld3
namespace Go.Proofs.Ytlaloddmlkkbgaa
open Go.RowKit

set_option maxHeartbeats 400000 in
set_option maxRecDepth 100000 in
theorem parts_walk (at_ : Int) (v : Value) (b : List Nat) (w : World) (hb : Reads w .u8 v b) (bb : ∀ y ∈ b, y < 256) :
    Calls Try.prog 10 #[v, .int .i64 at_] w fun e w' => e = .returned (.bool true) ∧ Below w.heap.size w w' := by
  obtain ⟨ao, cap, rfl, l1, m1, _⟩ := hb.val
  go_enter Try.func10, Try.ntmps10
  go_wp2_with fail
  refine (alive2_any w).mono ?_
  rintro e w0 ⟨rfl, hb0⟩
  have hr0 := hb.new hb0
  clear hb
  by_cases h1 : 500 < (b.length : Int)
  · go_wp2
    go_ret
    exact ⟨rfl, hb0⟩
  have HB0 := Lib.hid hb0
  obtain ⟨k, hk, hkl⟩ : ∃ k : Nat, wrap64 ((IntKind.u64.wrap at_).tmod ((b.length : Int) + 1)) = (k : Int) ∧ k ≤ b.length := by
    have hu : 0 ≤ IntKind.u64.wrap at_ := by show 0 ≤ at_ % 18446744073709551616; omega
    have e1 := Int.tmod_nonneg ((b.length : Int) + 1) hu
    have e2 := Int.tmod_lt_of_pos (IntKind.u64.wrap at_) (show (0 : Int) < (b.length : Int) + 1 by omega)
    rw [IntWalk.wrap64_in _ (by omega)]
    exact ⟨_, (Int.toNat_of_nonneg e1).symm, by omega⟩
  have HK := Lib.hid hk; clear hk
  go_wp2_with fail
  rw [HK.out]
  refine (new_any _).mono ?_
  rintro e w1 ⟨p, rfl, hp, hm1, hb2⟩
  have HP := Lib.hid hp
  have HB1 := Lib.hid hb2
  have HM1 := Lib.hid hm1
  have HR1 := Lib.hid (hr0.new hb2)
  clear hp hb2 hm1 hr0 hb0
  go_wp2_with fail
  refine (sealed_any p 0 _ b w1 HM1.out (by decide) HR1.out bb (by omega)).mono ?_
  rintro e w2 ⟨v2, rfl, ho2, hm2, hg2⟩
  have HO2 := Lib.hid ho2.reads
  have HM2 := Lib.hid hm2
  have HG2 := Lib.hid hg2
  clear ho2 hm2 hg2
  have hos := open_sealed b
  have hb4 : ∀ y ∈ b ++ four (crcx 0 b), y < 256 := fun y hy => (List.mem_append.1 hy).elim (bb y) (four_byte _ y)
  have hl4 : (b ++ four (crcx 0 b)).length ≤ 90000000000000 := by rw [List.length_append, four_length]; omega
  go_wp2_with fail
  refine (opened_any p 1 v2 (b ++ four (crcx 0 b)) w2 HM2.out (by decide) HO2.out hb4 hl4).mono ?_
  rw [hos.1, hos.2, errV_zero]
  rintro e w3 ⟨v3, rfl, ho3, hm3, hg3⟩
  have HO3 := Lib.hid ho3.reads
  have HR3 := Lib.hid (reads_kept HM1.out HR1.out (HG2.out.trans hg3))
  have HG3 := Lib.hid (HG2.out.trans hg3)
  have HM3 := Lib.hid hm3
  clear ho3 hm3 hg3 hos hb4 hl4
  go_wp2_with fail
  have hsl1 := fun w => slice_head w ao b.length cap k (by omega)
  have hsl2 := fun w => slice_tail w ao b.length cap k hkl
  have hrd := fun W (hW : w3.grownBy W (some p)) => reads_kept HM3.out HR3.out hW
  have RB := Lib.hid hrd
  have RO := Lib.hid (fun W (hW : w3.grownBy W (some p)) => reads_kept HM3.out HO3.out hW)
  have RH := Lib.hid (fun W (hW : w3.grownBy W (some p)) => (hrd W hW).head hkl)
  have hrt := fun W (hW : w3.grownBy W (some p)) => (hrd W hW).tail hkl
  clear hrd
  generalize (if cap = k then ao else ao.map fun x => x.add k) = ao2 at hsl2 hrt
  have RT := Lib.hid hrt; clear hrt
  have hq1 : U32 (crcx 0 (b.take k)) := crcx_lt (by decide) (fun y hy => bb y (List.mem_of_mem_take hy))
  have hbt : ∀ y ∈ b.take k, y < 256 := fun y hy => bb y (List.mem_of_mem_take hy)
  have hbd : ∀ y ∈ b.drop k, y < 256 := fun y hy => bb y (List.mem_of_mem_drop hy)
  have hfl : [b.take k, b.drop k].flatten = b := by simp
  have hby : ∀ l ∈ [b.take k, b.drop k], ∀ y ∈ l, y < 256 := by
    intro l hl y hy
    simp only [List.mem_cons, List.not_mem_nil, or_false] at hl
    rcases hl with rfl | rfl
    · exact hbt y hy
    · exact hbd y hy
  have HPT : Hid (∀ (W : World), w3.grownBy W (some p) → Parts (W.alloc (.cells #[.slice ao k cap, .slice ao2 (b.length - k) (cap - k)] 22)) (.slice (some ⟨W.heap.size, 0, none⟩) 2 2) [b.take k, b.drop k]) := Lib.hid fun W hg => by
    refine parts_mark W _ _ [b.take k, b.drop k] _ rfl rfl (by simp [maxLen]) fun i hi => ?_
    have hn := (Below.refl W.heap.size W).alloc (Nat.le_refl _) (.cells #[.slice ao k cap, .slice ao2 (b.length - k) (cap - k)] 22)
    match i with
    | 0 => exact ⟨(fun _ _ h => by cases h), (RH.out W hg).new hn⟩
    | 1 => exact ⟨(fun _ _ h => by cases h), (RT.out W hg).new hn⟩
    | i + 2 => exact absurd hi (by simp only [List.length_cons, List.length_nil]; omega)
  have HCA : Hid (crcx (crcx 0 (b.take k)) (b.drop k) = crcx 0 b) := Lib.hid (by rw [← crcx_append, List.take_append_drop])
  have HX2 : Hid (w3.grownBy w3 (some p)) := Lib.hid (World.grownBy.refl _ _)
  have HM2' := HM3
  clear HM3
  go_region_held3 (fun _ => True) (trivial) (first
    | (go_at_call 16; refine (numBytes_any v3 _ b b _ (by first | exact RO.out _ HX7.out | exact RO.out _ (grownBy_drew HX7.out)) (by first | exact RB.out _ HX7.out | exact RB.out _ (grownBy_drew HX7.out)) bb bb).mono ?_; rw [decide_eq_true rfl]; rintro e w9 ⟨rfl, rfl⟩)
    | (go_at_call 43; refine (sum_any p 6 _ b _ (by first | exact HM6.out | exact HM6.out.drew) (by decide) (by first | exact RB.out _ HX6.out | exact RB.out _ (grownBy_drew HX6.out)) bb).mono ?_; rintro e w8 ⟨rfl, hm, hg⟩
       have HM7 := Lib.hid hm
       have HX7 : Hid (w3.grownBy w8 (some p)) := Lib.hid (by first | exact HX6.out.trans hg | exact (grownBy_drew HX6.out).trans hg | exact (HX6.out.trans (World.grownBy_alloc _ _ _)).trans hg | exact (grownBy_drew (HX6.out.trans (World.grownBy_alloc _ _ _))).trans hg | exact ((grownBy_drew HX6.out).trans (World.grownBy_alloc _ _ _)).trans hg | exact (grownBy_drew ((grownBy_drew HX6.out).trans (World.grownBy_alloc _ _ _))).trans hg)
       clear hm hg)
    | (go_at_call 45; refine (extend_any p 5 (crcx 0 (b.take k)) _ (b.drop k) _ (by first | exact HM5.out | exact HM5.out.drew) (by decide) hq1 (by first | exact RT.out _ HX5.out | exact RT.out _ (grownBy_drew HX5.out)) hbd).mono ?_; rw [HCA.out]; rintro e w7 ⟨rfl, hm, hg⟩
       have HM6 := Lib.hid hm
       have HX6 : Hid (w3.grownBy w7 (some p)) := Lib.hid (by first | exact HX5.out.trans hg | exact (grownBy_drew HX5.out).trans hg | exact (HX5.out.trans (World.grownBy_alloc _ _ _)).trans hg | exact (grownBy_drew (HX5.out.trans (World.grownBy_alloc _ _ _))).trans hg | exact ((grownBy_drew HX5.out).trans (World.grownBy_alloc _ _ _)).trans hg | exact (grownBy_drew ((grownBy_drew HX5.out).trans (World.grownBy_alloc _ _ _))).trans hg)
       clear hm hg)
    | (go_at_call 43; refine (sum_any p 4 _ (b.take k) _ (by first | exact HM4.out | exact HM4.out.drew) (by decide) (by first | exact RH.out _ HX4.out | exact RH.out _ (grownBy_drew HX4.out)) hbt).mono ?_; rintro e w6 ⟨rfl, hm, hg⟩
       have HM5 := Lib.hid hm
       have HX5 : Hid (w3.grownBy w6 (some p)) := Lib.hid (by first | exact HX4.out.trans hg | exact (grownBy_drew HX4.out).trans hg | exact (HX4.out.trans (World.grownBy_alloc _ _ _)).trans hg | exact (grownBy_drew (HX4.out.trans (World.grownBy_alloc _ _ _))).trans hg | exact ((grownBy_drew HX4.out).trans (World.grownBy_alloc _ _ _)).trans hg | exact (grownBy_drew ((grownBy_drew HX4.out).trans (World.grownBy_alloc _ _ _))).trans hg)
       clear hm hg)
    | (go_at_call 43; refine (sum_any p 3 _ b _ (by first | exact HM3.out | exact HM3.out.drew) (by decide) (by first | exact RB.out _ HX3.out | exact RB.out _ (grownBy_drew HX3.out)) bb).mono ?_; rintro e w5 ⟨rfl, hm, hg⟩
       have HM4 := Lib.hid hm
       have HX4 : Hid (w3.grownBy w5 (some p)) := Lib.hid (by first | exact HX3.out.trans hg | exact (grownBy_drew HX3.out).trans hg | exact (HX3.out.trans (World.grownBy_alloc _ _ _)).trans hg | exact (grownBy_drew (HX3.out.trans (World.grownBy_alloc _ _ _))).trans hg | exact ((grownBy_drew HX3.out).trans (World.grownBy_alloc _ _ _)).trans hg | exact (grownBy_drew ((grownBy_drew HX3.out).trans (World.grownBy_alloc _ _ _))).trans hg)
       clear hm hg)
    | (go_at_call 47; refine (of_any p 2 _ [b.take k, b.drop k] _ (by first | exact HM2'.out.alloc _ | exact (HM2'.out.alloc _).drew | exact HM2'.out.drew.alloc _ | exact (HM2'.out.drew.alloc _).drew) (by decide) (by first | exact HPT.out _ HX2.out | exact HPT.out _ (grownBy_drew HX2.out) | exact (HPT.out _ HX2.out).drew | exact (HPT.out _ (grownBy_drew HX2.out)).drew) hby).mono ?_; rw [hfl]; rintro e w4 ⟨rfl, hm, hg⟩
       have HM3 := Lib.hid hm
       have HX3 : Hid (w3.grownBy w4 (some p)) := Lib.hid (by first | exact HX2.out.trans hg | exact (grownBy_drew HX2.out).trans hg | exact (HX2.out.trans (World.grownBy_alloc _ _ _)).trans hg | exact (grownBy_drew (HX2.out.trans (World.grownBy_alloc _ _ _))).trans hg | exact ((grownBy_drew HX2.out).trans (World.grownBy_alloc _ _ _)).trans hg | exact (grownBy_drew ((grownBy_drew HX2.out).trans (World.grownBy_alloc _ _ _))).trans hg)
       clear hm hg))
  go_wp2
  go_ret
  have hz : Below w0.heap.size w0 w1 := HB1.out
  have hy : w1.grownBy w8 (some p) := HG3.out.trans HX7.out
  exact ⟨rfl, HB0.out.trans ((hz.trans (below_grown hy HP.out hz.size)).mono HB0.out.size)⟩

end Go.Proofs.Ytlaloddmlkkbgaa
