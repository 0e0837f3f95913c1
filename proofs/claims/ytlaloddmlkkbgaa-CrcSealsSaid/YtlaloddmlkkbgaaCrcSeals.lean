/- The walk of the statement on sealed bytes. -/
import Derived.Test.YtlaloddmlkkbgaaCrcQ
import Derived.Deep.RegionHeldLaw
namespace Go.Proofs.Ytlaloddmlkkbgaa
open Go.RowKit

theorem openL_len {l : List Nat} (h : openC l ≠ 0) : openL l = [] := by unfold openL; rw [if_neg h]

set_option maxHeartbeats 2000000 in
set_option maxRecDepth 100000 in
theorem seals_walk (v : Value) (b : List Nat) (w : World) (hb : Reads w .u8 v b) (bb : ∀ y ∈ b, y < 256) :
    Calls Try.prog 9 #[v] w fun e w' => e = .returned (.bool true) ∧ Below w.heap.size w w' := by
  obtain ⟨ao, cap, rfl, l1, m1, _⟩ := hb.val
  go_enter Try.func9, Try.ntmps9
  go_wp2_with fail
  refine (alive2_any w).mono ?_
  rintro e w0 ⟨rfl, hb0⟩
  have hr0 := hb.new hb0
  clear hb
  by_cases h1 : 500 < (b.length : Int)
  · go_wp2
    go_ret
    exact ⟨rfl, hb0⟩
  have HB0 := Lib.hid hb0
  go_wp2_with fail
  refine (new_any _).mono ?_
  rintro e w1 ⟨p, rfl, hp, hm1, hb2⟩
  have HP := Lib.hid hp
  have HB1 := Lib.hid hb2
  have HM1 := Lib.hid hm1
  have HR1 := Lib.hid (hr0.new hb2)
  clear hp hb2 hm1 hr0 hb0
  go_wp2_with (at_builtin; go_must (refine wpList_app _ rfl _ _ 22 rfl w1.heap.size 5 (.int .u8 0) 1 Try.underlying22 Try.info5 rfl .u8 _ [] rfl (owns_empty w1 w1.heap.size 5 .u8 (Nat.le_refl _)) _ b rfl (HR1.out.below ((Below.refl _ _).alloc (Nat.le_refl _) _) (Nat.le_refl _)) (by decide) ?c1 ?c3 ?_))
  case c1 => (try simp); omega
  case c3 => simp
  intro v2 w2 ho2 hg2
  have hd2 : Below w1.heap.size w1 w2 := ((Below.refl _ _).alloc (Nat.le_refl _) _).grown hg2 (by simp) (fun j hj => by simp [Value.ownBlock] at hj; omega)
  have HO2 := Lib.hid ho2.reads
  have HD2 := Lib.hid hd2
  have HM2 := Lib.hid (HM1.out.new hd2)
  have HR2 := Lib.hid (HR1.out.new hd2)
  clear ho2 hg2 hd2
  go_wp2_with fail
  refine (sealed_any p 0 _ b w2 HM2.out (by decide) HO2.out bb (by omega)).mono ?_
  rintro e w3 ⟨v3, rfl, ho3, hm3, hg3⟩
  have HO3 := Lib.hid ho3.reads
  have HM3 := Lib.hid hm3
  have HG3 := Lib.hid hg3
  have HR3 := Lib.hid (reads_kept HM2.out HR2.out hg3)
  clear ho3 hm3 hg3
  go_wp2_with (at_builtin; go_must (refine wpList_app _ rfl _ _ 22 rfl w3.heap.size 5 (.int .u8 0) 1 Try.underlying22 Try.info5 rfl .u8 _ [] rfl (owns_empty w3 w3.heap.size 5 .u8 (Nat.le_refl _)) _ b rfl (HR3.out.below ((Below.refl _ _).alloc (Nat.le_refl _) _) (Nat.le_refl _)) (by decide) ?c1 ?c3 ?_))
  case c1 => (try simp); omega
  case c3 => simp
  intro v4 w4 ho4 hg4
  have hd4 : Below w3.heap.size w3 w4 := ((Below.refl _ _).alloc (Nat.le_refl _) _).grown hg4 (by simp) (fun j hj => by simp [Value.ownBlock] at hj; omega)
  have HO4 := Lib.hid ho4
  have HD4 := Lib.hid hd4
  have HR4 := Lib.hid (HR3.out.new hd4)
  clear ho4 hg4 hd4
  go_wp2_with fail
  refine (refSum_any _ b w4 HR4.out bb).mono ?_
  rintro e w' ⟨rfl, rfl⟩
  go_wp2_with fail
  refine (refFour_any (crcx 0 b) w4).mono ?_
  rintro e w5 ⟨v5, rfl, ho5, hd5⟩
  have HO5 := Lib.hid ho5.reads
  have HD5 := Lib.hid hd5
  have HO45 := Lib.hid (HO4.out.below hd5 (Nat.le_refl _))
  clear ho5 hd5
  go_wp2_with (at_builtin; go_must (refine wpList_app _ rfl _ _ 22 rfl w3.heap.size 5 (.int .u8 0) 1 Try.underlying22 Try.info5 rfl .u8 _ b rfl HO45.out _ (four (crcx 0 b)) rfl HO5.out (by decide) ?c1 ?c3 ?_))
  case c1 => rw [four_length]; omega
  case c3 => exact Nat.le_trans HD4.out.size HD5.out.size
  intro v6 w6 ho6 hg6
  have hd6 : Below w3.heap.size w3 w6 := (HD4.out.trans (HD5.out.mono HD4.out.size)).grown hg6 (Nat.le_trans HD4.out.size HD5.out.size) (fun j hj => (HO45.out.lt j hj).1)
  have HO6 := Lib.hid ho6.reads
  have HO36 := Lib.hid (HO3.out.new hd6)
  have HM6 := Lib.hid (HM3.out.new hd6)
  have HG6 : Hid (w2.grownBy w6 (some p)) := Lib.hid (HG3.out.trans (below_all hd6 _))
  have hb4 : ∀ y ∈ b ++ four (crcx 0 b), y < 256 := fun y hy => (List.mem_append.1 hy).elim (bb y) (four_byte _ y)
  clear ho6 hg6 hd6
  go_wp2_with fail
  refine (numBytes_any _ _ _ _ w6 HO36.out HO6.out hb4 hb4).mono ?_
  rw [decide_eq_true rfl]
  rintro e w' ⟨rfl, rfl⟩
  go_wp2_with fail
  refine (opened_any p 1 _ b w6 HM6.out (by decide) (reads_kept HM2.out HO2.out HG6.out) bb (by omega)).mono ?_
  rintro e w7 ⟨v7, rfl, ho7, hm7, hg7⟩
  obtain ⟨ao7, cap7, rfl, _, _, _⟩ := ho7.reads.val
  have HO7 := Lib.hid ho7.reads
  have HM7 := Lib.hid hm7
  have HG7 : Hid (w2.grownBy w7 (some p)) := Lib.hid (HG6.out.trans hg7)
  clear ho7 hm7 hg7 hb4
  have hfin : Below w.heap.size w w7 := by
    have hz : Below w0.heap.size w0 w2 := HB1.out.trans (HD2.out.mono HB1.out.size)
    exact HB0.out.trans ((hz.trans (below_grown HG7.out HP.out hz.size)).mono HB0.out.size)
  have HFIN := Lib.hid hfin; clear hfin
  go_wp2_with fail
  refine (asked_any p 2 w7 HM7.out).mono ?_
  rintro e w' ⟨rfl, rfl⟩
  go_wp2_with fail
  refine (numBytes_any _ _ b b w7 (reads_kept HM2.out HO2.out HG7.out) (reads_kept HM2.out HR2.out HG7.out) bb bb).mono ?_
  rw [decide_eq_true rfl]
  rintro e w' ⟨rfl, rfl⟩
  by_cases h4 : (b.length : Int) - 4 < 0
  · have hC : openC b = 2 := by unfold openC; rw [if_pos (by omega)]
    have hL : (openL b).length = 0 := by rw [openL_len (by rw [hC]; decide)]; rfl
    rw [hC, hL]
    go_wp2_with fail
    refine (is_any 2 w7).mono ?_
    rintro e w' ⟨rfl, rfl⟩
    go_wp2
    go_ret
    exact ⟨rfl, HFIN.out⟩
  obtain ⟨m, hm4⟩ : ∃ m, b.length = m + 4 := ⟨b.length - 4, by omega⟩
  have hsl1 := fun w => slice_head w ao b.length cap m (by omega)
  have hsl2 := fun w => slice_tail w ao b.length cap m (by omega)
  have hsub : (b.length : Int) - 4 = (m : Int) := by omega
  have hbt : ∀ y ∈ b.take m, y < 256 := fun y hy => bb y (List.mem_of_mem_take hy)
  have hbd : ∀ y ∈ b.drop m, y < 256 := fun y hy => bb y (List.mem_of_mem_drop hy)
  have RH : Hid (Reads w7 .u8 (.slice ao m cap) (b.take m)) := Lib.hid ((reads_kept HM2.out HR2.out HG7.out).head (by omega))
  have hrt := fun W (hW : Below w7.heap.size w7 W) => conv_reads _ _ W (((reads_kept HM2.out HR2.out HG7.out).new hW).tail (show m ≤ b.length by omega))
  generalize (if cap = m then ao else ao.map fun x => x.add m) = ao2 at hsl2 hrt
  have hcf := fun W v' (h : Reads W .u8 v' (four (crcx 0 (b.take m)))) => conv_reads v' _ W h
  have hcmp := str_beq (four_byte (crcx 0 (b.take m))) hbd
  have hop : openC b = if four (crcx 0 (b.take m)) = b.drop m then 0 else 11 := by
    unfold openC
    rw [if_neg (by omega), show b.length - 4 = m from by omega]
    have e : b.take m ++ b.drop m = b := List.take_append_drop _ _
    by_cases h : four (crcx 0 (b.take m)) = b.drop m
    · rw [if_pos h, if_pos (by rw [h, e])]
    · rw [if_neg h, if_neg (fun h2 => h (List.append_cancel_left (h2.trans e.symm)))]
  have hol : openC b = 0 → openL b = b.take m := fun h => by unfold openL; rw [if_pos h, show b.length - 4 = m from by omega]
  have HOL := Lib.hid hol; clear hol
  generalize strOfNums ((b.drop m).map (fun n : Nat => (n : Int))) = sb at hrt hcmp
  generalize strOfNums ((four (crcx 0 (b.take m))).map (fun n : Nat => (n : Int))) = sa at hcf hcmp
  have HRT := Lib.hid hrt; clear hrt
  have HCF := Lib.hid hcf; clear hcf
  have HRH : Hid (Reads w7 .u8 (.slice ao m cap) (b.take m)) := RH
  have HM44 := Lib.hid hm4; clear hm4
  by_cases heq : four (crcx 0 (b.take m)) = b.drop m
  · rw [if_pos heq] at hop
    rw [decide_eq_true heq] at hcmp
    have HOP := Lib.hid hop; clear hop heq
    go_wp2_with fail
    go_region_held_law (fun W => (convert 22 9 (.slice ao2 (b.length - m) (cap - m))).run Try.prog W = .ok (.string sb) W) (first | exact HRT.out _ (Below.refl _ _) | exact HRT.out _ (Below.refl _ _).drew | exact HRT.out _ HD8.out | exact HRT.out _ HD8.out.drew) (first
      | (go_at_call 44; refine (refSum_any _ (b.take m) _ (by first | exact HRH.out | exact HRH.out.drewN 1) hbt).mono ?_; rintro e w' ⟨rfl, rfl⟩)
      | (go_at_call 50; refine (refFour_any (crcx 0 (b.take m)) _).mono ?_; rintro e w8 ⟨v8, rfl, ho8, hd8⟩
         obtain ⟨ao8, cap8, rfl, _, _, _⟩ := ho8.reads.val
         have hc8 := HCF.out _ _ ho8.reads
         have hc8' := HCF.out w8.drew _ ho8.reads
         have HD8 : Hid (Below w7.heap.size w7 w8) := Lib.hid (by first | exact hd8 | exact ⟨hd8.os, hd8.tape, hd8.output, hd8.size, hd8.block⟩)
         clear ho8 hd8))
    have hlm : (b.take m).length = m := by rw [List.length_take]; have := HM44.out; omega
    rw [HOP.out, HOL.out HOP.out, errV_zero, hlm]
    have HO8 : Hid (Reads w8 .u8 (.slice ao7 m cap7) (b.take m)) := Lib.hid (by
      have h := HO7.out.new HD8.out
      rw [HOL.out HOP.out, hlm] at h
      exact h)
    clear hlm
    have hsl8 := fun w => slice_head w ao b.length cap m (by have := HM44.out; omega)
    go_wp2_with fail
    refine (numBytes_any _ _ (b.take m) (b.take m) w8 HO8.out (HRH.out.new HD8.out) hbt hbt).mono ?_
    rw [decide_eq_true rfl]
    rintro e w' ⟨rfl, rfl⟩
    go_wp2
    go_ret
    exact ⟨rfl, HFIN.out.trans (HD8.out.mono HFIN.out.size)⟩
  · rw [if_neg heq] at hop
    rw [decide_eq_false heq] at hcmp
    have HOP := Lib.hid hop; clear hop heq
    have HL : Hid ((openL b).length = 0) := Lib.hid (by rw [openL_len (by rw [HOP.out]; decide)]; rfl)
    go_wp2_with fail
    go_region_held_law (fun W => (convert 22 9 (.slice ao2 (b.length - m) (cap - m))).run Try.prog W = .ok (.string sb) W) (first | exact HRT.out _ (Below.refl _ _) | exact HRT.out _ (Below.refl _ _).drew | exact HRT.out _ HD8.out | exact HRT.out _ HD8.out.drew) (first
      | (go_at_call 44; refine (refSum_any _ (b.take m) _ (by first | exact HRH.out | exact HRH.out.drewN 1) hbt).mono ?_; rintro e w' ⟨rfl, rfl⟩)
      | (go_at_call 50; refine (refFour_any (crcx 0 (b.take m)) _).mono ?_; rintro e w8 ⟨v8, rfl, ho8, hd8⟩
         obtain ⟨ao8, cap8, rfl, _, _, _⟩ := ho8.reads.val
         have hc8 := HCF.out _ _ ho8.reads
         have hc8' := HCF.out w8.drew _ ho8.reads
         have HD8 : Hid (Below w7.heap.size w7 w8) := Lib.hid (by first | exact hd8 | exact ⟨hd8.os, hd8.tape, hd8.output, hd8.size, hd8.block⟩)
         clear ho8 hd8))
    rw [HOP.out, HL.out]
    go_wp2_with fail
    refine (is_any 11 w8).mono ?_
    rintro e w' ⟨rfl, rfl⟩
    go_wp2
    go_ret
    exact ⟨rfl, HFIN.out.trans (HD8.out.mono HFIN.out.size)⟩

end Go.Proofs.Ytlaloddmlkkbgaa
