/- The walk of the statement on the sums of any bytes. -/
import Derived.Test.YtlaloddmlkkbgaaCrcQ
namespace Go.Proofs.Ytlaloddmlkkbgaa
open Go.RowKit

set_option maxHeartbeats 400000 in
set_option maxRecDepth 100000 in
theorem sums_walk (s : Nat) (v1 v2 : Value) (a b : List Nat) (w : World) (hs : U32 s) (ha : Reads w .u8 v1 a) (hb : Reads w .u8 v2 b) (ba : ∀ y ∈ a, y < 256) (bb : ∀ y ∈ b, y < 256) :
    Calls Try.prog 8 #[.int .u32 (s : Int), v1, v2] w fun e w' => e = .returned (.bool true) ∧ Below w.heap.size w w' := by
  obtain ⟨ao1, cap1, rfl, l1, m1, _⟩ := ha.val
  obtain ⟨ao2, cap2, rfl, l2, m2, _⟩ := hb.val
  go_enter Try.func8, Try.ntmps8
  go_wp2_with fail
  refine (alive2_any w).mono ?_
  rintro e w0 ⟨rfl, hb0⟩
  have ha0 := ha.new hb0
  have hb1 := hb.new hb0
  clear ha hb
  by_cases hbig : 500 < (a.length : Int) ∨ 500 < (b.length : Int)
  · have HBG := Lib.hid hbig
    by_cases h1 : 500 < (a.length : Int)
    · go_wp2
      go_ret
      exact ⟨rfl, hb0⟩
    · have h2 : 500 < (b.length : Int) := by rcases hbig with h | h; exact absurd h h1; exact h
      go_wp2
      go_ret
      exact ⟨rfl, hb0⟩
  have h1 : ¬ 500 < (a.length : Int) := fun h => hbig (.inl h)
  have h2 : ¬ 500 < (b.length : Int) := fun h => hbig (.inr h)
  clear hbig
  have HB0 := Lib.hid hb0
  go_wp2_with fail
  refine (new_any _).mono ?_
  rintro e w1 ⟨p, rfl, hp, hm1, hb2⟩
  have HP := Lib.hid hp
  have HB1 := Lib.hid hb2
  have HM1 := Lib.hid hm1
  have HRA := Lib.hid (ha0.new hb2)
  have HRB := Lib.hid (hb1.new hb2)
  clear hp hb2 hm1 ha0 hb1 hb0
  go_wp2_with (at_builtin; go_must (refine wpList_app _ rfl _ _ 22 rfl w1.heap.size 5 (.int .u8 0) 1 Try.underlying22 Try.info5 rfl .u8 _ [] rfl (owns_empty w1 w1.heap.size 5 .u8 (Nat.le_refl _)) _ a rfl (HRA.out.below ((Below.refl _ _).alloc (Nat.le_refl _) _) (Nat.le_refl _)) (by decide) ?c1 ?c3 ?_))
  case c1 => (try simp); omega
  case c3 => simp
  intro v3 w2 ho3 hg3
  have hd2 : Below w1.heap.size w1 w2 := ((Below.refl _ _).alloc (Nat.le_refl _) _).grown hg3 (by simp) (fun j hj => by simp [Value.ownBlock] at hj; omega)
  obtain ⟨ao3, cap3, rfl, _, _, _⟩ := ho3.reads.val
  have HO3 := Lib.hid ho3
  have HD2 := Lib.hid hd2
  clear ho3 hg3 hd2
  go_wp2_with (at_builtin; go_must (refine wpList_app _ rfl _ _ 22 rfl w2.heap.size 5 (.int .u8 0) 1 Try.underlying22 Try.info5 rfl .u8 _ [] rfl (owns_empty w2 w2.heap.size 5 .u8 (Nat.le_refl _)) _ a rfl ((HRA.out.new HD2.out).below ((Below.refl _ _).alloc (Nat.le_refl _) _) (Nat.le_refl _)) (by decide) ?c1 ?c3 ?_))
  case c1 => (try simp); omega
  case c3 => simp
  intro v4 w3 ho4 hg4
  have hd3 : Below w2.heap.size w2 w3 := ((Below.refl _ _).alloc (Nat.le_refl _) _).grown hg4 (by simp) (fun j hj => by simp [Value.ownBlock] at hj; omega)
  have HO4 := Lib.hid ho4
  have HD3 := Lib.hid hd3
  clear ho4 hg4 hd3
  go_wp2_with (at_builtin; go_must (refine wpList_app _ rfl _ _ 22 rfl w2.heap.size 5 (.int .u8 0) 1 Try.underlying22 Try.info5 rfl .u8 _ a rfl HO4.out _ b rfl ((HRB.out.new HD2.out).new HD3.out) (by decide) ?c1 ?c3 ?_))
  case c1 => (try simp); omega
  case c3 => exact HD3.out.size
  intro v5 w4 ho5 hg5
  have hd4 : Below w2.heap.size w2 w4 := HD3.out.grown hg5 HD3.out.size (fun j hj => (HO4.out.lt j hj).1)
  have hmk : Mk w4 p 0 := (HM1.out.new HD2.out).new hd4
  have hra := (HRA.out.new HD2.out).new hd4
  have hrb := (HRB.out.new HD2.out).new hd4
  have hro := HO3.out.reads.new hd4
  have HALL := Lib.hid ho5.reads
  have HM4 := Lib.hid hmk
  have HRA4 := Lib.hid hra
  have HRB4 := Lib.hid hrb
  have HRO4 := Lib.hid hro
  have HD4 : Hid (Below w1.heap.size w1 w4) := Lib.hid (HD2.out.trans (hd4.mono HD2.out.size))
  clear hd4 hmk hra hrb hro ho5 hg5
  go_wp2_with fail
  refine (sum_any p 0 _ a w4 HM4.out (by decide) HRO4.out ba).mono ?_
  rintro e w5 ⟨rfl, hm5, hg5⟩
  have HM5 := Lib.hid hm5
  have HG5 := Lib.hid hg5
  clear hm5 hg5
  go_wp2_with fail
  refine (refSum_any _ a w5 (reads_kept HM4.out HRA4.out HG5.out) ba).mono ?_
  rintro e w' ⟨rfl, rfl⟩
  go_wp2_with fail
  refine (extend_any p 1 s _ a w5 HM5.out (by decide) hs (reads_kept HM4.out HRO4.out HG5.out) ba).mono ?_
  rintro e w6 ⟨rfl, hm6, hg6⟩
  have HM6 := Lib.hid hm6
  have HG6 := Lib.hid (HG5.out.trans hg6)
  clear hm6 hg6
  go_wp2_with fail
  refine (refExtend_any s _ a w6 hs (reads_kept HM4.out HRA4.out HG6.out) ba).mono ?_
  rintro e w' ⟨rfl, rfl⟩
  have HP3 : Hid (∀ (W : World), Mk W p 2 → w4.grownBy W (some p) → Parts (W.alloc (.cells #[.slice ao3 a.length cap3, .slice none 0 0, .slice ao2 b.length cap2] 22)) (.slice (some ⟨W.heap.size, 0, none⟩) 3 3) [a, [], b]) := Lib.hid fun W _ hg => by
    refine parts_mark W _ _ [a, [], b] _ rfl rfl (by simp [maxLen]) fun i hi => ?_
    have hn := (Below.refl W.heap.size W).alloc (Nat.le_refl _) (.cells #[.slice ao3 a.length cap3, .slice none 0 0, .slice ao2 b.length cap2] 22)
    match i with
    | 0 => exact ⟨(fun _ _ h => by cases h), (reads_kept HM4.out HRO4.out hg).new hn⟩
    | 1 => exact ⟨(fun _ _ h => by cases h), ((owns_nil W 0 5 .u8).reads).new hn⟩
    | 2 => exact ⟨(fun _ _ h => by cases h), (reads_kept HM4.out HRB4.out hg).new hn⟩
    | i + 3 => exact absurd hi (by simp only [List.length_cons, List.length_nil]; omega)
  have hfl : [a, [], b].flatten = a ++ b := by simp
  have hby : ∀ l ∈ [a, [], b], ∀ y ∈ l, y < 256 := by
    intro l hl y hy
    simp only [List.mem_cons, List.not_mem_nil, or_false] at hl
    rcases hl with rfl | rfl | rfl
    · exact ba y hy
    · simp at hy
    · exact bb y hy
  have bab : ∀ y ∈ a ++ b, y < 256 := fun y hy => (List.mem_append.1 hy).elim (ba y) (bb y)
  go_wp2_with fail
  refine (of_any p 2 _ [a, [], b] _ (HM6.out.alloc _) (by decide) (HP3.out _ HM6.out HG6.out) hby).mono ?_
  rw [hfl]
  rintro e w7 ⟨rfl, hm7, hg7⟩
  have HM7 := Lib.hid hm7
  have HG7 := Lib.hid (HG6.out.trans ((World.grownBy_alloc _ _ _).trans hg7))
  clear hm7 hg7 HP3 hby hfl
  go_wp2_with fail
  refine (refSum_any _ (a ++ b) w7 (reads_kept HM4.out HALL.out HG7.out) bab).mono ?_
  rintro e w' ⟨rfl, rfl⟩
  go_wp2_with fail
  refine (of_any p 3 _ [] w7 HM7.out (by decide) ⟨_, _, rfl, Nat.le_refl _, by simp, .inl rfl⟩ (by simp)).mono ?_
  rw [List.flatten_nil, crcx_nil]
  rintro e w8 ⟨rfl, hm8, hg8⟩
  have HM8 := Lib.hid hm8
  have HG8 := Lib.hid (HG7.out.trans hg8)
  clear hm8 hg8
  go_wp2_with fail
  refine (asked_any p 4 w8 HM8.out).mono ?_
  rintro e w' ⟨rfl, rfl⟩
  go_wp2_with fail
  refine (sum_nil _ a w8 (reads_kept HM4.out HRA4.out HG8.out) ba).mono ?_
  rintro e w' ⟨rfl, rfl⟩
  go_wp2_with fail
  refine (refSum_any _ a w8 (reads_kept HM4.out HRA4.out HG8.out) ba).mono ?_
  rintro e w' ⟨rfl, rfl⟩
  have HP2 : Hid (Parts (w8.alloc (.cells #[.slice ao1 a.length cap1, .slice ao2 b.length cap2] 22)) (.slice (some ⟨w8.heap.size, 0, none⟩) 2 2) [a, b]) := Lib.hid (by
    refine parts_mark w8 _ _ [a, b] _ rfl rfl (by simp [maxLen]) fun i hi => ?_
    have hn := (Below.refl w8.heap.size w8).alloc (Nat.le_refl _) (.cells #[.slice ao1 a.length cap1, .slice ao2 b.length cap2] 22)
    match i with
    | 0 => exact ⟨(fun _ _ h => by cases h), (reads_kept HM4.out HRA4.out HG8.out).new hn⟩
    | 1 => exact ⟨(fun _ _ h => by cases h), (reads_kept HM4.out HRB4.out HG8.out).new hn⟩
    | i + 2 => exact absurd hi (by simp only [List.length_cons, List.length_nil]; omega))
  have hfl : [a, b].flatten = a ++ b := by simp
  have hby : ∀ l ∈ [a, b], ∀ y ∈ l, y < 256 := by
    intro l hl y hy
    simp only [List.mem_cons, List.not_mem_nil, or_false] at hl
    rcases hl with rfl | rfl
    · exact ba y hy
    · exact bb y hy
  go_wp2_with fail
  refine (of_nil _ [a, b] _ HP2.out hby).mono ?_
  rw [hfl]
  rintro e w' ⟨rfl, rfl⟩
  generalize hw9 : w8.alloc (.cells #[.slice ao1 a.length cap1, .slice ao2 b.length cap2] 22) = w9
  have HG9 : Hid (w4.grownBy w9 (some p)) := Lib.hid (HG8.out.trans (hw9 ▸ World.grownBy_alloc _ _ _))
  clear hw9 HP2 hfl hby
  go_wp2_with fail
  refine (refSum_any _ (a ++ b) w9 (reads_kept HM4.out HALL.out HG9.out) bab).mono ?_
  rintro e w' ⟨rfl, rfl⟩
  go_wp2_with fail
  refine (asked_nil w9).mono ?_
  rintro e w' ⟨rfl, rfl⟩
  go_wp2_with fail
  refine (numBytes_any _ _ a a w9 (reads_kept HM4.out HRO4.out HG9.out) (reads_kept HM4.out HRA4.out HG9.out) ba ba).mono ?_
  rintro e w' ⟨rfl, rfl⟩
  rw [decide_eq_true rfl]
  go_wp2
  go_ret
  refine ⟨rfl, HB0.out.trans ?_⟩
  have hz : Below w0.heap.size w0 w4 := HB1.out.trans (HD4.out.mono HB1.out.size)
  exact (hz.trans (below_grown HG9.out HP.out hz.size)).mono HB0.out.size

end Go.Proofs.Ytlaloddmlkkbgaa
