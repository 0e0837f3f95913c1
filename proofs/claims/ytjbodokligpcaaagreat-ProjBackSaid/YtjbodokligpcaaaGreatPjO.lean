/- Law 11: what is alive, and what is too long. -/
import Derived.Test.YtjbodokligpcaaaGreatPjK
namespace Go.Proofs.YtjbodokligpcaaaGreat
open Go.RowKit

/-- More than is looked at. -/
def longP (cs : List (List Int)) : Bool := cs.any (fun c => decide (12 < c.length)) || decide (12 < cs.length)
theorem longP_iff {cs : List (List Int)} : longP cs = false ↔ (∀ c ∈ cs, c.length ≤ 12) ∧ cs.length ≤ 12 := by
  unfold longP
  rw [Bool.or_eq_false_iff, List.any_eq_false, decide_eq_false_iff_not]
  constructor
  · rintro ⟨h1, h2⟩
    exact ⟨fun c hc => by have := h1 c hc; simpa using this, by omega⟩
  · rintro ⟨h1, h2⟩
    exact ⟨fun c hc => by have := h1 c hc; simpa using this, by omega⟩

set_option maxHeartbeats 1000000 in
set_option maxRecDepth 100000 in
theorem long11_any (ep : Int) (v : Value) (cs : List (List Int)) (w : World) (B : Nat → Prop) (h : Chs w B v cs) :
    Calls Tryz.prog 6 #[.agg #[.int .i64 ep, v]] w fun e w' => e = .returned (.bool (longP cs)) ∧ Below w.heap.size w w' := by
  obtain ⟨ao, cap, rfl, l1, m1, _⟩ := h.val
  obtain ⟨W1, hW1⟩ : ∃ W1, W1 = w.alloc (.cells #[.int .i64 ep, .slice ao cs.length cap] 25) := ⟨_, rfl⟩
  have hb1 : Below w.heap.size w W1 := by rw [hW1]; exact (Below.refl _ _).alloc (Nat.le_refl _) _
  have hx1 : Box2 W1 w.heap.size (.int .i64 ep) (.slice ao cs.length cap) := by rw [hW1]; exact box2_new _ _ _ _
  have HB1 := Lib.hid hb1
  have HR := Lib.hid (h.old hb1)
  have c0 := hx1.c0
  have c1 := hx1.c1
  have HWW := Lib.hid hW1
  unfold maxLen at m1
  clear h hb1 hx1 hW1
  go_enter Tryz.func6, Tryz.ntmps6
  go_wp2_with fail
  rw [← HWW.out]
  go_wp2
  go_loop [4, 8] (fun _ i => ∃ k : Nat, k ≤ cs.length ∧ i = .int .i64 (k : Int) ∧ (cs.take k).any (fun c => decide (12 < c.length)) = false) (fun _ i => cs.length - (intOf i).toNat)
  case atStart => exact ⟨0, Nat.zero_le _, rfl, by simp⟩
  case round =>
    obtain ⟨k, hk, rfl, hp⟩ := hrel
    have HP := Lib.hid hp; clear hp
    by_cases hlt : k < cs.length
    · obtain ⟨b, off, u, rfl, hb, _, hc, hu⟩ := HR.out.at hlt
      obtain ⟨aoc, capc, rfl, _, _, _⟩ := hu.val
      have HS := Lib.hid (anyC_take_snoc (g := fun n => decide (12 < n)) hlt)
      have HF : Hid (12 < (cs.getD k []).length → longP cs = true) := Lib.hid fun h => by
        unfold longP
        rw [Bool.or_eq_true]
        left
        rw [List.any_eq_true]
        exact ⟨_, getD_memC k hlt, decide_eq_true h⟩
      have hlti : (k : Int) < cs.length := by omega
      generalize (cs.getD k []).length = n at hc HS HF
      clear hu
      by_cases hn : 12 < n
      · have hni : ((n : Int) > 12) := by omega
        have HF2 := Lib.hid (HF.out hn)
        clear hn HF
        go_wp2
        go_ret
        exact ⟨by rw [HF2.out]; rfl, HB1.out⟩
      · have hni : ¬ ((n : Int) > 12) := by omega
        have HS2 : Hid ((cs.take (k + 1)).any (fun c => decide (12 < c.length)) = false) := Lib.hid (by rw [HS.out, HP.out, decide_eq_false hn]; rfl)
        clear hn HF
        go_wp2
        go_round
        case rel => exact ⟨k + 1, by omega, by go_num, HS2.out⟩
        case measure => simp [intOf]; omega
    · obtain rfl : k = cs.length := by omega
      have hq := HP.out
      rw [List.take_length] at hq
      have HQ : Hid (longP cs = decide ((cs.length : Int) > 12)) := Lib.hid (by
        unfold longP
        rw [hq, Bool.false_or]
        exact decide_eq_decide.2 (by omega))
      clear hq
      go_wp2
      go_ret
      exact ⟨by rw [HQ.out]; rfl, HB1.out⟩

theorem irow_two (w : World) (x y : Int) : IRow (w.alloc (.cells #[.int .i64 x, .int .i64 y] 3)) (fun _ => True) (.slice (some ⟨w.heap.size, 0, none⟩) 2 2) [x, y] := (row_two w 3 (.int .i64 x) (.int .i64 y) (0, 0)).mono fun _ _ _ => trivial
theorem irow_one (w : World) (x : Int) : IRow (w.alloc (.cells #[.int .i64 x] 3)) (fun _ => True) (.slice (some ⟨w.heap.size, 0, none⟩) 1 1) [x] := (row_one w 3 (.int .i64 x) (0, 0)).mono fun _ _ _ => trivial
theorem chs_two {w w1 : World} {u1 u2 : Value} {a b : List Int} {B : Nat → Prop} (h1 : IRow w B u1 a) (h2 : IRow w B u2 b) (hw : w1 = w.alloc (.cells #[u1, u2] 40)) : Chs w1 (fun _ => True) (.slice (some ⟨w.heap.size, 0, none⟩) 2 2) [a, b] := by
  subst hw
  have hb : Below w.heap.size w (w.alloc (.cells #[u1, u2] 40)) := (Below.refl _ _).alloc (Nat.le_refl _) _
  refine ⟨[u1, u2], rfl, (row_two w 40 u1 u2 (0, 0)).mono fun _ _ _ => trivial, ?_, fun i hi => ?_⟩
  · intro u hu
    simp only [List.mem_cons, List.not_mem_nil, or_false] at hu
    rcases hu with rfl | rfl
    · exact h1.one
    · exact h2.one
  · have hi2 : i < 2 := by simpa using hi
    match i, hi2 with
    | 0, _ => exact (h1.old hb).mono fun _ _ _ => trivial
    | 1, _ => exact (h2.old hb).mono fun _ _ _ => trivial

theorem alive_next : nchk 0 [[0, 1], [2, 3]] [1] [4] = 0 ∧ nextL [[0, 1], [2, 3]] [1] [4] = [[0, 4], [2, 3]] := by decide +kernel

set_option maxHeartbeats 4000000 in
set_option maxRecDepth 100000 in
theorem alive11_any (w : World) : Calls Tryz.prog 5 #[] w fun e w' => e = .returned (.bool true) ∧ Below w.heap.size w w' := by
  have HN : Hid (Calls Tryz.prog 13 #[.agg #[.int .i64 0, .slice (some ⟨w.heap.size + 1 + 1, 0, none⟩) 2 2], .slice (some ⟨w.heap.size + 1 + 1 + 1, 0, none⟩) 1 1, .slice (some ⟨w.heap.size + 1 + 1 + 1 + 1, 0, none⟩) 1 1]
      (((((w.alloc (.cells #[.int .i64 0, .int .i64 1] 3)).alloc (.cells #[.int .i64 2, .int .i64 3] 3)).alloc (.cells #[.slice (some ⟨w.heap.size, 0, none⟩) 2 2, .slice (some ⟨w.heap.size + 1, 0, none⟩) 2 2] 40)).alloc (.cells #[.int .i64 1] 3)).alloc (.cells #[.int .i64 4] 3))
      fun e w' => ∃ (ao : Option Addr) (cap : Nat), e = .returned (.tuple #[.agg #[.int .i64 1, .slice ao 2 cap], errV 0]) ∧ Chs w' (fun _ => True) (.slice ao 2 cap) [[0, 4], [2, 3]] ∧ Below w.heap.size w w') := Lib.hid (by
    obtain ⟨A1, hA1⟩ : ∃ A, A = w.alloc (.cells #[.int .i64 0, .int .i64 1] 3) := ⟨_, rfl⟩
    obtain ⟨A2, hA2⟩ : ∃ A, A = A1.alloc (.cells #[.int .i64 2, .int .i64 3] 3) := ⟨_, rfl⟩
    obtain ⟨A3, hA3⟩ : ∃ A, A = A2.alloc (.cells #[.slice (some ⟨w.heap.size, 0, none⟩) 2 2, .slice (some ⟨w.heap.size + 1, 0, none⟩) 2 2] 40) := ⟨_, rfl⟩
    obtain ⟨A4, hA4⟩ : ∃ A, A = A3.alloc (.cells #[.int .i64 1] 3) := ⟨_, rfl⟩
    obtain ⟨A5, hA5⟩ : ∃ A, A = A4.alloc (.cells #[.int .i64 4] 3) := ⟨_, rfl⟩
    rw [← hA1, ← hA2, ← hA3, ← hA4, ← hA5]
    have z1 : A1.heap.size = w.heap.size + 1 := by rw [hA1]; simp
    have z2 : A2.heap.size = w.heap.size + 1 + 1 := by rw [hA2]; simp [z1]
    have z3 : A3.heap.size = w.heap.size + 1 + 1 + 1 := by rw [hA3]; simp [z2]
    have z4 : A4.heap.size = w.heap.size + 1 + 1 + 1 + 1 := by rw [hA4]; simp [z3]
    have b1 : Below w.heap.size w A1 := by rw [hA1]; exact (Below.refl _ _).alloc (Nat.le_refl _) _
    have b2 : Below A1.heap.size A1 A2 := by rw [hA2]; exact (Below.refl _ _).alloc (Nat.le_refl _) _
    have b3 : Below A2.heap.size A2 A3 := by rw [hA3]; exact (Below.refl _ _).alloc (Nat.le_refl _) _
    have b4 : Below A3.heap.size A3 A4 := by rw [hA4]; exact (Below.refl _ _).alloc (Nat.le_refl _) _
    have b5 : Below A4.heap.size A4 A5 := by rw [hA5]; exact (Below.refl _ _).alloc (Nat.le_refl _) _
    have r1 : IRow A2 (fun _ => True) (.slice (some ⟨w.heap.size, 0, none⟩) 2 2) [0, 1] := by
      have h : IRow A1 (fun _ => True) (.slice (some ⟨w.heap.size, 0, none⟩) 2 2) [0, 1] := by rw [hA1]; exact irow_two w 0 1
      exact h.old b2
    have r2 : IRow A2 (fun _ => True) (.slice (some ⟨w.heap.size + 1, 0, none⟩) 2 2) [2, 3] := by
      have h := irow_two A1 2 3
      rw [← hA2, z1] at h
      exact h
    have c3 := chs_two r1 r2 hA3
    rw [z2] at c3
    have d4 : IRow A4 (fun _ => True) (.slice (some ⟨w.heap.size + 1 + 1 + 1, 0, none⟩) 1 1) [1] := by
      have h := irow_one A3 1
      rw [← hA4, z3] at h
      exact h
    have d5 : IRow A5 (fun _ => True) (.slice (some ⟨w.heap.size + 1 + 1 + 1 + 1, 0, none⟩) 1 1) [4] := by
      have h := irow_one A4 4
      rw [← hA5, z4] at h
      exact h
    refine (next_any 0 _ _ _ [[0, 1], [2, 3]] [1] [4] A5 (fun _ => True) ((c3.old b4).old b5) (d4.old b5) d5 (by decide) (by decide)).mono ?_
    rintro e w' ⟨v', he, hc, hb⟩
    rw [alive_next.1] at he
    rw [alive_next.1, alive_next.2, if_pos rfl] at hc
    obtain ⟨ao, cap, hv, _⟩ := hc.val
    subst hv
    have s1 := b1.size; have s2 := b2.size; have s3 := b3.size; have s4 := b4.size; have s5 := b5.size
    exact ⟨ao, cap, he, hc.mono fun _ _ _ => trivial, ((((b1.trans (b2.mono (by omega))).trans (b3.mono (by omega))).trans (b4.mono (by omega))).trans (b5.mono (by omega))).trans (hb.mono (by omega))⟩)
  go_enter Tryz.func5, Tryz.ntmps5
  go_wp2_with fail
  refine HN.out.mono ?_
  rintro e w6 ⟨ao, cap, rfl, hc6, hb6⟩
  rw [errV_zero]
  have HSM : Hid (Calls Tryz.prog 12 #[.agg #[.int .i64 1, .slice ao 2 cap], .agg #[.int .i64 1, .slice (some ⟨w6.heap.size + 1 + 1 + 1, 0, none⟩) 2 2]]
      ((((w6.alloc (.cells #[.int .i64 1, .slice ao 2 cap] 25)).alloc (.cells #[.int .i64 0, .int .i64 4] 3)).alloc (.cells #[.int .i64 2, .int .i64 3] 3)).alloc (.cells #[.slice (some ⟨w6.heap.size + 1, 0, none⟩) 2 2, .slice (some ⟨w6.heap.size + 1 + 1, 0, none⟩) 2 2] 40))
      fun e w' => e = .returned (.bool true) ∧ Box2 w' w6.heap.size (.int .i64 1) (.slice ao 2 cap) ∧ Chs w' (fun _ => True) (.slice ao 2 cap) [[0, 4], [2, 3]] ∧ Below w.heap.size w w') := Lib.hid (by
    obtain ⟨A1, hA1⟩ : ∃ A, A = w6.alloc (.cells #[.int .i64 1, .slice ao 2 cap] 25) := ⟨_, rfl⟩
    obtain ⟨A2, hA2⟩ : ∃ A, A = A1.alloc (.cells #[.int .i64 0, .int .i64 4] 3) := ⟨_, rfl⟩
    obtain ⟨A3, hA3⟩ : ∃ A, A = A2.alloc (.cells #[.int .i64 2, .int .i64 3] 3) := ⟨_, rfl⟩
    obtain ⟨A4, hA4⟩ : ∃ A, A = A3.alloc (.cells #[.slice (some ⟨w6.heap.size + 1, 0, none⟩) 2 2, .slice (some ⟨w6.heap.size + 1 + 1, 0, none⟩) 2 2] 40) := ⟨_, rfl⟩
    rw [← hA1, ← hA2, ← hA3, ← hA4]
    have z1 : A1.heap.size = w6.heap.size + 1 := by rw [hA1]; simp
    have z2 : A2.heap.size = w6.heap.size + 1 + 1 := by rw [hA2]; simp [z1]
    have z3 : A3.heap.size = w6.heap.size + 1 + 1 + 1 := by rw [hA3]; simp [z2]
    have b1 : Below w6.heap.size w6 A1 := by rw [hA1]; exact (Below.refl _ _).alloc (Nat.le_refl _) _
    have b2 : Below A1.heap.size A1 A2 := by rw [hA2]; exact (Below.refl _ _).alloc (Nat.le_refl _) _
    have b3 : Below A2.heap.size A2 A3 := by rw [hA3]; exact (Below.refl _ _).alloc (Nat.le_refl _) _
    have b4 : Below A3.heap.size A3 A4 := by rw [hA4]; exact (Below.refl _ _).alloc (Nat.le_refl _) _
    have s1 := b1.size; have s2 := b2.size; have s3 := b3.size; have s4 := b4.size
    have b14 : Below A1.heap.size A1 A4 := (b2.trans (b3.mono (by omega))).trans (b4.mono (by omega))
    have b04 : Below w6.heap.size w6 A4 := b1.trans (b14.mono (by omega))
    have x1 : Box2 A1 w6.heap.size (.int .i64 1) (.slice ao 2 cap) := by rw [hA1]; exact box2_new _ _ _ _
    have r1 : IRow A3 (fun _ => True) (.slice (some ⟨w6.heap.size + 1, 0, none⟩) 2 2) [0, 4] := by
      have h := irow_two A1 0 4
      rw [← hA2, z1] at h
      exact h.old b3
    have r2 : IRow A3 (fun _ => True) (.slice (some ⟨w6.heap.size + 1 + 1, 0, none⟩) 2 2) [2, 3] := by
      have h := irow_two A2 2 3
      rw [← hA3, z2] at h
      exact h
    have c4 := chs_two r1 r2 hA4
    rw [z3] at c4
    refine (psame_any 1 1 _ _ _ _ A4 _ _ (hc6.old b04) c4).mono ?_
    rintro e w' ⟨he, hb⟩
    have b6' := b04.trans (hb.mono (by omega))
    refine ⟨by rw [he]; rfl, (x1.old b14).old hb, (hc6.old b04).old hb, hb6.trans (b6'.mono hb6.size)⟩)
  have HB6 := Lib.hid hb6
  clear hc6 hb6 HN
  go_wp2_with fail
  refine HSM.out.mono ?_
  rintro e w7 ⟨rfl, hx7, hc7, hb7⟩
  obtain ⟨b, off, x, hao, _, _, hcx, hxr⟩ := hc7.at (i := 0) (by decide)
  obtain ⟨aox, capx, hxv, _⟩ := hxr.val
  subst hxv
  obtain ⟨b', off', hao', _, _, hcy⟩ := hxr.at (i := 1) (by decide)
  have hcy1 := hcy 1 (by decide)
  subst hao
  subst hao'
  have c1 := hx7.c1
  have c0 := hx7.c0
  simp only [Nat.add_zero] at hcx
  have HB7 := Lib.hid hb7
  clear hx7 hc7 hxr hcy hb7
  have hcx2 : w7.cell? ⟨b, off, none⟩ = some (.slice (some ⟨b', off', none⟩) 2 capx) := hcx
  have hcy2 : w7.cell? ⟨b', off' + 1, none⟩ = some (.int .i64 4) := hcy1
  clear hcx hcy1
  go_wp2
  go_ret
  exact ⟨rfl, HB7.out⟩

end Go.Proofs.YtjbodokligpcaaaGreat
