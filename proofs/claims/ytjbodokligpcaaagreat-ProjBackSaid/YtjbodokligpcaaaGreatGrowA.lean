/- slices.Grow of no bytes, and slices.Concat of rows of bytes. -/
import Derived.Test.YtjbodokligpcaaaGreatAtA
import Derived.Test.YtjbodokligpcaaaGreatByteA
import Derived.Lib.AppendZerosOnto
import Derived.Lib.SliceRun
import Derived.Lib.Walk
namespace Go.Proofs.YtjbodokligpcaaaGreat
open Go.RowKit

theorem info_at {e : TypeId} {z : Value} {b : Nat} (h : (Tryz.prog.info? e).map (fun i => (i.zero, i.size, i.bytes)) = some (some z, 1, b)) : ∃ i, Tryz.prog.info? e = some i ∧ i.zero = some z ∧ i.size = 1 ∧ i.bytes = b := info_parts h

set_option maxHeartbeats 400000 in
set_option maxRecDepth 100000 in
theorem grow_any (n : Nat) (w : World) (h0 : 0 < n) (hn : n ≤ 90000000000000) :
    Calls Tryz.prog 84 #[.slice none 0 0, .int .i64 (n : Int)] w fun e w' => ∃ v', e = .returned v' ∧ Owns w' w.heap.size 5 .u8 v' [] ∧ Below w.heap.size w w' := by
  obtain ⟨i0, hi0, hz0, hs0, hb0⟩ := info_at Tryz.info5
  have hold : (Builtin.firstCells i0.size 0 (.slice none 0 0)).run Tryz.prog w.drew = .ok ([] : List Value).toArray w.drew := run_firstCells_none w.drew i0.size 0 0 0
  have hrz : ∀ ty, (Builtin.append_ #[22, 3] ty #[.slice none 0 0, .int .i64 (n : Int)]).run Tryz.prog w = _ := fun ty =>
    Lib.run_append_grow_zeros w 22 3 ty 5 i0 (.int .u8 0) .i64 .i64 Tryz.underlying22 Tryz.underlying3 hi0 hz0 none 0 0 [] hold n h0 (by omega) (by omega) (by omega) (by rw [hb0]; omega) (by exact growslice_fits (by omega) (by rw [hb0]; omega))
  have hG := grownCap_ge w (0 + n) 0 5
  have hG2 := grownCap_le_maxLen w (0 + n) 0 5 (by unfold maxLen; omega)
  have hown : ∀ C : Array Value, C.size = grownCap w (0 + n) 0 5 * 1 → Owns (w.drew.alloc (.cells C 5)) w.heap.size 5 .u8 (.slice (some ⟨w.heap.size, 0, none⟩) 0 (grownCap w (0 + n) 0 5)) [] := fun C hC => World.ownsRow_made w.drew C _ (Nat.le_refl _) hG2 hC
  have hsz : (([] : List Value).toArray ++ Builtin.zeroCells (Value.int .u8 0).cells n ++ Builtin.zeroCells (Value.int .u8 0).cells (grownCap w (0 + n) 0 5 - (0 + n))).size = grownCap w (0 + n) 0 5 * 1 := by
    rw [Array.size_append, Array.size_append, size_zeroCells, size_zeroCells]
    show 0 + n * 1 + (_ - _) * 1 = _
    omega
  have hsl1 := fun w => slice_head w none 0 0 0 (Nat.le_refl 0)
  generalize ([] : List Value).toArray ++ Builtin.zeroCells (Value.int .u8 0).cells n ++ Builtin.zeroCells (Value.int .u8 0).cells (grownCap w (0 + n) 0 5 - (0 + n)) = C at hrz hsz
  have HO := Lib.hid (hown C hsz)
  generalize grownCap w (0 + n) 0 5 = G at hrz HO hG hG2
  have hsl2 := fun W => slice_head W (some ⟨w.heap.size, 0, none⟩) (0 + n) G 0 (Nat.zero_le _)
  clear hown hsz hold
  have hn1 : ¬ ((n : Int) < 0) := by omega
  have hn2 : (n : Int) > 0 := by omega
  go_enter Tryz.func84, Tryz.ntmps84
  go_wp2_with (at_builtin; refine Lib.wpList_append_run _ rfl _ _ _ _ rfl _ _ rfl rfl _ _ (hrz _) ?_)
  all_goals (go_ret; exact ⟨_, rfl, HO.out, ((Below.refl _ _).drew).alloc (Nat.le_refl _) _⟩)

theorem texts_take {ls : List (List Nat)} (k : Nat) (h : k < ls.length) : (ls.take (k + 1)).flatten = (ls.take k).flatten ++ ls.getD k [] := by
  rw [lists_take k h, List.flatten_append]; simp
theorem texts_take_le (ls : List (List Nat)) (k : Nat) : (ls.take k).flatten.length ≤ ls.flatten.length := by
  conv => rhs; rw [← List.take_append_drop k ls]
  rw [List.flatten_append, List.length_append]
  omega

set_option maxHeartbeats 1000000 in
set_option maxRecDepth 100000 in
theorem concat_any (v : Value) (ls : List (List Nat)) (out : List Nat) (w : World) (B : Nat → Prop) (hr : Txs w B v ls) (hout : out = ls.flatten) (h0 : 0 < out.length) (hn : out.length ≤ 80000000000000) (hl : ls.length ≤ 80000000000000) :
    Calls Tryz.prog 70 #[v] w fun e w' => ∃ v', e = .returned v' ∧ Owns w' w.heap.size 5 .u8 v' out ∧ Below w.heap.size w w' := by
  obtain ⟨ao, cap, rfl, h1, h2, h3⟩ := hr.val
  have HR := Lib.hid hr; clear hr
  have HOUT := Lib.hid hout; clear hout
  go_enter Tryz.func70, Tryz.ntmps70
  go_wp2
  go_loopw [3, 5, 11] (fun sz _ i wr => ∃ k n : Nat, k ≤ ls.length ∧ i = .int .i64 (k : Int) ∧ sz = .int .i64 (n : Int) ∧ n = (ls.take k).flatten.length ∧ w = wr)
    (fun _ _ i _ => ls.length - (intOf i).toNat)
  case atStart => exact ⟨0, 0, Nat.zero_le _, rfl, rfl, by simp, rfl⟩
  case round =>
    obtain ⟨k, n, hk, rfl, rfl, hnn, rfl⟩ := hrel
    by_cases hlt : k < ls.length
    · obtain ⟨b, off, u, rfl, _, _, hcell, hat⟩ := HR.out.at hlt
      have hts := congrArg List.length (texts_take k hlt)
      rw [List.length_append, ← hnn] at hts
      have hle := texts_take_le ls (k + 1)
      have HOL := congrArg List.length HOUT.out
      generalize ls.getD k [] = t at hat hts
      obtain ⟨aot, capt, rfl, _, _, _⟩ := hat.reads.val
      have hsm : (n : Int) + (t.length : Int) ≤ 80000000000000 := by omega
      have HTS := Lib.hid hts
      clear hat hts hle hnn HOL
      have hlti : (k : Int) < ls.length := by omega
      have hnot : ¬ ((n : Int) + (t.length : Int) < 0) := by omega
      go_wp2
      go_roundw
      case rel => exact ⟨k + 1, n + t.length, by omega, by go_num, by go_num, HTS.out.symm, trivial⟩
      case measure => simp [intOf]; omega
    · obtain rfl : k = ls.length := by omega
      rw [List.take_length, ← HOUT.out] at hnn
      subst hnn
      go_wp2_with fail
      refine (grow_any out.length w h0 (by omega)).mono ?_
      rintro e w1 ⟨v1, rfl, ho1, hb1⟩
      have HO1 := Lib.hid ho1
      have HB1 := Lib.hid hb1
      clear ho1 hb1
      go_wp2
      go_loopw [6, 8, 27] (fun sv _ i wr => ∃ k : Nat, k ≤ ls.length ∧ i = .int .i64 (k : Int) ∧ Owns wr w.heap.size 5 .u8 sv (ls.take k).flatten ∧ Below w.heap.size w wr)
        (fun _ _ i _ => ls.length - (intOf i).toNat)
      case atStart => exact ⟨0, Nat.zero_le _, rfl, HO1.out, HB1.out⟩
      case round =>
        obtain ⟨k, hk, rfl, hown, hbel⟩ := hrel
        have HOWN := Lib.hid hown
        have HBEL := Lib.hid hbel
        clear hown hbel
        by_cases hlt : k < ls.length
        · obtain ⟨b, off, u, rfl, _, _, hcell, hat⟩ := (HR.out.old HBEL.out).at hlt
          have hts := texts_take k hlt
          have hle := texts_take_le ls (k + 1)
          rw [hts, List.length_append] at hle
          have HOL := Lib.hid (congrArg List.length HOUT.out)
          generalize ls.getD k [] = t at hat hts hle
          obtain ⟨aot, capt, rfl, _, _, _⟩ := hat.reads.val
          have HT := Lib.hid hat.reads
          have HTS := Lib.hid hts
          clear hat hts
          have hlti : (k : Int) < ls.length := by omega
          go_wp2_with (at_builtin; go_must (refine wpList_app _ rfl _ _ 22 rfl w.heap.size 5 (.int .u8 0) 1 Tryz.underlying22 Tryz.info5 rfl .u8 _ (ls.take k).flatten rfl HOWN.out _ t rfl HT.out (by decide) ?c1 ?c3 ?_))
          case c1 => have := HOL.out; omega
          case c3 => exact HBEL.out.size
          intro v4 w4 ho4 hg4
          have HB4 : Hid (Below w.heap.size w w4) := Lib.hid (HBEL.out.grown hg4 HBEL.out.size (fun j hj => (HOWN.out.lt j hj).1))
          have HO4 : Hid (Owns w4 w.heap.size 5 .u8 v4 (ls.take (k + 1)).flatten) := Lib.hid (by rw [HTS.out]; exact ho4)
          clear ho4 hg4
          go_wp2
          go_roundw
          case rel => exact ⟨k + 1, by omega, by go_num, HO4.out, HB4.out⟩
          case measure => simp [intOf]; omega
        · obtain rfl : k = ls.length := by omega
          have hlast := HOWN.out
          rw [List.take_length, ← HOUT.out] at hlast
          have HL := Lib.hid hlast
          clear hlast
          go_wp2
          go_ret
          exact ⟨_, rfl, HL.out, HBEL.out⟩

end Go.Proofs.YtjbodokligpcaaaGreat
