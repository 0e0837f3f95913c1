/- Rows of numbers joined, sorted, each once: package proj's Units. · Package proj's Check and Home. -/
import Derived.Test.YtlckadlkgjfjcaaGreatDoorQd
import Derived.Test.YtlckadlkgjfjcaaGreatDoorSrtP
import Derived.Lib.OwnBridge
import Derived.Lib.AppendZerosOnto
import Derived.Lib.SliceRun
import Derived.Lib.Walk
import Derived.Deep.RegionHeld3
import Derived.Deep.RegionHeldLaw
namespace Go.Proofs.YtlckadlkgjfjcaaGreatDoor
open Go.RowKit

theorem info_of {e : TypeId} {z : Value} {b : Nat} (h : (Tryz.prog.info? e).map (fun i => (i.zero, i.size, i.bytes)) = some (some z, 1, b)) : ∃ i, Tryz.prog.info? e = some i ∧ i.zero = some z ∧ i.size = 1 ∧ i.bytes = b := info_parts h
theorem iown_nil (w : World) (base : Nat) : IOwn w base (.slice none 0 0) [] := World.ownsRow_nil w base _ 1

set_option maxRecDepth 100000 in
/-- A slice's head as a slice, nil or not. -/
theorem slice_headI (w : World) (a : Option Addr) (n c m : Nat) (h : m ≤ c) : (Instr.slice 26 (.slice a n c) none (some (.int .i64 (m : Int))) none).run Tryz.prog w = .ok (.slice a m c) w := by
  rw [run_slice_h w 26 a n c (by kernel_rfl) .i64 (m : Int) (by omega) (by omega)]
  have hs : (sizeOf (Tryz.prog.elem 26)).run Tryz.prog w = .ok 1 w := by kernel_rfl
  rw [hs]
  simp only [Result.andThen, sliced]
  congr 1
  have : (a.map fun x => x.add (0 * 1)) = a := by cases a <;> simp [Addr.add]
  rw [this]
  simp
set_option maxRecDepth 100000 in
theorem slice_tailI (w : World) (a : Option Addr) (n c m : Nat) (h : m ≤ n) : (Instr.slice 26 (.slice a n c) (some (.int .i64 (m : Int))) none none).run Tryz.prog w = .ok (.slice (if c = m then a else a.map fun x => x.add m) (n - m) (c - m)) w := by
  rw [run_slice_l w 26 a n c (by kernel_rfl) .i64 (m : Int) (by omega) (by omega)]
  have hs : (sizeOf (Tryz.prog.elem 26)).run Tryz.prog w = .ok 1 w := by kernel_rfl
  rw [hs]
  simp only [Result.andThen, sliced, Int.toNat_natCast, Nat.mul_one]

set_option maxHeartbeats 400000 in
set_option maxRecDepth 100000 in
theorem growI_zero (w : World) : Calls Tryz.prog 116 #[.slice none 0 0, .int .i64 0] w fun e w' => e = .returned (.slice none 0 0) ∧ w = w' := by
  go_enter Tryz.func116, Tryz.ntmps116
  go_wp2
  go_ret
  exact ⟨rfl, rfl⟩

set_option maxHeartbeats 400000 in
set_option maxRecDepth 100000 in
theorem growI_pos (n : Nat) (w : World) (h0 : 0 < n) (hn : n ≤ 1000000000) :
    Calls Tryz.prog 116 #[.slice none 0 0, .int .i64 (n : Int)] w fun e w' => ∃ v', e = .returned v' ∧ IOwn w' w.heap.size v' [] ∧ Below w.heap.size w w' := by
  obtain ⟨i0, hi0, hz0, hs0, hb0⟩ := info_of Tryz.infoI
  have hold : (Builtin.firstCells i0.size 0 (.slice none 0 0)).run Tryz.prog w.drew = .ok ([] : List Value).toArray w.drew := run_firstCells_none w.drew i0.size 0 0 0
  have hrz : ∀ ty, (Builtin.append_ #[26, 3] ty #[.slice none 0 0, .int .i64 (n : Int)]).run Tryz.prog w = _ := fun ty =>
    Lib.run_append_grow_zeros w 26 3 ty 3 i0 (.int .i64 0) .i64 .i64 Tryz.underlying26 Tryz.underlying3 hi0 hz0 none 0 0 [] hold n h0 (by omega) (by omega) (by omega) (by rw [hb0]; omega) (by exact growslice_fits (by omega) (by rw [hb0]; omega))
  have hG := grownCap_ge w (0 + n) 0 3
  have hG2 := grownCap_le_maxLen w (0 + n) 0 3 (by unfold maxLen; omega)
  have hown : ∀ C : Array Value, C.size = grownCap w (0 + n) 0 3 * 1 → IOwn (w.drew.alloc (.cells C 3)) w.heap.size (.slice (some ⟨w.heap.size, 0, none⟩) 0 (grownCap w (0 + n) 0 3)) [] := fun C hC => World.ownsRow_made w.drew C _ (Nat.le_refl _) hG2 hC
  have hsz : (([] : List Value).toArray ++ Builtin.zeroCells (Value.int .i64 0).cells n ++ Builtin.zeroCells (Value.int .i64 0).cells (grownCap w (0 + n) 0 3 - (0 + n))).size = grownCap w (0 + n) 0 3 * 1 := by
    rw [Array.size_append, Array.size_append, size_zeroCells, size_zeroCells]
    show 0 + n * 1 + (_ - _) * 1 = _
    omega
  have hsl1 := fun w => slice_headI w none 0 0 0 (Nat.le_refl 0)
  generalize ([] : List Value).toArray ++ Builtin.zeroCells (Value.int .i64 0).cells n ++ Builtin.zeroCells (Value.int .i64 0).cells (grownCap w (0 + n) 0 3 - (0 + n)) = C at hrz hsz
  have HO := Lib.hid (hown C hsz)
  generalize grownCap w (0 + n) 0 3 = G at hrz HO hG hG2
  have hsl2 := fun W => slice_headI W (some ⟨w.heap.size, 0, none⟩) (0 + n) G 0 (Nat.zero_le _)
  clear hown hsz hold
  have hn1 : ¬ ((n : Int) < 0) := by omega
  have hn2 : (n : Int) > 0 := by omega
  go_enter Tryz.func116, Tryz.ntmps116
  go_wp2_with (at_builtin; refine Lib.wpList_append_run _ rfl _ _ _ _ rfl _ _ rfl rfl _ _ (hrz _) ?_)
  all_goals (go_ret; exact ⟨_, rfl, HO.out, ((Below.refl _ _).drew).alloc (Nat.le_refl _) _⟩)

theorem growI_any (n : Nat) (w : World) (hn : n ≤ 1000000000) :
    Calls Tryz.prog 116 #[.slice none 0 0, .int .i64 (n : Int)] w fun e w' => ∃ v', e = .returned v' ∧ IOwn w' w.heap.size v' [] ∧ Below w.heap.size w w' := by
  by_cases h : n = 0
  · subst h
    refine (growI_zero w).mono ?_
    rintro e w1 ⟨rfl, rfl⟩
    exact ⟨_, rfl, iown_nil _ _, Below.refl _ _⟩
  · exact growI_pos n w (by omega) hn

theorem flat_takeP {cs : List (List Int)} (k : Nat) (h : k < cs.length) : (cs.take (k + 1)).flatten = (cs.take k).flatten ++ cs.getD k [] := by
  rw [chains_take k h, List.flatten_append]; simp
theorem flat_takeP_le (cs : List (List Int)) (k : Nat) : (cs.take k).flatten.length ≤ cs.flatten.length := by
  conv => rhs; rw [← List.take_append_drop k cs]
  rw [List.flatten_append, List.length_append]
  omega

set_option maxHeartbeats 1000000 in
set_option maxRecDepth 100000 in
theorem concatI_any (v : Value) (cs : List (List Int)) (out : List Int) (w : World) (B : Nat → Prop) (hr : Chs w B v cs) (hout : out = cs.flatten) (hn : out.length ≤ 1000000) (hl : cs.length ≤ 1000000) :
    Calls Tryz.prog 72 #[v] w fun e w' => ∃ v', e = .returned v' ∧ IOwn w' w.heap.size v' out ∧ Below w.heap.size w w' := by
  obtain ⟨ao, cap, rfl, h1, h2, h3⟩ := hr.val
  have HR := Lib.hid hr; clear hr
  have HOUT := Lib.hid hout; clear hout
  go_enter Tryz.func72, Tryz.ntmps72
  go_wp2
  go_loopw [3, 5, 11] (fun sz _ i wr => ∃ k n : Nat, k ≤ cs.length ∧ i = .int .i64 (k : Int) ∧ sz = .int .i64 (n : Int) ∧ n = (cs.take k).flatten.length ∧ w = wr)
    (fun _ _ i _ => cs.length - (intOf i).toNat)
  case atStart => exact ⟨0, 0, Nat.zero_le _, rfl, rfl, by simp, rfl⟩
  case round =>
    obtain ⟨k, n, hk, rfl, rfl, hnn, rfl⟩ := hrel
    by_cases hlt : k < cs.length
    · obtain ⟨b, off, u, rfl, _, _, hcell, hat⟩ := HR.out.at hlt
      have hts := congrArg List.length (flat_takeP k hlt)
      rw [List.length_append, ← hnn] at hts
      have hle := flat_takeP_le cs (k + 1)
      have HOL := congrArg List.length HOUT.out
      generalize cs.getD k [] = t at hat hts
      obtain ⟨aot, capt, rfl, _, _, _⟩ := hat.val
      have hsm : (n : Int) + (t.length : Int) ≤ 1000000 := by omega
      have HTS := Lib.hid hts
      clear hat hts hle hnn HOL
      have hlti : (k : Int) < cs.length := by omega
      have hnot : ¬ ((n : Int) + (t.length : Int) < 0) := by omega
      go_wp2
      go_roundw
      case rel => exact ⟨k + 1, n + t.length, by omega, by go_num, by go_num, HTS.out.symm, trivial⟩
      case measure => simp [intOf]; omega
    · obtain rfl : k = cs.length := by omega
      rw [List.take_length, ← HOUT.out] at hnn
      subst hnn
      go_wp2_with fail
      refine (growI_any out.length w (by omega)).mono ?_
      rintro e w1 ⟨v1, rfl, ho1, hb1⟩
      have HO1 := Lib.hid ho1
      have HB1 := Lib.hid hb1
      clear ho1 hb1
      go_wp2
      go_loopw [6, 8, 27] (fun sv _ i wr => ∃ k : Nat, k ≤ cs.length ∧ i = .int .i64 (k : Int) ∧ IOwn wr w.heap.size sv (cs.take k).flatten ∧ Below w.heap.size w wr)
        (fun _ _ i _ => cs.length - (intOf i).toNat)
      case atStart => exact ⟨0, Nat.zero_le _, rfl, HO1.out, HB1.out⟩
      case round =>
        obtain ⟨k, hk, rfl, hown, hbel⟩ := hrel
        have HOWN := Lib.hid hown
        have HBEL := Lib.hid hbel
        clear hown hbel
        by_cases hlt : k < cs.length
        · obtain ⟨b, off, u, rfl, _, _, hcell, hat⟩ := (HR.out.old HBEL.out).at hlt
          have hts := flat_takeP k hlt
          have hle := flat_takeP_le cs (k + 1)
          rw [hts, List.length_append] at hle
          have HOL := Lib.hid (congrArg List.length HOUT.out)
          generalize cs.getD k [] = t at hat hts hle
          obtain ⟨aot, capt, rfl, _, _, _⟩ := hat.val
          have HT := Lib.hid hat
          have HTS := Lib.hid hts
          have HL2 : Hid ((cs.take k).flatten.length + t.length ≤ 1000000) := Lib.hid (by have := HOL.out; omega)
          clear hat hts hle
          have hlti : (k : Int) < cs.length := by omega
          go_wp2_with (at_builtin; go_must (refine wpList_appZ _ rfl _ _ rfl w.heap.size _ (cs.take k).flatten rfl HOWN.out _ B t rfl HT.out ?c1 ?c3 ?_))
          case c1 => have := HL2.out; omega
          case c3 => exact HBEL.out.size
          intro v4 w4 ho4 hg4
          have HB4 : Hid (Below w.heap.size w w4) := Lib.hid (HBEL.out.grown hg4 HBEL.out.size (fun j hj => (HOWN.out.lt j hj).1))
          have HO4 : Hid (IOwn w4 w.heap.size v4 (cs.take (k + 1)).flatten) := Lib.hid (by rw [HTS.out]; exact ho4)
          clear ho4 hg4
          go_wp2
          go_roundw
          case rel => exact ⟨k + 1, by omega, by go_num, HO4.out, HB4.out⟩
          case measure => simp [intOf]; omega
        · obtain rfl : k = cs.length := by omega
          have hlast := HOWN.out
          rw [List.take_length, ← HOUT.out] at hlast
          have HL := Lib.hid hlast
          clear hlast
          go_wp2
          go_ret
          exact ⟨_, rfl, HL.out, HBEL.out⟩

/-- What is behind a sort is the row, sorted. -/
theorem grow_own {w : World} {base : Nat} {v : Value} {l : List Int} (h : IOwn w base v l) (os : Array Obj) : IOwn (Sort.grow w os) base v l := by
  refine ⟨h.1, ?_⟩
  rcases h.2 with h2 | ⟨g, cap, cur, h1, h2, h3, r⟩
  · exact .inl h2
  · refine .inr ⟨g, cap, cur, h1, h2, ?_, r⟩
    have hlt := (Array.getElem?_eq_some_iff.1 h3).1
    show (w.heap ++ os)[g]? = _
    rw [Array.getElem?_append_left hlt]
    exact h3
theorem grow_below {B : Nat} {w0 w : World} (h : Below B w0 w) (hB : B ≤ w.heap.size) (os : Array Obj) : Below B w0 (Sort.grow w os) :=
  ⟨h.os, h.tape, h.output, by show _ ≤ (w.heap ++ os).size; rw [Array.size_append]; exact Nat.le_trans h.size (Nat.le_add_right _ _), fun k hk => by
    show (w.heap ++ os)[k]? = _
    rw [Array.getElem?_append_left (by omega)]
    exact h.block k hk⟩

theorem sortI_any {w0 : World} (v : Value) (l : List Int) (w : World) (h : IOwn w w0.heap.size v l) (hb : Below w0.heap.size w0 w) (hl : l.length ≤ 1000000) :
    Calls Tryz.prog 73 #[v] w fun e w' => e = .returned (.tuple #[]) ∧ IOwn w' w0.heap.size v (l.mergeSort fun x y => decide (x ≤ y)) ∧ Below w0.heap.size w0 w' := by
  by_cases hv : v = .slice none 0 0
  · subst hv
    have hl0 : l = [] := by
      rcases h.2 with ⟨_, h0⟩ | ⟨g, cap, cur, h1, _⟩
      · exact List.length_eq_zero_iff.1 h0
      · cases h1
    subst hl0
    refine (AnyM.slices_Sort_int_none Tryz.sortP none 0 w).mono ?_
    rintro e w1 ⟨rfl, rfl⟩
    exact ⟨rfl, by simpa using iown_nil _ _, hb⟩
  · obtain ⟨g, cap, rfl, hbg, hgw, hnc, hcm, _, hH⟩ := Lib.holds_of_ownsRow (enc := Value.int .i64) h hv
    refine (AnyM.slices_Sort_int Tryz.sortP g 0 cap l w hH hgw (by omega)).mono ?_
    rintro e w1 ⟨rfl, n, os, rfl⟩
    have ho := Lib.ownsRow_putRow (q := n) (k := l.length) (ys := l.mergeSort fun x y => decide (x ≤ y)) h (List.length_mergeSort _) (Nat.le_refl _)
    have hlen : (l.mergeSort fun x y => decide (x ≤ y)).length = l.length := List.length_mergeSort _
    rw [List.take_of_length_le (by omega)] at ho
    have ho2 : IOwn (Sort.putRow (Value.int .i64) (Sort.ahead w n) g 0 (l.mergeSort fun x y => decide (x ≤ y)).toArray) w0.heap.size (.slice (some ⟨g, 0, none⟩) l.length cap) (l.mergeSort fun x y => decide (x ≤ y)) := by
      unfold IOwn
      rw [hlen]
      exact ho
    refine ⟨rfl, grow_own ho2 os, grow_below (Lib.below_putRow hb hbg) ?_ os⟩
    rw [Sort.size_putRow]
    exact hb.size

theorem compactI_any {w0 : World} (v : Value) (l : List Int) (w : World) (h : IOwn w w0.heap.size v l) (hb : Below w0.heap.size w0 w) (hl : l.length ≤ 1000000) :
    Calls Tryz.prog 74 #[v] w fun e w' => ∃ v', e = .returned v' ∧ IOwn w' w0.heap.size v' (Lib.compact l) ∧ Below w0.heap.size w0 w' := by
  by_cases hv : v = .slice none 0 0
  · subst hv
    have hl0 : l = [] := by
      rcases h.2 with ⟨_, h0⟩ | ⟨g, cap, cur, h1, _⟩
      · exact List.length_eq_zero_iff.1 h0
      · cases h1
    subst hl0
    refine (Any.slices_Compact_int_empty Tryz.compactP none 0 w).mono ?_
    rintro e w1 ⟨rfl, rfl⟩
    exact ⟨_, rfl, by simpa [Lib.compact, Lib.compactUpTo] using iown_nil _ _, hb⟩
  · obtain ⟨g, cap, rfl, hbg, hgw, hnc, hcm, _, hH⟩ := Lib.holds_of_ownsRow (enc := Value.int .i64) h hv
    refine (Any.slices_Compact_int Tryz.compactP g 0 cap l w hH (by omega) hnc).mono ?_
    rintro e w1 ⟨rfl, n, rfl⟩
    have hcl := Lib.compact_length_le l
    have ho := Lib.ownsRow_putRow (q := n) (k := (Lib.compact l).length) (ys := Lib.compact l ++ List.replicate (l.length - (Lib.compact l).length) 0) h (by simp; omega) hcl
    rw [List.take_left] at ho
    exact ⟨_, rfl, ho, Lib.below_putRow hb hbg⟩

theorem slice_val {w : World} {base : Nat} {v : Value} {l : List Int} (h : IOwn w base v l) : ∃ ao cap, v = .slice ao l.length cap := by
  obtain ⟨ao, cap, hv, _⟩ := h.row.val
  exact ⟨ao, cap, hv⟩

set_option maxHeartbeats 1000000 in
set_option maxRecDepth 100000 in
theorem units_any (ep : Int) (v : Value) (cs : List (List Int)) (w : World) (B : Nat → Prop) (h : Chs w B v cs) (hn : cs.flatten.length ≤ 1000000) (hl : cs.length ≤ 1000000) :
    Calls Tryz.prog 34 #[.agg #[.int .i64 ep, v]] w fun e w' => ∃ v', e = .returned v' ∧ IOwn w' w.heap.size v' (unitsL cs.flatten) ∧ Below w.heap.size w w' := by
  obtain ⟨ao, cap, rfl, l1, m1, _⟩ := h.val
  obtain ⟨W1, hW1⟩ : ∃ W1, W1 = w.alloc (.cells #[.int .i64 ep, .slice ao cs.length cap] 54) := ⟨_, rfl⟩
  have hb1 : Below w.heap.size w W1 := by rw [hW1]; exact (Below.refl _ _).alloc (Nat.le_refl _) _
  have HB1 := Lib.hid hb1
  have HC := Lib.hid (concatI_any _ cs _ W1 B (h.old hb1) rfl hn hl)
  have HLE := Lib.hid hn
  have HMS := Lib.hid (compact_units cs.flatten)
  clear h hb1 l1 m1 hn hl
  subst hW1
  go_enter Tryz.func34, Tryz.ntmps34
  go_wp2_with fail
  refine HC.out.mono ?_
  rintro e w2 ⟨v2, rfl, ho2, hb2⟩
  have hb2' : Below w.heap.size w w2 := HB1.out.trans (hb2.mono HB1.out.size)
  have ho2' : IOwn w2 w.heap.size v2 cs.flatten := ho2.mono HB1.out.size
  have HS := Lib.hid (sortI_any v2 cs.flatten w2 ho2' hb2' HLE.out)
  have HLE2 : Hid ((cs.flatten.mergeSort fun x y => decide (x ≤ y)).length ≤ 1000000) := Lib.hid (by rw [List.length_mergeSort]; exact HLE.out)
  obtain ⟨ao2, cap2, hv2⟩ := slice_val ho2
  generalize cs.flatten.length = fl at hv2 HLE
  subst hv2
  clear ho2 hb2 ho2' hb2' HC
  go_wp2_with fail
  refine HS.out.mono ?_
  rintro e w3 ⟨rfl, ho3, hb3⟩
  have HP := Lib.hid (compactI_any _ _ w3 ho3 hb3 HLE2.out)
  clear ho3 hb3
  go_wp2_with fail
  refine HP.out.mono ?_
  rintro e w4 ⟨v4, rfl, ho4, hb4⟩
  rw [HMS.out] at ho4
  have HO4 := Lib.hid ho4
  have HB4 := Lib.hid hb4
  clear ho4 hb4
  go_wp2
  go_ret
  exact ⟨v4, rfl, HO4.out, HB4.out⟩

end Go.Proofs.YtlckadlkgjfjcaaGreatDoor

namespace Go.Proofs.YtlckadlkgjfjcaaGreatDoor
open Go.RowKit

/-- The cells of a box of a projection, where it stays. -/
structure Box2 (w : World) (p : Nat) (x y : Value) : Prop where
  c0 : w.cell? ⟨p, 0, none⟩ = some x
  c1 : w.cell? ⟨p, 1, none⟩ = some y
  f0 : w.frozen? ⟨p, 0, none⟩ = false
  f1 : w.frozen? ⟨p, 1, none⟩ = false
theorem Box2.low {w w' : World} {p B : Nat} {x y : Value} (h : Box2 w p x y) (hb : Below B w w') (hp : p < B) : Box2 w' p x y :=
  ⟨(hb.cell (p := ⟨p, 0, none⟩) hp).trans h.c0, (hb.cell (p := ⟨p, 1, none⟩) hp).trans h.c1, (hb.frozen (p := ⟨p, 0, none⟩) hp).trans h.f0, (hb.frozen (p := ⟨p, 1, none⟩) hp).trans h.f1⟩
theorem Box2.old {w w' : World} {p : Nat} {x y : Value} (h : Box2 w p x y) (hb : Below w.heap.size w w') : Box2 w' p x y := h.low hb (World.block_lt_of_cell? w _ h.c0)
theorem box2_new (w : World) (x y : Value) (t : TypeId) : Box2 (w.alloc (.cells #[x, y] t)) w.heap.size x y :=
  ⟨by rw [World.cell?_alloc_at _ _ _ _ rfl]; rfl, by rw [World.cell?_alloc_at _ _ _ _ rfl]; rfl, frozen_of_row _ _ _ _ _ (heap_alloc_new w _), frozen_of_row _ _ _ _ _ (heap_alloc_new w _)⟩
theorem Box2.drew {w : World} {p : Nat} {x y : Value} (h : Box2 w p x y) : Box2 w.drew p x y := ⟨h.c0, h.c1, h.f0, h.f1⟩
theorem Box2.lt {w : World} {p : Nat} {x y : Value} (h : Box2 w p x y) : p < w.heap.size := World.block_lt_of_cell? w _ h.c0

theorem formed_few {cs : List (List Int)} (h : formedB cs = true) : cs.flatten.length ≤ 16 ∧ cs.length ≤ 4 ∧ 1 ≤ cs.length := by
  obtain ⟨⟨h1, h2⟩, h3⟩ := formedB_iff.1 h
  refine ⟨?_, h2, h1⟩
  have key : ∀ (l : List (List Int)), (∀ c ∈ l, c.length ≤ 4) → l.flatten.length ≤ 4 * l.length := by
    intro l
    induction l with
    | nil => intro _; simp
    | cons c l ih =>
      intro h
      have a := ih fun d hd => h d (List.mem_cons_of_mem _ hd)
      have b := h c (List.mem_cons_self ..)
      simp only [List.flatten_cons, List.length_append, List.length_cons]
      omega
  have := key cs fun c hc => (h3 c hc).2
  omega

set_option maxHeartbeats 2000000 in
set_option maxRecDepth 100000 in
theorem pcheck_any (ep : Int) (v : Value) (cs : List (List Int)) (w : World) (B : Nat → Prop) (h : Chs w B v cs) :
    Calls Tryz.prog 59 #[.agg #[.int .i64 ep, v]] w fun e w' => e = .returned (errV (pchk ep cs)) ∧ Below w.heap.size w w' := by
  obtain ⟨ao, cap, rfl, l1, m1, _⟩ := h.val
  obtain ⟨W1, hW1⟩ : ∃ W1, W1 = w.alloc (.cells #[.int .i64 ep, .slice ao cs.length cap] 54) := ⟨_, rfl⟩
  have hb1 : Below w.heap.size w W1 := by rw [hW1]; exact (Below.refl _ _).alloc (Nat.le_refl _) _
  have hx1 : Box2 W1 w.heap.size (.int .i64 ep) (.slice ao cs.length cap) := by rw [hW1]; exact box2_new _ _ _ _
  have HX1 := Lib.hid hx1
  have HB1 := Lib.hid hb1
  have HR := Lib.hid (h.old hb1)
  have HFO := Lib.hid (formed_any _ cs W1 B (h.old hb1))
  have HEP : Hid (betwB ep 0 1099511627776 = epochB ep) := Lib.hid rfl
  by_cases g1 : epochB ep = true
  rotate_left
  · have HP : Hid (pchk ep cs = 1) := Lib.hid (by unfold pchk; rw [if_pos (by simpa using g1)])
    have g1 : epochB ep = false := by simpa using g1
    rw [g1] at HEP
    clear h hb1 l1 m1 hx1 g1
    subst hW1
    go_enter Tryz.func59, Tryz.ntmps59
    go_wp2_with fail
    refine (betw_any _ _ _ _).mono ?_
    rintro e w1 ⟨rfl, rfl⟩
    rw [HEP.out]
    go_wp2
    go_ret
    exact ⟨by rw [HP.out]; rfl, HB1.out⟩
  by_cases g2 : formedB cs = true
  rotate_left
  · have HP : Hid (pchk ep cs = 2) := Lib.hid (by unfold pchk; rw [if_neg (by simp [g1]), if_pos (by simpa using g2)])
    have g2 : formedB cs = false := by simpa using g2
    rw [g1] at HEP
    rw [g2] at HFO
    clear h hb1 l1 m1 hx1 g1 g2
    subst hW1
    go_enter Tryz.func59, Tryz.ntmps59
    go_wp2_with fail
    refine (betw_any _ _ _ _).mono ?_
    rintro e w1 ⟨rfl, rfl⟩
    rw [HEP.out]
    go_wp2_with fail
    refine HFO.out.mono ?_
    rintro e w1 ⟨rfl, rfl⟩
    go_wp2
    go_ret
    exact ⟨by rw [HP.out]; rfl, HB1.out⟩
  obtain ⟨few1, few2, few3⟩ := formed_few g2
  have HC := Lib.hid (concatI_any _ cs _ W1 B (h.old hb1) rfl (by omega) (by omega))
  have HFW : Hid (cs.flatten.length ≤ 16 ∧ cs.length ≤ 4) := Lib.hid ⟨few1, few2⟩
  have HPC : Hid (pchk ep cs = if cs.flatten.all unitB = false then 1 else if cs.flatten.Nodup then 0 else 2) := Lib.hid (by unfold pchk; rw [if_neg (by simp [g1]), if_neg (by simp [g2])])
  have HND := Lib.hid (unitsL_nodup cs.flatten)
  rw [g1] at HEP
  rw [g2] at HFO
  have hsz : w.heap.size < W1.heap.size := hx1.lt
  have HSZ := Lib.hid hsz
  obtain ⟨W1', hW1'⟩ : ∃ W, W = W1 := ⟨_, rfl⟩
  have HWE := Lib.hid hW1'
  clear h hb1 l1 m1 hx1 g1 g2 few1 few2 few3 hsz hW1'
  subst hW1
  go_enter Tryz.func59, Tryz.ntmps59
  go_wp2_with fail
  refine (betw_any _ _ _ _).mono ?_
  rintro e w1 ⟨rfl, rfl⟩
  rw [HEP.out]
  go_wp2_with fail
  refine HFO.out.mono ?_
  rintro e w1 ⟨rfl, rfl⟩
  go_wp2_with fail
  refine HC.out.mono ?_
  rintro e w2 ⟨v2, rfl, ho2, hb2⟩
  have hx2 := HX1.out.old hb2
  have c0 := hx2.c0
  have c1 := hx2.c1
  have HB2 : Hid (Below w.heap.size w w2) := Lib.hid (HB1.out.trans (hb2.mono HB1.out.size))
  have HR2 := Lib.hid (HR.out.old hb2)
  obtain ⟨ao2, cap2, hv2⟩ := slice_val ho2
  have HAU := Lib.hid (areUnits_any v2 cs.flatten w2 _ ho2.row)
  have HU := Lib.hid (units_any ep _ cs w2 B HR2.out (by have := HFW.out; omega) (by have := HFW.out; omega))
  obtain ⟨fl, hfl⟩ : ∃ fl, fl = cs.flatten.length := ⟨_, rfl⟩
  rw [← hfl] at hv2
  have HFL := Lib.hid hfl
  subst hv2
  clear ho2 hb2 hx2 hfl
  by_cases g3 : cs.flatten.all unitB = true
  rotate_left
  · have HP : Hid (pchk ep cs = 1) := Lib.hid (by rw [HPC.out, if_pos (by simpa using g3)])
    have g3 : cs.flatten.all unitB = false := Bool.eq_false_iff.2 g3
    rw [g3] at HAU
    clear g3
    go_wp2_with fail
    refine HAU.out.mono ?_
    rintro e w3 ⟨rfl, rfl⟩
    go_wp2
    go_ret
    exact ⟨by rw [HP.out]; rfl, HB2.out⟩
  have HPC2 : Hid (pchk ep cs = if cs.flatten.Nodup then 0 else 2) := Lib.hid (by rw [HPC.out, if_neg (by simp only [g3]; simp)])
  rw [g3] at HAU
  clear g3
  go_wp2_with fail
  refine HAU.out.mono ?_
  rintro e w3 ⟨rfl, rfl⟩
  go_wp2_with fail
  refine HU.out.mono ?_
  rintro e w4 ⟨v4, rfl, ho4, hb4⟩
  obtain ⟨ao4, cap4, hv4⟩ := slice_val ho4
  have HB4 : Hid (Below w.heap.size w w4) := Lib.hid (HB2.out.trans (hb4.mono HB2.out.size))
  obtain ⟨ul, hul⟩ : ∃ ul, ul = (unitsL cs.flatten).length := ⟨_, rfl⟩
  rw [← hul] at hv4
  have HUL := Lib.hid hul
  subst hv4
  clear ho4 hb4 hul
  by_cases g4 : cs.flatten.Nodup
  · have HP : Hid (pchk ep cs = 0) := Lib.hid (by rw [HPC2.out, if_pos g4])
    have hlt : decide (ul < fl) = false := decide_eq_false (by rw [HUL.out, HFL.out, HND.out]; exact fun h => h g4)
    clear g4
    go_wp2
    go_ret
    exact ⟨by rw [HP.out]; rfl, HB4.out⟩
  · have HP : Hid (pchk ep cs = 2) := Lib.hid (by rw [HPC2.out, if_neg g4])
    have hlt : decide (ul < fl) = true := decide_eq_true (by rw [HUL.out, HFL.out, HND.out]; exact g4)
    clear g4
    go_wp2
    go_ret
    exact ⟨by rw [HP.out]; rfl, HB4.out⟩

end Go.Proofs.YtlckadlkgjfjcaaGreatDoor
