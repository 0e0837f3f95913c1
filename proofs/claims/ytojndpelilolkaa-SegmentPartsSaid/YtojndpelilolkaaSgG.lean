/- Rows of cells joined: slices.Concat of two. -/
import Derived.Test.YtojndpelilolkaaSgD
import Derived.Test.YtojndpelilolkaaRecB
import Derived.Lib.AppendZerosOnto
import Derived.Lib.SliceRun
import Derived.Lib.Walk
namespace Go.Proofs.Ytojndpelilolkaa
open Go.RowKit

/-- A cell's values. -/
def irow (x : Int × Value) : List Value := [.int .i64 x.1, x.2]
theorem irow_flat (l : List (Int × Value)) : (l.map irow).flatten = ivals l := by
  induction l with
  | nil => rfl
  | cons x r ih => simp only [List.map_cons, List.flatten_cons, ih]; rfl
theorem ownsI_rec {w : World} {base : Nat} {v : Value} {l : List (Int × Value)} : OwnsI w base v l ↔ RecOwn w base 41 2 v (l.map irow) := by
  unfold OwnsI RecOwn
  rw [List.length_map, irow_flat]
  exact ⟨fun h => ⟨fun r hr => by obtain ⟨x, _, rfl⟩ := List.mem_map.1 hr; rfl, h⟩, fun h => h.2⟩
/-- Cells that read, as rows of values. -/
theorem CellsAt.rec {w : World} {B : Nat → Prop} {v : Value} {cs : List IC} (h : CellsAt w B v cs) :
    ∃ l : List (Int × Value), l.length = cs.length ∧ (∀ i, (hi : i < l.length) → l[i].1 = (cs.getD i (0, [])).1 ∧ At w B .u8 l[i].2 (cs.getD i (0, [])).2) ∧ RecAt w B 2 v (l.map irow) := by
  obtain ⟨ao, cap, rfl, h1, h2, h3, h4⟩ := h
  rcases h4 with rfl | ⟨b, off, rfl, hb, hB, hc⟩
  · exact ⟨[], rfl, fun i hi => by simp at hi, ao, cap, rfl, h1, h2, h3, .inl rfl⟩
  · have hex : ∀ i : Nat, ∃ x : Value, i < cs.length → w.cell? ⟨b, off + i * 2, none⟩ = some (.int .i64 (cs.getD i (0, [])).1) ∧ w.cell? ⟨b, off + i * 2 + 1, none⟩ = some x ∧ At w B .u8 x (cs.getD i (0, [])).2 := fun i => by
      by_cases hi : i < cs.length
      · obtain ⟨x, hx⟩ := hc i hi
        exact ⟨x, fun _ => hx⟩
      · exact ⟨.nilIface, fun h => absurd h hi⟩
    obtain ⟨f, hf⟩ := Classical.axiomOfChoice hex
    refine ⟨(List.range cs.length).map fun i => ((cs.getD i (0, [])).1, f i), by simp, fun i hi => ?_, some ⟨b, off, none⟩, cap, by simp, by simpa using h1, h2, h3, .inr ⟨b, off, rfl, hb, hB, ?_⟩⟩
    · have e : ((List.range cs.length).map fun i => ((cs.getD i (0, [])).1, f i))[i] = ((cs.getD i (0, [])).1, f i) := by rw [List.getElem_map, List.getElem_range]
      rw [e]
      exact ⟨rfl, (hf i (by simpa using hi)).2.2⟩
    · intro i r hi j u hu
      rw [List.map_map] at hi
      have hil : i < cs.length := by
        by_cases h : i < cs.length
        · exact h
        · rw [List.getElem?_eq_none (by simp; omega)] at hi; cases hi
      rw [List.getElem?_map, List.getElem?_range hil] at hi
      simp only [Option.map_some, Option.some.injEq, Function.comp] at hi
      subst hi
      unfold irow at hu
      match j with
      | 0 => simp only [List.getElem?_cons_zero, Option.some.injEq] at hu; rw [← hu]; exact (hf i hil).1
      | 1 => simp only [List.getElem?_cons_succ, List.getElem?_cons_zero, Option.some.injEq] at hu; rw [← hu]; exact (hf i hil).2.1
      | j + 2 => simp at hu
theorem info_of2 {e : TypeId} {z : Value} {b : Nat} (h : (Try.prog.info? e).map (fun i => (i.zero, i.size, i.bytes)) = some (some z, 2, b)) : ∃ i, Try.prog.info? e = some i ∧ i.zero = some z ∧ i.size = 2 ∧ i.bytes = b := info_parts h
set_option maxRecDepth 100000 in
/-- A slice's head as a slice, nil or not. -/
theorem slice_headS (w : World) (a : Option Addr) (n c m : Nat) (h : m ≤ c) : (Instr.slice 22 (.slice a n c) none (some (.int .i64 (m : Int))) none).run Try.prog w = .ok (.slice a m c) w := by
  rw [run_slice_h w 22 a n c (by kernel_rfl) .i64 (m : Int) (by omega) (by omega)]
  have hs : (sizeOf (Try.prog.elem 22)).run Try.prog w = .ok 2 w := by kernel_rfl
  rw [hs]
  simp only [Result.andThen, sliced]
  congr 1
  have : (a.map fun x => x.add (0 * 2)) = a := by cases a <;> simp [Addr.add]
  rw [this]
  simp

set_option maxHeartbeats 400000 in
set_option maxRecDepth 100000 in
theorem growS_zero (w : World) : Calls Try.prog 56 #[.slice none 0 0, .int .i64 0] w fun e w' => e = .returned (.slice none 0 0) ∧ w = w' := by
  go_enter Try.func56, Try.ntmps56
  go_wp2
  go_ret
  exact ⟨rfl, rfl⟩

set_option maxHeartbeats 400000 in
set_option maxRecDepth 100000 in
theorem growS_pos (n : Nat) (w : World) (h0 : 0 < n) (hn : n ≤ 1000000) :
    Calls Try.prog 56 #[.slice none 0 0, .int .i64 (n : Int)] w fun e w' => ∃ v', e = .returned v' ∧ OwnsI w' w.heap.size v' [] ∧ Below w.heap.size w w' := by
  obtain ⟨i0, hi0, hz0, hs0, hb0⟩ := info_of2 Try.infoIC
  have hold : (Builtin.firstCells i0.size 0 (.slice none 0 0)).run Try.prog w.drew = .ok ([] : List Value).toArray w.drew := run_firstCells_none w.drew i0.size 0 0 0
  have hrz : ∀ ty, (Builtin.append_ #[22, 3] ty #[.slice none 0 0, .int .i64 (n : Int)]).run Try.prog w = _ := fun ty =>
    Lib.run_append_grow_zeros w 22 3 ty 41 i0 (.agg #[.int .i64 0, .slice none 0 0]) .i64 .i64 Try.underlying22 Try.underlying3 hi0 hz0 none 0 0 [] hold n h0 (by omega) (by omega) (by omega) (by rw [hb0]; omega) (by exact growslice_fits (by omega) (by rw [hb0]; omega))
  have hG := grownCap_ge w (0 + n) 0 41
  have hG2 := grownCap_le_maxLen w (0 + n) 0 41 (by unfold maxLen; omega)
  have hown : ∀ C : Array Value, C.size = grownCap w (0 + n) 0 41 * 2 → OwnsI (w.drew.alloc (.cells C 41)) w.heap.size (.slice (some ⟨w.heap.size, 0, none⟩) 0 (grownCap w (0 + n) 0 41)) [] := fun C hC => World.ownsRow_made w.drew C _ (Nat.le_refl _) hG2 hC
  have hsz : (([] : List Value).toArray ++ Builtin.zeroCells (Value.agg #[.int .i64 0, .slice none 0 0]).cells n ++ Builtin.zeroCells (Value.agg #[.int .i64 0, .slice none 0 0]).cells (grownCap w (0 + n) 0 41 - (0 + n))).size = grownCap w (0 + n) 0 41 * 2 := by
    rw [Array.size_append, Array.size_append, size_zeroCells, size_zeroCells]
    show 0 + n * 2 + (_ - _) * 2 = _
    omega
  have hsl1 := fun w => slice_headS w none 0 0 0 (Nat.le_refl 0)
  generalize ([] : List Value).toArray ++ Builtin.zeroCells (Value.agg #[.int .i64 0, .slice none 0 0]).cells n ++ Builtin.zeroCells (Value.agg #[.int .i64 0, .slice none 0 0]).cells (grownCap w (0 + n) 0 41 - (0 + n)) = C at hrz hsz
  have HO := Lib.hid (hown C hsz)
  generalize grownCap w (0 + n) 0 41 = G at hrz HO hG hG2
  have hsl2 := fun W => slice_headS W (some ⟨w.heap.size, 0, none⟩) (0 + n) G 0 (Nat.zero_le _)
  clear hown hsz hold
  have hn1 : ¬ ((n : Int) < 0) := by omega
  have hn2 : (n : Int) > 0 := by omega
  go_enter Try.func56, Try.ntmps56
  go_wp2_with (at_builtin; refine Lib.wpList_append_run _ rfl _ _ _ _ rfl _ _ rfl rfl _ _ (hrz _) ?_)
  all_goals (go_ret; exact ⟨_, rfl, HO.out, ((Below.refl _ _).drew).alloc (Nat.le_refl _) _⟩)

theorem growS_any (n : Nat) (w : World) (hn : n ≤ 1000000) :
    Calls Try.prog 56 #[.slice none 0 0, .int .i64 (n : Int)] w fun e w' => ∃ v', e = .returned v' ∧ OwnsI w' w.heap.size v' [] ∧ Below w.heap.size w w' := by
  by_cases h : n = 0
  · subst h
    refine (growS_zero w).mono ?_
    rintro e w1 ⟨rfl, rfl⟩
    exact ⟨_, rfl, ownsI_nil _ _, Below.refl _ _⟩
  · exact growS_pos n w (by omega) hn

set_option maxHeartbeats 2000000 in
set_option maxRecDepth 100000 in
/-- Two rows of cells, joined; the bytes are theirs. -/
theorem concatS_any (v1 v2 : Value) (a b : List IC) (q : Nat) (w : World) (A B : Nat → Prop) (h1 : CellsAt w A v1 a) (h2 : CellsAt w B v2 b) (hq0 : w.cell? ⟨q, 0, none⟩ = some v1) (hq1 : w.cell? ⟨q, 1, none⟩ = some v2) (ha : a.length ≤ 64) (hb : b.length ≤ 64) :
    Calls Try.prog 38 #[.slice (some ⟨q, 0, none⟩) 2 2] w fun e w' => ∃ v', e = .returned v' ∧ CellsAt w' (fun j => w.heap.size ≤ j ∨ A j ∨ B j) v' (a ++ b) ∧ Below w.heap.size w w' := by
  obtain ⟨la, p1, p2, p3⟩ := h1.rec
  obtain ⟨lb, r1, r2, r3⟩ := h2.rec
  obtain ⟨ao1, cap1, rfl, _, _, _⟩ := h1.val
  obtain ⟨ao2, cap2, rfl, _, _, _⟩ := h2.val
  obtain ⟨n1, hn1⟩ : ∃ n, n = a.length := ⟨_, rfl⟩
  obtain ⟨n2, hn2⟩ : ∃ n, n = b.length := ⟨_, rfl⟩
  rw [← hn1] at hq0 p1 p3 ha
  rw [← hn2] at hq1 r1 r3 hb
  have HP1 := Lib.hid p1
  have HR1 := Lib.hid r1
  have HP3 := Lib.hid p3
  have HR3 := Lib.hid r3
  have HQ : Hid (∀ W, Below w.heap.size w W → W.cell? ⟨q, 0, none⟩ = some (.slice ao1 n1 cap1) ∧ W.cell? ⟨q, 1, none⟩ = some (.slice ao2 n2 cap2)) := Lib.hid fun W hW =>
    ⟨(hW.cell (p := ⟨q, 0, none⟩) (World.block_lt_of_cell? w _ hq0)).trans hq0, (hW.cell (p := ⟨q, 1, none⟩) (World.block_lt_of_cell? w _ hq1)).trans hq1⟩
  have HFIN : Hid (∀ W v, Below w.heap.size w W → OwnsI W w.heap.size v (la ++ lb) → CellsAt W (fun j => w.heap.size ≤ j ∨ A j ∨ B j) v (a ++ b)) := Lib.hid fun W v hW ho => by
    refine ho.cells (a ++ b) _ (by rw [List.length_append, List.length_append]; omega) (fun j hj => .inl (ho.lt j hj).1) fun i hi => ?_
    by_cases hil : i < la.length
    · have e1 : (la ++ lb)[i] = la[i] := List.getElem_append_left hil
      have e2 : (a ++ b).getD i (0, []) = a.getD i (0, []) := by
        rw [List.getD_eq_getElem?_getD, List.getElem?_append_left (by omega), ← List.getD_eq_getElem?_getD]
      rw [e1, e2]
      exact ⟨(p2 i hil).1, ((p2 i hil).2.old hW).mono fun _ _ h => .inr (.inl h)⟩
    · have hi2 : i - la.length < lb.length := by rw [List.length_append] at hi; omega
      have e1 : (la ++ lb)[i] = lb[i - la.length] := List.getElem_append_right (by omega)
      have e2 : (a ++ b).getD i (0, []) = b.getD (i - la.length) (0, []) := by
        rw [List.getD_eq_getElem?_getD, List.getElem?_append_right (by omega), ← List.getD_eq_getElem?_getD, p1, hn1]
      rw [e1, e2]
      exact ⟨(r2 _ hi2).1, ((r2 _ hi2).2.old hW).mono fun _ _ h => .inr (.inr h)⟩
  have h1c : Hid ((∀ r ∈ la.map irow, ∀ u ∈ r, u.oneCell' = true) ∧ (∀ r ∈ lb.map irow, ∀ u ∈ r, u.oneCell' = true)) := Lib.hid (by
    have key : ∀ (W : World) (D : Nat → Prop) (l : List (Int × Value)) (cs : List IC), (∀ i, (hi : i < l.length) → l[i].1 = (cs.getD i (0, [])).1 ∧ At W D .u8 l[i].2 (cs.getD i (0, [])).2) → ∀ r ∈ l.map irow, ∀ u ∈ r, u.oneCell' = true := by
      intro W D l cs h r hr u hu
      obtain ⟨x, hx, rfl⟩ := List.mem_map.1 hr
      obtain ⟨i, hi, rfl⟩ := List.getElem_of_mem hx
      simp only [irow, List.mem_cons, List.not_mem_nil, or_false] at hu
      rcases hu with rfl | rfl
      · rfl
      · exact (h i hi).2.oneCell
    exact ⟨key _ _ _ _ p2, key _ _ _ _ r2⟩)
  obtain ⟨z0, z1⟩ := HQ.out w (Below.refl _ _)
  clear h1 h2 p1 p2 p3 r1 r2 r3 hn1 hn2 hq0 hq1
  have ha' : (n1 : Int) ≤ 64 := by omega
  have hb' : (n2 : Int) ≤ 64 := by omega
  have hw1 : wrap64 ((n1 : Int) + (n2 : Int)) = (n1 : Int) + (n2 : Int) := w64_in (by omega) (by omega)
  go_enter Try.func38, Try.ntmps38
  go_wp2_with fail
  go_loopw [3, 5, 11] (fun sz _ i wr => ((i = .int .i64 0 ∧ sz = .int .i64 0) ∨ (i = .int .i64 1 ∧ sz = .int .i64 (n1 : Int)) ∨ (i = .int .i64 2 ∧ sz = .int .i64 ((n1 : Int) + (n2 : Int)))) ∧ w = wr)
    (fun _ _ i _ => 2 - (intOf i).toNat)
  case atStart => exact ⟨.inl ⟨rfl, rfl⟩, rfl⟩
  case round =>
    obtain ⟨hc, rfl⟩ := hrel
    rcases hc with ⟨rfl, rfl⟩ | ⟨rfl, rfl⟩ | ⟨rfl, rfl⟩
    · go_wp2
      go_roundw
      case rel => exact ⟨.inr (.inl ⟨rfl, congrArg (Value.int .i64) (by go_num)⟩), trivial⟩
      case measure => decide
    · go_wp2
      go_roundw
      case rel => exact ⟨.inr (.inr ⟨rfl, rfl⟩), trivial⟩
      case measure => decide
    · have HGR := Lib.hid (growS_any (n1 + n2) w (by omega))
      rw [Int.natCast_add] at HGR
      go_wp2_with fail
      refine HGR.out.mono ?_
      rintro e w1 ⟨sv1, rfl, ho1, hb1⟩
      have HO1 := Lib.hid ho1
      have HB1 := Lib.hid hb1
      clear ho1 hb1
      go_wp2
      go_loopw [6, 8, 27] (fun sv _ i wr => ((i = .int .i64 0 ∧ OwnsI wr w.heap.size sv []) ∨ (i = .int .i64 1 ∧ OwnsI wr w.heap.size sv la) ∨ (i = .int .i64 2 ∧ OwnsI wr w.heap.size sv (la ++ lb))) ∧ Below w.heap.size w wr)
        (fun _ _ i _ => 2 - (intOf i).toNat)
      case atStart => exact ⟨.inl ⟨rfl, HO1.out⟩, HB1.out⟩
      case round =>
        obtain ⟨hc, hbr⟩ := hrel
        have HB := Lib.hid hbr
        obtain ⟨z0, z1⟩ := HQ.out wr hbr
        clear hbr
        rcases hc with ⟨rfl, ho⟩ | ⟨rfl, ho⟩ | ⟨rfl, ho⟩
        · have HO := Lib.hid ho
          clear ho
          go_wp2_with (at_builtin; go_must (refine wpList_appRecs (B := A) rfl _ _ 22 rfl w.heap.size 41 _ 2 32 Try.underlying22 Try.infoIC rfl (by decide) _ _ [] (la.map irow) rfl rfl (ownsI_rec.1 HO.out) (HP3.out.keep (kept_new HB.out A)) ?c1 h1c.out.1 ?c2 ?c3 ?c4 ?_))
          case c1 => intro r hr; obtain ⟨x, _, rfl⟩ := List.mem_map.1 hr; rfl
          case c2 => have := HP1.out; simp only [List.length_nil, List.length_map, maxLen]; omega
          case c3 => have := HP1.out; simp only [List.length_nil, List.length_map]; omega
          case c4 => exact HB.out.size
          intro v4 w4 ho4 hg4
          have HO4 : Hid (OwnsI w4 w.heap.size v4 la) := Lib.hid (ownsI_rec.2 (by simpa using ho4))
          have HB4 : Hid (Below w.heap.size w w4) := Lib.hid (HB.out.grown hg4 HB.out.size fun j hj => (HO.out.lt j hj).1)
          clear ho4 hg4
          go_wp2
          go_roundw
          case rel => exact ⟨.inr (.inl ⟨rfl, HO4.out⟩), HB4.out⟩
          case measure => decide
        · have HO := Lib.hid ho
          clear ho
          go_wp2_with (at_builtin; go_must (refine wpList_appRecs (B := B) rfl _ _ 22 rfl w.heap.size 41 _ 2 32 Try.underlying22 Try.infoIC rfl (by decide) _ _ (la.map irow) (lb.map irow) rfl rfl (ownsI_rec.1 HO.out) (HR3.out.keep (kept_new HB.out B)) ?d1 h1c.out.2 ?d2 ?d3 ?d4 ?_))
          case d1 => intro r hr; obtain ⟨x, _, rfl⟩ := List.mem_map.1 hr; rfl
          case d2 => have := HP1.out; have := HR1.out; simp only [List.length_map, maxLen]; omega
          case d3 => have := HP1.out; have := HR1.out; simp only [List.length_map]; omega
          case d4 => exact HB.out.size
          intro v4 w4 ho4 hg4
          have HO4 : Hid (OwnsI w4 w.heap.size v4 (la ++ lb)) := Lib.hid (ownsI_rec.2 (by rw [List.map_append]; exact ho4))
          have HB4 : Hid (Below w.heap.size w w4) := Lib.hid (HB.out.grown hg4 HB.out.size fun j hj => (HO.out.lt j hj).1)
          clear ho4 hg4
          go_wp2
          go_roundw
          case rel => exact ⟨.inr (.inr ⟨rfl, HO4.out⟩), HB4.out⟩
          case measure => decide
        · have HO := Lib.hid (HFIN.out wr _ HB.out ho)
          clear ho
          go_wp2
          go_ret
          exact ⟨_, rfl, HO.out, HB.out⟩

end Go.Proofs.Ytojndpelilolkaa
