/- The contracts of package cell's Check, Same, May, Copy, Later, Word. · The contracts of package cell's Copy, Later, Word. · Slices of cells; the law's own Long. -/
import Derived.Test.YtlckadlkgjfjcaaGreatDoorQg
import Derived.Test.YtlckadlkgjfjcaaGreatDoorDaP
import Derived.Deep.RegionHeld3
namespace Go.Proofs.YtlckadlkgjfjcaaGreatDoor
open Go.RowKit

theorem chk_zero {k : Int} {n : Nat} (h : chk k n = 0) : 0 ≤ k ∧ k ≤ 3 ∧ n ≤ 64 ∧ (k ≠ 1 → n = 0) := by
  unfold chk at h
  split at h
  · cases h
  · split at h
    · cases h
    · split at h
      · cases h
      · omega

set_option maxHeartbeats 400000 in
set_option maxRecDepth 100000 in
theorem check_any (k : Int) (v : Value) (d : List Nat) (w : World) (hr : Reads w .u8 v d) :
    Calls Tryz.prog 33 #[.agg #[.int .i64 k, v]] w fun e w' => e = .returned (errV (chk k d.length)) ∧ Below w.heap.size w w' := by
  obtain ⟨ao, cap, rfl, _, _, _⟩ := hr.val
  have e1 : Value.iface 41 (.int .i64 1) = errV 1 := (errV_pos (by decide)).symm
  have e2 : Value.iface 41 (.int .i64 2) = errV 2 := (errV_pos (by decide)).symm
  have e3 : Value.iface 41 (.int .i64 3) = errV 3 := (errV_pos (by decide)).symm
  have e0 : Value.nilIface = errV 0 := errV_zero.symm
  have E0 := Lib.hid e0
  have E1 := Lib.hid e1
  have E2 := Lib.hid e2
  have E3 := Lib.hid e3
  clear e0 e1 e2 e3 hr
  generalize hn : d.length = n
  clear hn
  unfold chk
  by_cases h1 : k < 0
  · rw [if_pos (.inl h1), ← E1.out]
    go_enter Tryz.func33, Tryz.ntmps33
    go_wp2
    go_ret
    exact ⟨rfl, (Below.refl _ _).alloc (Nat.le_refl _) _⟩
  by_cases h2 : 3 < k
  · rw [if_pos (.inr h2), ← E1.out]
    go_enter Tryz.func33, Tryz.ntmps33
    go_wp2
    go_ret
    exact ⟨rfl, (Below.refl _ _).alloc (Nat.le_refl _) _⟩
  rw [if_neg (by omega)]
  by_cases h3 : (64 : Int) < (n : Int)
  · rw [if_pos (by omega), ← E3.out]
    go_enter Tryz.func33, Tryz.ntmps33
    go_wp2
    go_ret
    exact ⟨rfl, (Below.refl _ _).alloc (Nat.le_refl _) _⟩
  rw [if_neg (by omega)]
  by_cases h5 : (0 : Int) < (n : Int)
  · by_cases h4 : (k != 1) = true
    · have hk : k ≠ 1 := by simpa using h4
      rw [if_pos ⟨hk, by omega⟩, ← E2.out]
      go_enter Tryz.func33, Tryz.ntmps33
      go_wp2
      go_ret
      exact ⟨rfl, (Below.refl _ _).alloc (Nat.le_refl _) _⟩
    · have hk : k = 1 := by simpa using h4
      rw [if_neg (by omega), ← E0.out]
      subst hk
      go_enter Tryz.func33, Tryz.ntmps33
      go_wp2
      go_ret
      exact ⟨rfl, (Below.refl _ _).alloc (Nat.le_refl _) _⟩
  · rw [if_neg (by omega), ← E0.out]
    go_enter Tryz.func33, Tryz.ntmps33
    go_wp2
    go_ret
    exact ⟨rfl, (Below.refl _ _).alloc (Nat.le_refl _) _⟩

/-- Two boxes of cells, made one behind the other. -/
theorem two_boxes (w : World) (x y : Value) (k1 k2 : Int) :
    Below w.heap.size w ((w.alloc (.cells #[.int .i64 k1, x] 24)).alloc (.cells #[.int .i64 k2, y] 24)) ∧
    ((w.alloc (.cells #[.int .i64 k1, x] 24)).alloc (.cells #[.int .i64 k2, y] 24)).heap[w.heap.size]? = some (.cells #[.int .i64 k1, x] 24 (0, 0)) ∧
    ((w.alloc (.cells #[.int .i64 k1, x] 24)).alloc (.cells #[.int .i64 k2, y] 24)).heap[w.heap.size + 1]? = some (.cells #[.int .i64 k2, y] 24 (0, 0)) := by
  refine ⟨((Below.refl _ _).alloc (Nat.le_refl _) _).alloc (by simp) _, ?_, ?_⟩
  · rw [Below.heap_alloc _ _ _ (by simp)]; exact heap_alloc_new _ _
  · have := heap_alloc_new (w.alloc (.cells #[.int .i64 k1, x] 24)) (.cells #[.int .i64 k2, y] 24)
    simpa using this

end Go.Proofs.YtlckadlkgjfjcaaGreatDoor

namespace Go.Proofs.YtlckadlkgjfjcaaGreatDoor
open Go.RowKit

set_option maxHeartbeats 1000000 in
set_option maxRecDepth 100000 in
theorem copy_any (k : Int) (v : Value) (d : List Nat) (w : World) (hr : Reads w .u8 v d) (hx : d.length ≤ 100000000000000) :
    Calls Tryz.prog 158 #[.agg #[.int .i64 k, v]] w fun e w' => ∃ v', e = .returned (.agg #[.int .i64 k, v']) ∧ Owns w' w.heap.size 5 .u8 v' d ∧ Below w.heap.size w w' := by
  obtain ⟨ao, cap, rfl, _, _, _⟩ := hr.val
  obtain ⟨hb0, hx1, hx2⟩ := two_boxes w (.slice ao d.length cap) (.slice none 0 0) k 0
  obtain ⟨W0, hW0⟩ : ∃ W0, W0 = (w.alloc (.cells #[.int .i64 k, .slice ao d.length cap] 24)).alloc (.cells #[.int .i64 0, .slice none 0 0] 24) := ⟨_, rfl⟩
  rw [← hW0] at hb0 hx1 hx2
  have HR := Lib.hid (hr.new hb0)
  have HB0 := Lib.hid hb0
  have HX2 := Lib.hid hx2
  have HX1 := Lib.hid hx1
  obtain ⟨a0, a1, _, _⟩ := blk2 hx1
  obtain ⟨b0, b1, b2, b3⟩ := blk2 hx2
  have hsz : w.heap.size + 1 < W0.heap.size := (Array.getElem?_eq_some_iff.1 hx2).1
  have HSZ := Lib.hid hsz
  clear hx1 hx2 hb0 hr hsz
  go_enter Tryz.func158, Tryz.ntmps158
  go_wp2_with fail
  rw [← hW0]
  have HW0 := Lib.hid hW0
  clear hW0
  go_region_held3 (fun w' => w'.cell? ⟨w.heap.size, 0, none⟩ = some (.int .i64 k) ∧ w'.cell? ⟨w.heap.size, 1, none⟩ = some (.slice ao d.length cap)) (go_keep) (first
    | (go_at_call 210; refine (clone_any _ d _ (by first | exact HR.out | exact HR.out.drewN 1) hx).mono ?_; rintro e w1 ⟨v1, rfl, ho1, hb1⟩
       obtain ⟨ao1, cap1, rfl, _, _, _⟩ := ho1.reads.val
       have HO1 : Hid (Owns w1 W0.heap.size 5 .u8 (.slice ao1 d.length cap1) d) := Lib.hid ho1
       have HB1 : Hid (Below W0.heap.size W0 w1) := Lib.hid (by first | exact hb1 | exact ⟨hb1.os, hb1.tape, hb1.output, hb1.size, hb1.block⟩)
       have c2 := (HB1.out.block _ HSZ.out).trans HX2.out
       obtain ⟨f0, f1, f2, f3⟩ := blk2 c2
       have c1 := (HB1.out.block _ (Nat.lt_of_succ_lt HSZ.out)).trans HX1.out
       obtain ⟨m0, m1, _, _⟩ := blk2 c1
       clear ho1 hb1))
  all_goals
    have hz := set2 (x := .int .i64 k) (y := .slice ao1 d.length cap1) c2
    obtain ⟨q0, q1, _, _⟩ := blk2 hz
    go_wp2
    exact bodyPost_ret (v := .agg #[.int .i64 k, .slice ao1 d.length cap1]) (by simp [results, Tryz.results158, go_sem, q0, q1]) rfl ⟨_, rfl, (HO1.out.mono HB0.out.size).grown (row := some (w.heap.size + 1)) ⟨rfl, rfl, rfl, by simp, fun j _ hj => by rw [heap_setCell_other _ _ _ _ (fun e => hj (by rw [e])), heap_setCell_other _ _ _ _ (fun e => hj (by rw [e]))]⟩ (by cases hv : (Value.slice ao1 d.length cap1).ownBlock with
        | none => exact .inl rfl
        | some j => exact .inr fun he => by have := (HO1.out.lt j hv).1; have := Option.some.inj he; have := HSZ.out; omega), ((HB0.out.trans (HB1.out.mono HB0.out.size)).setCell (by simp) _).setCell (by simp) _⟩

/-- What is owned stays so where a block that isn't its own is written. -/
theorem Owns.set2 {w : World} {base : Nat} {e : TypeId} {k : IntKind} {v : Value} {l : List Nat} (h : Owns w base e k v l) {p : Nat} (hp : ∀ j, v.ownBlock = some j → j ≠ p) (x y : Value) : Owns ((w.setCell ⟨p, 0, none⟩ x).setCell ⟨p, 1, none⟩ y) base e k v l :=
  h.grown (row := some p) ⟨rfl, rfl, rfl, by simp, fun j _ hj => by rw [heap_setCell_other _ _ _ _ (fun e => hj (by rw [e])), heap_setCell_other _ _ _ _ (fun e => hj (by rw [e]))]⟩ (by
    cases hv : v.ownBlock with
    | none => exact .inl rfl
    | some j => exact .inr fun he => hp j hv (Option.some.inj he))

end Go.Proofs.YtlckadlkgjfjcaaGreatDoor

namespace Go.Proofs.YtlckadlkgjfjcaaGreatDoor
open Go.RowKit

/-- A cell as the program has it: its kind, whatever it is, and its bytes. -/
abbrev IC := Int × List Nat

/-- A slice of cells; the blocks of all that is told by B. -/
def CellsAt (w : World) (B : Nat → Prop) (v : Value) (cs : List IC) : Prop :=
  ∃ ao cap, v = .slice ao cs.length cap ∧ cs.length ≤ cap ∧ cap ≤ maxLen ∧ (ao = none → cap = 0) ∧
    (cs = [] ∨ ∃ b off, ao = some ⟨b, off, none⟩ ∧ b < w.heap.size ∧ B b ∧ ∀ i, i < cs.length → ∃ x, w.cell? ⟨b, off + i * 2, none⟩ = some (.int .i64 (cs.getD i (0, [])).1) ∧ w.cell? ⟨b, off + i * 2 + 1, none⟩ = some x ∧ At w B .u8 x (cs.getD i (0, [])).2)

theorem CellsAt.keep {w w' : World} {B : Nat → Prop} {v : Value} {cs : List IC} (h : CellsAt w B v cs) (hk : Kept B w w') : CellsAt w' B v cs := by
  obtain ⟨ao, cap, rfl, h1, h2, h3, h4⟩ := h
  refine ⟨ao, cap, rfl, h1, h2, h3, ?_⟩
  rcases h4 with h4 | ⟨b, off, rfl, hb, hB, hc⟩
  · exact .inl h4
  · refine .inr ⟨b, off, rfl, Nat.lt_of_lt_of_le hb hk.size, hB, fun i hi => ?_⟩
    obtain ⟨x, h5, h6, h7⟩ := hc i hi
    exact ⟨x, (World.cell?_of_block (hk.block b hb hB)).trans h5, (World.cell?_of_block (hk.block b hb hB)).trans h6, h7.keep hk⟩
theorem CellsAt.mono {w : World} {B C : Nat → Prop} {v : Value} {cs : List IC} (h : CellsAt w B v cs) (hc : ∀ j, j < w.heap.size → B j → C j) : CellsAt w C v cs := by
  obtain ⟨ao, cap, rfl, h1, h2, h3, h4⟩ := h
  refine ⟨ao, cap, rfl, h1, h2, h3, ?_⟩
  rcases h4 with h4 | ⟨b, off, rfl, hb, hB, hcc⟩
  · exact .inl h4
  · refine .inr ⟨b, off, rfl, hb, hc b hb hB, fun i hi => ?_⟩
    obtain ⟨x, h5, h6, h7⟩ := hcc i hi
    exact ⟨x, h5, h6, h7.mono hc⟩
theorem CellsAt.old {w w' : World} {B : Nat → Prop} {v : Value} {cs : List IC} (h : CellsAt w B v cs) (hb : Below w.heap.size w w') : CellsAt w' B v cs := h.keep (kept_new hb B)
theorem CellsAt.val {w : World} {B : Nat → Prop} {v : Value} {cs : List IC} (h : CellsAt w B v cs) : ∃ ao cap, v = .slice ao cs.length cap ∧ cs.length ≤ cap ∧ cap ≤ maxLen ∧ (ao = none → cap = 0) := by
  obtain ⟨ao, cap, hv, h2, h3, h4, _⟩ := h
  exact ⟨ao, cap, hv, h2, h3, h4⟩
theorem CellsAt.at {w : World} {B : Nat → Prop} {ao : Option Addr} {n cap : Nat} {cs : List IC} (h : CellsAt w B (.slice ao n cap) cs) {i : Nat} (hi : i < cs.length) :
    ∃ b off x, ao = some ⟨b, off, none⟩ ∧ b < w.heap.size ∧ B b ∧ w.cell? ⟨b, off + i * 2, none⟩ = some (.int .i64 (cs.getD i (0, [])).1) ∧ w.cell? ⟨b, off + i * 2 + 1, none⟩ = some x ∧ At w B .u8 x (cs.getD i (0, [])).2 := by
  obtain ⟨ao', cap', hv, _, _, _, h4⟩ := h
  simp only [Value.slice.injEq] at hv
  obtain ⟨rfl, _, _⟩ := hv
  rcases h4 with rfl | ⟨b, off, ha, hb, hB, hc⟩
  · simp at hi
  · obtain ⟨x, h5, h6, h7⟩ := hc i hi
    exact ⟨b, off, x, ha, hb, hB, h5, h6, h7⟩
/-- What is left behind the first m cells. -/
theorem CellsAt.tail {w : World} {B : Nat → Prop} {ao : Option Addr} {n cap : Nat} {cs : List IC} (h : CellsAt w B (.slice ao n cap) cs) {m : Nat} (hm : m ≤ cs.length) :
    CellsAt w B (.slice (if cap = m then ao else ao.map fun x => x.add (m * 2)) (n - m) (cap - m)) (cs.drop m) := by
  obtain ⟨ao', cap', hv, h1, h2, h3, h4⟩ := h
  simp only [Value.slice.injEq] at hv
  obtain ⟨rfl, rfl, rfl⟩ := hv
  refine ⟨_, _, by rw [List.length_drop], by rw [List.length_drop]; omega, by omega, fun hn => ?_, ?_⟩
  · split at hn
    · omega
    · have := h3 (by simpa using hn)
      omega
  · by_cases hc : cap = m
    · exact .inl (List.drop_eq_nil_of_le (by omega))
    · rw [if_neg hc]
      rcases h4 with rfl | ⟨b, off, rfl, hb, hB, hcell⟩
      · exact .inl (by simp)
      · refine .inr ⟨b, off + m * 2, by simp [Addr.add], hb, hB, fun i hi => ?_⟩
        rw [List.length_drop] at hi
        obtain ⟨x, h5, h6, h7⟩ := hcell (m + i) (by omega)
        have e : (cs.drop m).getD i (0, []) = cs.getD (m + i) (0, []) := by rw [List.getD_eq_getElem?_getD, List.getD_eq_getElem?_getD, List.getElem?_drop]
        rw [e]
        have e2 : off + m * 2 + i * 2 = off + (m + i) * 2 := by omega
        rw [e2]
        exact ⟨x, h5, h6, h7⟩

end Go.Proofs.YtlckadlkgjfjcaaGreatDoor
