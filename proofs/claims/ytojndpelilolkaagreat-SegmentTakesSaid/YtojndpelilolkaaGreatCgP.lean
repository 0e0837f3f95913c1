/- The contracts of package cell's Check, Same, May, Copy, Later, Word. · The contracts of package cell's Copy, Later, Word. · Slices of cells; the law's own Long. -/
import Derived.Test.YtojndpelilolkaaGreatCaP
import Derived.Test.YtojndpelilolkaaGreatDaP
import Derived.Deep.RegionHeld3
namespace Go.Proofs.YtojndpelilolkaaGreat
open Go.RowKit

/-- Are two cells the same? -/
def sameC (k1 : Int) (d1 : List Nat) (k2 : Int) (d2 : List Nat) : Bool := k1 == k2 && decide (d1 = d2)
/-- May one become another? -/
def mayC (k1 : Int) (d1 : List Nat) (k2 : Int) (d2 : List Nat) : Bool :=
  if chk k1 d1.length ≠ 0 then false else if chk k2 d2.length ≠ 0 then false else (k1 == 0 || k2 == 3) || sameC k1 d1 k2 d2

theorem chk_le (k : Int) (n : Nat) : chk k n = 0 ∨ chk k n = 1 ∨ chk k n = 2 ∨ chk k n = 3 := by
  unfold chk
  split
  · exact .inr (.inl rfl)
  · split
    · exact .inr (.inr (.inr rfl))
    · split
      · exact .inr (.inr (.inl rfl))
      · exact .inl rfl
theorem chk_zero {k : Int} {n : Nat} (h : chk k n = 0) : 0 ≤ k ∧ k ≤ 3 ∧ n ≤ 64 ∧ (k ≠ 1 → n = 0) := by
  unfold chk at h
  split at h
  · cases h
  · split at h
    · cases h
    · split at h
      · cases h
      · omega

set_option maxHeartbeats 400000 in
set_option maxRecDepth 100000 in
theorem equal_any (v1 v2 : Value) (a b : List Nat) (w : World) (h1 : Reads w .u8 v1 a) (h2 : Reads w .u8 v2 b) (ha : ∀ x ∈ a, x < 256) (hb : ∀ x ∈ b, x < 256) :
    Calls Tryz.prog 70 #[v1, v2] w fun e w' => e = .returned (.bool (decide (a = b))) ∧ w = w' := by
  have c1 := conv_reads v1 a w h1
  have c2 := conv_reads v2 b w h2
  have hs := str_beq ha hb
  generalize strOfNums (a.map (fun n : Nat => (n : Int))) = sa at c1 hs
  generalize strOfNums (b.map (fun n : Nat => (n : Int))) = sb at c2 hs
  have HS := Lib.hid hs; clear hs
  go_enter Tryz.func70, Tryz.ntmps70
  go_wp2
  go_ret
  exact ⟨congrArg (fun b => Ending.returned (Value.bool b)) HS.out, rfl⟩

set_option maxHeartbeats 400000 in
set_option maxRecDepth 100000 in
theorem check_any (k : Int) (v : Value) (d : List Nat) (w : World) (hr : Reads w .u8 v d) :
    Calls Tryz.prog 36 #[.agg #[.int .i64 k, v]] w fun e w' => e = .returned (errV (chk k d.length)) ∧ Below w.heap.size w w' := by
  obtain ⟨ao, cap, rfl, _, _, _⟩ := hr.val
  have e1 : Value.iface 66 (.int .i64 1) = errV 1 := (errV_pos (by decide)).symm
  have e2 : Value.iface 66 (.int .i64 2) = errV 2 := (errV_pos (by decide)).symm
  have e3 : Value.iface 66 (.int .i64 3) = errV 3 := (errV_pos (by decide)).symm
  have e0 : Value.nilIface = errV 0 := errV_zero.symm
  have E0 := Lib.hid e0
  have E1 := Lib.hid e1
  have E2 := Lib.hid e2
  have E3 := Lib.hid e3
  clear e0 e1 e2 e3 hr
  generalize hn : d.length = n
  clear hn
  unfold chk
  by_cases h1 : k < 0
  · rw [if_pos (.inl h1), ← E1.out]
    go_enter Tryz.func36, Tryz.ntmps36
    go_wp2
    go_ret
    exact ⟨rfl, (Below.refl _ _).alloc (Nat.le_refl _) _⟩
  by_cases h2 : 3 < k
  · rw [if_pos (.inr h2), ← E1.out]
    go_enter Tryz.func36, Tryz.ntmps36
    go_wp2
    go_ret
    exact ⟨rfl, (Below.refl _ _).alloc (Nat.le_refl _) _⟩
  rw [if_neg (by omega)]
  by_cases h3 : (64 : Int) < (n : Int)
  · rw [if_pos (by omega), ← E3.out]
    go_enter Tryz.func36, Tryz.ntmps36
    go_wp2
    go_ret
    exact ⟨rfl, (Below.refl _ _).alloc (Nat.le_refl _) _⟩
  rw [if_neg (by omega)]
  by_cases h5 : (0 : Int) < (n : Int)
  · by_cases h4 : (k != 1) = true
    · have hk : k ≠ 1 := by simpa using h4
      rw [if_pos ⟨hk, by omega⟩, ← E2.out]
      go_enter Tryz.func36, Tryz.ntmps36
      go_wp2
      go_ret
      exact ⟨rfl, (Below.refl _ _).alloc (Nat.le_refl _) _⟩
    · have hk : k = 1 := by simpa using h4
      rw [if_neg (by omega), ← E0.out]
      subst hk
      go_enter Tryz.func36, Tryz.ntmps36
      go_wp2
      go_ret
      exact ⟨rfl, (Below.refl _ _).alloc (Nat.le_refl _) _⟩
  · rw [if_neg (by omega), ← E0.out]
    go_enter Tryz.func36, Tryz.ntmps36
    go_wp2
    go_ret
    exact ⟨rfl, (Below.refl _ _).alloc (Nat.le_refl _) _⟩

/-- Two boxes of cells, made one behind the other. -/
theorem two_boxes (w : World) (x y : Value) (k1 k2 : Int) :
    Below w.heap.size w ((w.alloc (.cells #[.int .i64 k1, x] 44)).alloc (.cells #[.int .i64 k2, y] 44)) ∧
    ((w.alloc (.cells #[.int .i64 k1, x] 44)).alloc (.cells #[.int .i64 k2, y] 44)).heap[w.heap.size]? = some (.cells #[.int .i64 k1, x] 44 (0, 0)) ∧
    ((w.alloc (.cells #[.int .i64 k1, x] 44)).alloc (.cells #[.int .i64 k2, y] 44)).heap[w.heap.size + 1]? = some (.cells #[.int .i64 k2, y] 44 (0, 0)) := by
  refine ⟨((Below.refl _ _).alloc (Nat.le_refl _) _).alloc (by simp) _, ?_, ?_⟩
  · rw [Below.heap_alloc _ _ _ (by simp)]; exact heap_alloc_new _ _
  · have := heap_alloc_new (w.alloc (.cells #[.int .i64 k1, x] 44)) (.cells #[.int .i64 k2, y] 44)
    simpa using this

end Go.Proofs.YtojndpelilolkaaGreat

namespace Go.Proofs.YtojndpelilolkaaGreat
open Go.RowKit

/-- The one that the other may become. -/
def laterC (k1 : Int) (d1 : List Nat) (k2 : Int) (d2 : List Nat) : Int × List Nat × Bool :=
  if mayC k1 d1 k2 d2 = true then (k2, d2, true) else if mayC k2 d2 k1 d1 = true then (k1, d1, true) else (0, [], false)

/-- What is owned stays so where a block that isn't its own is written. -/
theorem Owns.set2 {w : World} {base : Nat} {e : TypeId} {k : IntKind} {v : Value} {l : List Nat} (h : Owns w base e k v l) {p : Nat} (hp : ∀ j, v.ownBlock = some j → j ≠ p) (x y : Value) : Owns ((w.setCell ⟨p, 0, none⟩ x).setCell ⟨p, 1, none⟩ y) base e k v l :=
  h.grown (row := some p) ⟨rfl, rfl, rfl, by simp, fun j _ hj => by rw [heap_setCell_other _ _ _ _ (fun e => hj (by rw [e])), heap_setCell_other _ _ _ _ (fun e => hj (by rw [e]))]⟩ (by
    cases hv : v.ownBlock with
    | none => exact .inl rfl
    | some j => exact .inr fun he => hp j hv (Option.some.inj he))

/-- Three boxes of cells, made one behind the other. -/
theorem three_boxes (w : World) (x y z : Value) (k1 k2 k3 : Int) :
    Below w.heap.size w (((w.alloc (.cells #[.int .i64 k1, x] 44)).alloc (.cells #[.int .i64 k2, y] 44)).alloc (.cells #[.int .i64 k3, z] 44)) ∧
    (((w.alloc (.cells #[.int .i64 k1, x] 44)).alloc (.cells #[.int .i64 k2, y] 44)).alloc (.cells #[.int .i64 k3, z] 44)).heap[w.heap.size]? = some (.cells #[.int .i64 k1, x] 44 (0, 0)) ∧
    (((w.alloc (.cells #[.int .i64 k1, x] 44)).alloc (.cells #[.int .i64 k2, y] 44)).alloc (.cells #[.int .i64 k3, z] 44)).heap[w.heap.size + 1]? = some (.cells #[.int .i64 k2, y] 44 (0, 0)) ∧
    (((w.alloc (.cells #[.int .i64 k1, x] 44)).alloc (.cells #[.int .i64 k2, y] 44)).alloc (.cells #[.int .i64 k3, z] 44)).heap[w.heap.size + 1 + 1]? = some (.cells #[.int .i64 k3, z] 44 (0, 0)) := by
  obtain ⟨h1, h2, h3⟩ := two_boxes w x y k1 k2
  refine ⟨h1.alloc (by simp; omega) _, ?_, ?_, ?_⟩
  · rw [Below.heap_alloc _ _ _ (by simp; omega)]; exact h2
  · rw [Below.heap_alloc _ _ _ (by simp)]; exact h3
  · have := heap_alloc_new ((w.alloc (.cells #[.int .i64 k1, x] 44)).alloc (.cells #[.int .i64 k2, y] 44)) (.cells #[.int .i64 k3, z] 44)
    simpa using this

/-- What Later answers. -/
def LaterPost (k1 : Int) (d1 : List Nat) (k2 : Int) (d2 : List Nat) (w : World) (e : Ending) (w' : World) : Prop :=
  ∃ k d ok v', (k, d, ok) = laterC k1 d1 k2 d2 ∧ e = .returned (.tuple #[.agg #[.int .i64 k, v'], .bool ok]) ∧ Owns w' w.heap.size 5 .u8 v' d ∧ Below w.heap.size w w'

/-- A kind's word. -/
def wordB (kind : Int) : ByteArray := if kind = 0 then { data := #[101, 109, 112, 116, 121] } else if kind = 1 then { data := #[100, 97, 116, 97] } else if kind = 2 then { data := #[104, 111, 108, 101] } else if kind = 3 then { data := #[116, 114, 105, 109, 109, 101, 100] } else { data := #[] }

end Go.Proofs.YtojndpelilolkaaGreat

namespace Go.Proofs.YtojndpelilolkaaGreat
open Go.RowKit

/-- A cell as the program has it: its kind, whatever it is, and its bytes. -/
abbrev IC := Int × List Nat

/-- A slice of cells; the blocks of all that is told by B. -/
def CellsAt (w : World) (B : Nat → Prop) (v : Value) (cs : List IC) : Prop :=
  ∃ ao cap, v = .slice ao cs.length cap ∧ cs.length ≤ cap ∧ cap ≤ maxLen ∧ (ao = none → cap = 0) ∧
    (cs = [] ∨ ∃ b off, ao = some ⟨b, off, none⟩ ∧ b < w.heap.size ∧ B b ∧ ∀ i, i < cs.length → ∃ x, w.cell? ⟨b, off + i * 2, none⟩ = some (.int .i64 (cs.getD i (0, [])).1) ∧ w.cell? ⟨b, off + i * 2 + 1, none⟩ = some x ∧ At w B .u8 x (cs.getD i (0, [])).2)

theorem CellsAt.keep {w w' : World} {B : Nat → Prop} {v : Value} {cs : List IC} (h : CellsAt w B v cs) (hk : Kept B w w') : CellsAt w' B v cs := by
  obtain ⟨ao, cap, rfl, h1, h2, h3, h4⟩ := h
  refine ⟨ao, cap, rfl, h1, h2, h3, ?_⟩
  rcases h4 with h4 | ⟨b, off, rfl, hb, hB, hc⟩
  · exact .inl h4
  · refine .inr ⟨b, off, rfl, Nat.lt_of_lt_of_le hb hk.size, hB, fun i hi => ?_⟩
    obtain ⟨x, h5, h6, h7⟩ := hc i hi
    exact ⟨x, (World.cell?_of_block (hk.block b hb hB)).trans h5, (World.cell?_of_block (hk.block b hb hB)).trans h6, h7.keep hk⟩
theorem CellsAt.mono {w : World} {B C : Nat → Prop} {v : Value} {cs : List IC} (h : CellsAt w B v cs) (hc : ∀ j, j < w.heap.size → B j → C j) : CellsAt w C v cs := by
  obtain ⟨ao, cap, rfl, h1, h2, h3, h4⟩ := h
  refine ⟨ao, cap, rfl, h1, h2, h3, ?_⟩
  rcases h4 with h4 | ⟨b, off, rfl, hb, hB, hcc⟩
  · exact .inl h4
  · refine .inr ⟨b, off, rfl, hb, hc b hb hB, fun i hi => ?_⟩
    obtain ⟨x, h5, h6, h7⟩ := hcc i hi
    exact ⟨x, h5, h6, h7.mono hc⟩
theorem CellsAt.old {w w' : World} {B : Nat → Prop} {v : Value} {cs : List IC} (h : CellsAt w B v cs) (hb : Below w.heap.size w w') : CellsAt w' B v cs := h.keep (kept_new hb B)
theorem CellsAt.val {w : World} {B : Nat → Prop} {v : Value} {cs : List IC} (h : CellsAt w B v cs) : ∃ ao cap, v = .slice ao cs.length cap ∧ cs.length ≤ cap ∧ cap ≤ maxLen ∧ (ao = none → cap = 0) := by
  obtain ⟨ao, cap, hv, h2, h3, h4, _⟩ := h
  exact ⟨ao, cap, hv, h2, h3, h4⟩
theorem CellsAt.at {w : World} {B : Nat → Prop} {ao : Option Addr} {n cap : Nat} {cs : List IC} (h : CellsAt w B (.slice ao n cap) cs) {i : Nat} (hi : i < cs.length) :
    ∃ b off x, ao = some ⟨b, off, none⟩ ∧ b < w.heap.size ∧ B b ∧ w.cell? ⟨b, off + i * 2, none⟩ = some (.int .i64 (cs.getD i (0, [])).1) ∧ w.cell? ⟨b, off + i * 2 + 1, none⟩ = some x ∧ At w B .u8 x (cs.getD i (0, [])).2 := by
  obtain ⟨ao', cap', hv, _, _, _, h4⟩ := h
  simp only [Value.slice.injEq] at hv
  obtain ⟨rfl, _, _⟩ := hv
  rcases h4 with rfl | ⟨b, off, ha, hb, hB, hc⟩
  · simp at hi
  · obtain ⟨x, h5, h6, h7⟩ := hc i hi
    exact ⟨b, off, x, ha, hb, hB, h5, h6, h7⟩
theorem cells_nil (w : World) (B : Nat → Prop) : CellsAt w B (.slice none 0 0) [] := ⟨none, 0, rfl, by simp, by simp [maxLen], fun _ => rfl, .inl rfl⟩

/-- What is left behind the first m cells. -/
theorem CellsAt.tail {w : World} {B : Nat → Prop} {ao : Option Addr} {n cap : Nat} {cs : List IC} (h : CellsAt w B (.slice ao n cap) cs) {m : Nat} (hm : m ≤ cs.length) :
    CellsAt w B (.slice (if cap = m then ao else ao.map fun x => x.add (m * 2)) (n - m) (cap - m)) (cs.drop m) := by
  obtain ⟨ao', cap', hv, h1, h2, h3, h4⟩ := h
  simp only [Value.slice.injEq] at hv
  obtain ⟨rfl, rfl, rfl⟩ := hv
  refine ⟨_, _, by rw [List.length_drop], by rw [List.length_drop]; omega, by omega, fun hn => ?_, ?_⟩
  · split at hn
    · omega
    · have := h3 (by simpa using hn)
      omega
  · by_cases hc : cap = m
    · exact .inl (List.drop_eq_nil_of_le (by omega))
    · rw [if_neg hc]
      rcases h4 with rfl | ⟨b, off, rfl, hb, hB, hcell⟩
      · exact .inl (by simp)
      · refine .inr ⟨b, off + m * 2, by simp [Addr.add], hb, hB, fun i hi => ?_⟩
        rw [List.length_drop] at hi
        obtain ⟨x, h5, h6, h7⟩ := hcell (m + i) (by omega)
        have e : (cs.drop m).getD i (0, []) = cs.getD (m + i) (0, []) := by rw [List.getD_eq_getElem?_getD, List.getD_eq_getElem?_getD, List.getElem?_drop]
        rw [e]
        have e2 : off + m * 2 + i * 2 = off + (m + i) * 2 := by omega
        rw [e2]
        exact ⟨x, h5, h6, h7⟩

/-- Longer cells than are looked at. -/
def longB (cs : List IC) (most : Int) : Bool := cs.any (fun c => decide (100 < c.2.length)) || decide (most < (cs.length : Int))

theorem any_take {cs : List IC} {k : Nat} (h : k < cs.length) {f : IC → Bool} : (cs.take (k + 1)).any f = ((cs.take k).any f || f (cs.getD k (0, []))) := by
  have e : cs.getD k (0, []) = cs[k] := by simp [List.getD, List.getElem?_eq_getElem h]
  rw [List.take_add_one, List.getElem?_eq_getElem h, e, Option.toList_some, List.any_append]
  simp

end Go.Proofs.YtojndpelilolkaaGreat
