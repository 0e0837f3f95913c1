/- Rows of numbers that may be below zero, and rows of such rows, in memory; how they come in. -/
import Derived.Test.YteknibaappcgmaaGreatDoorDaP
import Derived.Test.YteknibaappcgmaaGreatDoorPjN
import Derived.ProofKit
import Derived.Deep.Slices
import Derived.ChangeSame
namespace Go.Proofs.YteknibaappcgmaaGreatDoor
open Go.RowKit Go.ChangeShapes Go.WideShapes Go.Deep

theorem Tryz.infoI : (Tryz.prog.info? 3).map (fun i => (i.zero, i.size, i.bytes)) = some (some (.int .i64 0), 1, 8) := by kernel_rfl
theorem Tryz.infoII : (Tryz.prog.info? 57).map (fun i => (i.zero, i.size, i.bytes)) = some (some (.slice none 0 0), 1, 24) := by kernel_rfl

/-- Numbers as cells. -/
def iv (l : List Int) : List Value := l.map (Value.int .i64)
theorem iv_length (l : List Int) : (iv l).length = l.length := by simp [iv]
theorem iv_append (l m : List Int) : iv (l ++ m) = iv l ++ iv m := by simp [iv]
theorem iv_take (l : List Int) (n : Nat) : (iv l).take n = iv (l.take n) := by simp [iv, List.map_take]
theorem iv_get (l : List Int) (i : Nat) (h : i < l.length) : (iv l)[i]? = some (.int .i64 (l.getD i 0)) := by
  simp [iv, List.getElem?_eq_getElem h, List.getD]
theorem iv_one (l : List Int) : ∀ u ∈ iv l, u.oneCell' = true := by
  intro u hu
  obtain ⟨_, _, rfl⟩ := List.mem_map.1 hu
  rfl

/-- The slice value v reads as the numbers l, in a block of which B holds. -/
def IRow (w : World) (B : Nat → Prop) (v : Value) (l : List Int) : Prop := RowV w B v (iv l)
theorem IRow.keep {w w' : World} {B : Nat → Prop} {v : Value} {l : List Int} (h : IRow w B v l) (hk : Kept B w w') : IRow w' B v l := RowV.keep h hk
theorem IRow.mono {w : World} {B C : Nat → Prop} {v : Value} {l : List Int} (h : IRow w B v l) (hc : ∀ j, j < w.heap.size → B j → C j) : IRow w C v l := RowV.mono h hc
theorem IRow.old {w w' : World} {B : Nat → Prop} {v : Value} {l : List Int} (h : IRow w B v l) (hb : Below w.heap.size w w') : IRow w' B v l := h.keep (kept_new hb B)
theorem IRow.val {w : World} {B : Nat → Prop} {v : Value} {l : List Int} (h : IRow w B v l) : ∃ ao cap, v = .slice ao l.length cap ∧ l.length ≤ cap ∧ cap ≤ maxLen ∧ (ao = none → cap = 0) := by
  obtain ⟨ao, cap, hv, h2, h3, h4, _⟩ := h
  rw [iv_length] at hv h2
  exact ⟨ao, cap, hv, h2, h3, h4⟩
theorem IRow.at {w : World} {B : Nat → Prop} {ao : Option Addr} {n cap : Nat} {l : List Int} (h : IRow w B (.slice ao n cap) l) {i : Nat} (hi : i < l.length) :
    ∃ b off, ao = some ⟨b, off, none⟩ ∧ b < w.heap.size ∧ B b ∧ ∀ j, j < l.length → w.cell? ⟨b, off + j, none⟩ = some (.int .i64 (l.getD j 0)) := by
  obtain ⟨b, off, ha, hb, hB, hc⟩ := RowV.at h (i := i) (by rw [iv_length]; exact hi)
  exact ⟨b, off, ha, hb, hB, fun j hj => (hc j (by rw [iv_length]; exact hj)).trans (iv_get l j hj)⟩
theorem irow_nil (w : World) (B : Nat → Prop) (ao : Option Addr) : IRow w B (.slice ao 0 0) [] := ⟨ao, 0, rfl, by simp [iv], by simp [maxLen], fun _ => rfl, .inl rfl⟩
theorem IRow.all {w : World} {B : Nat → Prop} {v : Value} {l : List Int} (h : IRow w B v l) : IRow w (fun j => j < w.heap.size ∧ B j) v l := by
  obtain ⟨ao, cap, hv, h2, h3, h4, h5⟩ := h
  refine ⟨ao, cap, hv, h2, h3, h4, ?_⟩
  rcases h5 with h5 | ⟨b, off, ha, hb, hB, hc⟩
  · exact .inl h5
  · exact .inr ⟨b, off, ha, hb, ⟨hb, hB⟩, hc⟩
theorem IRow.one {w : World} {B : Nat → Prop} {v : Value} {l : List Int} (h : IRow w B v l) : v.oneCell' = true := by
  obtain ⟨ao, cap, rfl, _⟩ := h
  rfl

/-- The call's own row of numbers. -/
def IOwn (w : World) (base : Nat) (v : Value) (l : List Int) : Prop := w.ownsRow base 3 1 v l.length (iv l)
theorem IOwn.row {w : World} {base : Nat} {v : Value} {l : List Int} (h : IOwn w base v l) : IRow w (Own w base 3) v l := by
  have h2 : w.ownsRow base 3 1 v (iv l).length (iv l) := by rw [iv_length]; exact h
  exact owned_row h2
theorem IOwn.mono {w : World} {base base' : Nat} {v : Value} {l : List Int} (h : IOwn w base v l) (hb : base' ≤ base) : IOwn w base' v l := by
  refine ⟨h.1, ?_⟩
  rcases h.2 with h2 | ⟨g, cap, cur, h1, h2, r⟩
  · exact .inl h2
  · exact .inr ⟨g, cap, cur, h1, Nat.le_trans hb h2, r⟩
theorem IOwn.grown {w w' : World} {base : Nat} {v : Value} {l : List Int} {row : Option Nat} (h : IOwn w base v l) (hg : w.grownBy w' row) (hne : v.ownBlock = none ∨ v.ownBlock ≠ row) : IOwn w' base v l := World.ownsRow.kept h hg hne
theorem IOwn.below {w w' : World} {B base : Nat} {v : Value} {l : List Int} (h : IOwn w base v l) (hb : Below B w w') (hB : w.heap.size ≤ B) : IOwn w' base v l := by
  refine ⟨h.1, ?_⟩
  rcases h.2 with h2 | ⟨g, cap, cur, h1, h2, h3, r⟩
  · exact .inl h2
  · exact .inr ⟨g, cap, cur, h1, h2, by rw [hb.block g (Nat.lt_of_lt_of_le (Array.getElem?_eq_some_iff.1 h3).1 hB)]; exact h3, r⟩
theorem IOwn.lt {w : World} {base : Nat} {v : Value} {l : List Int} (h : IOwn w base v l) : ∀ j, v.ownBlock = some j → base ≤ j ∧ j < w.heap.size := World.ownsRow.lt h

/-- A slice of slices that each read as numbers, in blocks of which B holds. -/
def Chs (w : World) (B : Nat → Prop) (v : Value) (cs : List (List Int)) : Prop :=
  ∃ us : List Value, us.length = cs.length ∧ RowV w B v us ∧ (∀ u ∈ us, u.oneCell' = true) ∧ ∀ i, i < cs.length → IRow w B (us.getD i .nilIface) (cs.getD i [])
theorem Chs.keep {w w' : World} {B : Nat → Prop} {v : Value} {cs : List (List Int)} (h : Chs w B v cs) (hk : Kept B w w') : Chs w' B v cs := by
  obtain ⟨us, h1, h2, h3, h4⟩ := h
  exact ⟨us, h1, h2.keep hk, h3, fun i hi => (h4 i hi).keep hk⟩
theorem Chs.mono {w : World} {B C : Nat → Prop} {v : Value} {cs : List (List Int)} (h : Chs w B v cs) (hc : ∀ j, j < w.heap.size → B j → C j) : Chs w C v cs := by
  obtain ⟨us, h1, h2, h3, h4⟩ := h
  exact ⟨us, h1, h2.mono hc, h3, fun i hi => (h4 i hi).mono hc⟩
theorem Chs.old {w w' : World} {B : Nat → Prop} {v : Value} {cs : List (List Int)} (h : Chs w B v cs) (hb : Below w.heap.size w w') : Chs w' B v cs := h.keep (kept_new hb B)
theorem Chs.val {w : World} {B : Nat → Prop} {v : Value} {cs : List (List Int)} (h : Chs w B v cs) : ∃ ao cap, v = .slice ao cs.length cap ∧ cs.length ≤ cap ∧ cap ≤ maxLen ∧ (ao = none → cap = 0) := by
  obtain ⟨us, h1, ⟨ao, cap, hv, h2, h3, h4, _⟩, _, _⟩ := h
  exact ⟨ao, cap, by rw [hv, h1], by omega, h3, h4⟩
theorem Chs.at {w : World} {B : Nat → Prop} {ao : Option Addr} {n cap : Nat} {cs : List (List Int)} (h : Chs w B (.slice ao n cap) cs) {i : Nat} (hi : i < cs.length) :
    ∃ b off x, ao = some ⟨b, off, none⟩ ∧ b < w.heap.size ∧ B b ∧ w.cell? ⟨b, off + i, none⟩ = some x ∧ IRow w B x (cs.getD i []) := by
  obtain ⟨us, h1, h2, _, h4⟩ := h
  obtain ⟨b, off, ha, hb, hB, hc⟩ := h2.at (i := i) (by omega)
  refine ⟨b, off, us.getD i .nilIface, ha, hb, hB, ?_, h4 i hi⟩
  rw [hc i (by omega), List.getD_eq_getElem?_getD, List.getElem?_eq_getElem (by omega)]
  rfl
theorem chs_nil (w : World) (B : Nat → Prop) : Chs w B (.slice none 0 0) [] := ⟨[], rfl, ⟨none, 0, rfl, by simp, by simp [maxLen], fun _ => rfl, .inl rfl⟩, by simp, by simp⟩

theorem chains_take {cs : List (List Int)} (k : Nat) (h : k < cs.length) : cs.take (k + 1) = cs.take k ++ [cs.getD k []] := by
  rw [List.take_add_one, List.getElem?_eq_getElem h]; simp [List.getD, List.getElem?_eq_getElem h]
theorem ints_take {l : List Int} (k : Nat) (h : k < l.length) : l.take (k + 1) = l.take k ++ [l.getD k 0] := by
  rw [List.take_add_one, List.getElem?_eq_getElem h]; simp [List.getD, List.getElem?_eq_getElem h]
theorem getD_memI {l : List Int} (k : Nat) (h : k < l.length) : l.getD k 0 ∈ l := by
  rw [List.getD_eq_getElem?_getD, List.getElem?_eq_getElem h]; exact List.getElem_mem h
theorem getD_memC {l : List (List Int)} (k : Nat) (h : k < l.length) : l.getD k [] ∈ l := by
  rw [List.getD_eq_getElem?_getD, List.getElem?_eq_getElem h]; exact List.getElem_mem h

/-- A row of numbers that came in. -/
theorem irow_of {w : World} {a : Option Addr} {len cap : Nat} {zs : List Int}
    (h : (a = none ∧ len = 0 ∧ cap = 0 ∧ zs = []) ∨ ∃ x, a = some x ∧ len ≤ cap ∧ cap ≤ maxLen ∧ zs.length = cap ∧ (∀ i, i < zs.length → w.cell? (x.add i) = some (.int .i64 (zs.getD i 0)))) :
    ∃ l : List Int, l.length = len ∧ IRow w (fun j => j < w.heap.size) (.slice a len cap) l ∧ ∀ x ∈ l, x ∈ zs := by
  rcases h with ⟨rfl, rfl, rfl, rfl⟩ | ⟨x, rfl, h1, h2, h3, h4⟩
  · exact ⟨[], rfl, irow_nil _ _ _, fun _ h => h⟩
  · have hl : (zs.take len).length = len := by simp; omega
    refine ⟨zs.take len, hl, ⟨some x, cap, by rw [iv_length, hl], by rw [iv_length, hl]; exact h1, h2, by simp, ?_⟩, fun y hy => List.mem_of_mem_take hy⟩
    by_cases h0 : len = 0
    · left; subst h0; rfl
    · right
      have c0 := h4 0 (by omega)
      obtain ⟨b, off, spot⟩ := x
      obtain rfl : spot = none := by simpa [Addr.add] using World.cell?_spot c0
      refine ⟨b, off, rfl, World.block_lt_of_cell? w _ c0, World.block_lt_of_cell? w _ c0, fun i hi => ?_⟩
      rw [iv_length, hl] at hi
      have ci := h4 i (by omega)
      rw [Addr.add_lit] at ci
      rw [ci, iv_get _ _ (by omega)]
      simp [List.getD, hi]

theorem pick_chains {R : Nat → List Int → Prop} (n : Nat) (h : ∀ i, i < n → ∃ l, R i l) : ∃ ls : List (List Int), ls.length = n ∧ ∀ i, i < n → R i (ls.getD i []) := by
  induction n with
  | zero => exact ⟨[], rfl, by omega⟩
  | succ n ih =>
    obtain ⟨ls, hl, hr⟩ := ih fun i hi => h i (by omega)
    obtain ⟨l, hlr⟩ := h n (by omega)
    refine ⟨ls ++ [l], by simp [hl], fun i hi => ?_⟩
    by_cases hin : i < n
    · rw [List.getD_eq_getElem?_getD, List.getElem?_append_left (by omega), ← List.getD_eq_getElem?_getD]
      exact hr i hin
    · obtain rfl : i = n := by omega
      rw [List.getD_eq_getElem?_getD, List.getElem?_append_right (by omega), hl]
      simpa using hlr

/-- A number that a variable may hold. -/
def Int64 (n : Int) : Prop := -9223372036854775808 ≤ n ∧ n ≤ 9223372036854775807

theorem ints_of_trod {H : Type} {enc : TypeId × Value → H} {W : World} {base : Nat} {held : Bool} {v : Value} {fuel : Nat} {x : DataW H × List MemPlace}
    (h : DataW.trod enc Tryz.prog W base (fun _ => true) held fuel 57 [v] = some x) : ∃ l, IRow W (fun j => j < W.heap.size) v l ∧ ∀ n ∈ l, Int64 n := by
  rcases open_ints Tryz.underlying57 Tryz.underlying3 (by kernel_rfl) h with ⟨hv, _⟩ | ⟨x2, l2, c2, zs, hv, _, hl2, hm2, hz, _, hcell, hwz⟩
  · rw [List.singleton_inj] at hv
    rw [hv]
    exact ⟨[], irow_nil _ _ _, by simp⟩
  · rw [List.singleton_inj] at hv
    rw [hv]
    obtain ⟨l3, _, hr3, hm3⟩ := irow_of (w := W) (a := some x2) (len := l2) (cap := c2) (zs := zs) (.inr ⟨x2, rfl, hl2, hm2, by simpa using hz, hcell⟩)
    exact ⟨l3, hr3, fun y hy => wf_i64 (hwz y (hm3 y hy))⟩
theorem intsD_of_trod {H : Type} {enc : TypeId × Value → H} {W : World} {base : Nat} {held : Bool} {v : Value} {d : DataW H} {p : List MemPlace}
    (h : DataW.Trod enc Tryz.prog W base (fun _ => true) held 57 v d p) (hv : v.cells.toList = [v]) : ∃ l, IRow W (fun j => j < W.heap.size) v l ∧ ∀ n ∈ l, Int64 n := by
  obtain ⟨fuel, hf⟩ := h
  rw [hv] at hf
  exact ints_of_trod hf

end Go.Proofs.YteknibaappcgmaaGreatDoor
