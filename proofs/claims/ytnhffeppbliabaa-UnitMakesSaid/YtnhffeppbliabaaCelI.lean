/- Slices of cells; the law's own Long. -/
import Derived.Test.YtnhffeppbliabaaCelH
namespace Go.Proofs.Ytnhffeppbliabaa
open Go.RowKit

/-- A cell as the program has it: its kind, whatever it is, and its bytes. -/
abbrev IC := Int × List Nat

/-- A slice of cells; the blocks of all that is told by B. -/
def CellsAt (w : World) (B : Nat → Prop) (v : Value) (cs : List IC) : Prop :=
  ∃ ao cap, v = .slice ao cs.length cap ∧ cs.length ≤ cap ∧ cap ≤ maxLen ∧ (ao = none → cap = 0) ∧
    (cs = [] ∨ ∃ b off, ao = some ⟨b, off, none⟩ ∧ b < w.heap.size ∧ B b ∧ ∀ i, i < cs.length → ∃ x, w.cell? ⟨b, off + i * 2, none⟩ = some (.int .i64 (cs.getD i (0, [])).1) ∧ w.cell? ⟨b, off + i * 2 + 1, none⟩ = some x ∧ At w B .u8 x (cs.getD i (0, [])).2)

theorem CellsAt.keep {w w' : World} {B : Nat → Prop} {v : Value} {cs : List IC} (h : CellsAt w B v cs) (hk : Kept B w w') : CellsAt w' B v cs := by
  obtain ⟨ao, cap, rfl, h1, h2, h3, h4⟩ := h
  refine ⟨ao, cap, rfl, h1, h2, h3, ?_⟩
  rcases h4 with h4 | ⟨b, off, rfl, hb, hB, hc⟩
  · exact .inl h4
  · refine .inr ⟨b, off, rfl, Nat.lt_of_lt_of_le hb hk.size, hB, fun i hi => ?_⟩
    obtain ⟨x, h5, h6, h7⟩ := hc i hi
    exact ⟨x, (World.cell?_of_block (hk.block b hb hB)).trans h5, (World.cell?_of_block (hk.block b hb hB)).trans h6, h7.keep hk⟩
theorem CellsAt.mono {w : World} {B C : Nat → Prop} {v : Value} {cs : List IC} (h : CellsAt w B v cs) (hc : ∀ j, j < w.heap.size → B j → C j) : CellsAt w C v cs := by
  obtain ⟨ao, cap, rfl, h1, h2, h3, h4⟩ := h
  refine ⟨ao, cap, rfl, h1, h2, h3, ?_⟩
  rcases h4 with h4 | ⟨b, off, rfl, hb, hB, hcc⟩
  · exact .inl h4
  · refine .inr ⟨b, off, rfl, hb, hc b hb hB, fun i hi => ?_⟩
    obtain ⟨x, h5, h6, h7⟩ := hcc i hi
    exact ⟨x, h5, h6, h7.mono hc⟩
theorem CellsAt.old {w w' : World} {B : Nat → Prop} {v : Value} {cs : List IC} (h : CellsAt w B v cs) (hb : Below w.heap.size w w') : CellsAt w' B v cs := h.keep (kept_new hb B)
theorem CellsAt.val {w : World} {B : Nat → Prop} {v : Value} {cs : List IC} (h : CellsAt w B v cs) : ∃ ao cap, v = .slice ao cs.length cap ∧ cs.length ≤ cap ∧ cap ≤ maxLen ∧ (ao = none → cap = 0) := by
  obtain ⟨ao, cap, hv, h2, h3, h4, _⟩ := h
  exact ⟨ao, cap, hv, h2, h3, h4⟩
theorem CellsAt.at {w : World} {B : Nat → Prop} {ao : Option Addr} {n cap : Nat} {cs : List IC} (h : CellsAt w B (.slice ao n cap) cs) {i : Nat} (hi : i < cs.length) :
    ∃ b off x, ao = some ⟨b, off, none⟩ ∧ b < w.heap.size ∧ B b ∧ w.cell? ⟨b, off + i * 2, none⟩ = some (.int .i64 (cs.getD i (0, [])).1) ∧ w.cell? ⟨b, off + i * 2 + 1, none⟩ = some x ∧ At w B .u8 x (cs.getD i (0, [])).2 := by
  obtain ⟨ao', cap', hv, _, _, _, h4⟩ := h
  simp only [Value.slice.injEq] at hv
  obtain ⟨rfl, _, _⟩ := hv
  rcases h4 with rfl | ⟨b, off, ha, hb, hB, hc⟩
  · simp at hi
  · obtain ⟨x, h5, h6, h7⟩ := hc i hi
    exact ⟨b, off, x, ha, hb, hB, h5, h6, h7⟩
theorem cells_nil (w : World) (B : Nat → Prop) : CellsAt w B (.slice none 0 0) [] := ⟨none, 0, rfl, by simp, by simp [maxLen], fun _ => rfl, .inl rfl⟩

/-- What is left behind the first m cells. -/
theorem CellsAt.tail {w : World} {B : Nat → Prop} {ao : Option Addr} {n cap : Nat} {cs : List IC} (h : CellsAt w B (.slice ao n cap) cs) {m : Nat} (hm : m ≤ cs.length) :
    CellsAt w B (.slice (if cap = m then ao else ao.map fun x => x.add (m * 2)) (n - m) (cap - m)) (cs.drop m) := by
  obtain ⟨ao', cap', hv, h1, h2, h3, h4⟩ := h
  simp only [Value.slice.injEq] at hv
  obtain ⟨rfl, rfl, rfl⟩ := hv
  refine ⟨_, _, by rw [List.length_drop], by rw [List.length_drop]; omega, by omega, fun hn => ?_, ?_⟩
  · split at hn
    · omega
    · have := h3 (by simpa using hn)
      omega
  · by_cases hc : cap = m
    · exact .inl (List.drop_eq_nil_of_le (by omega))
    · rw [if_neg hc]
      rcases h4 with rfl | ⟨b, off, rfl, hb, hB, hcell⟩
      · exact .inl (by simp)
      · refine .inr ⟨b, off + m * 2, by simp [Addr.add], hb, hB, fun i hi => ?_⟩
        rw [List.length_drop] at hi
        obtain ⟨x, h5, h6, h7⟩ := hcell (m + i) (by omega)
        have e : (cs.drop m).getD i (0, []) = cs.getD (m + i) (0, []) := by rw [List.getD_eq_getElem?_getD, List.getD_eq_getElem?_getD, List.getElem?_drop]
        rw [e]
        have e2 : off + m * 2 + i * 2 = off + (m + i) * 2 := by omega
        rw [e2]
        exact ⟨x, h5, h6, h7⟩

/-- Longer cells than are looked at. -/
def longB (cs : List IC) (most : Int) : Bool := cs.any (fun c => decide (100 < c.2.length)) || decide (most < (cs.length : Int))

theorem any_take {cs : List IC} {k : Nat} (h : k < cs.length) {f : IC → Bool} : (cs.take (k + 1)).any f = ((cs.take k).any f || f (cs.getD k (0, []))) := by
  have e : cs.getD k (0, []) = cs[k] := by simp [List.getD, List.getElem?_eq_getElem h]
  rw [List.take_add_one, List.getElem?_eq_getElem h, e, Option.toList_some, List.any_append]
  simp

end Go.Proofs.Ytnhffeppbliabaa
