/- How cells that came in are opened: one cell, and a slice of them. -/
import Derived.Test.YtiaijpknnomlnaaGreatCgP
import Derived.ProofKit
import Derived.Deep.Slices
import Derived.ChangeSame
namespace Go.Proofs.YtiaijpknnomlnaaGreat
open Go.RowKit Go.ChangeShapes Go.WideShapes Go.Deep

theorem pick_cells {R : Nat → IC → Prop} (n : Nat) (h : ∀ i, i < n → ∃ l, R i l) : ∃ ls : List IC, ls.length = n ∧ ∀ i, i < n → R i (ls.getD i (0, [])) := by
  induction n with
  | zero => exact ⟨[], rfl, by omega⟩
  | succ n ih =>
    obtain ⟨ls, hl, hr⟩ := ih fun i hi => h i (by omega)
    obtain ⟨l, hlr⟩ := h n (by omega)
    refine ⟨ls ++ [l], by simp [hl], fun i hi => ?_⟩
    by_cases hin : i < n
    · rw [List.getD_eq_getElem?_getD, List.getElem?_append_left (by omega), ← List.getD_eq_getElem?_getD]
      exact hr i hin
    · obtain rfl : i = n := by omega
      rw [List.getD_eq_getElem?_getD, List.getElem?_append_right (by omega), hl]
      simpa using hlr

set_option maxRecDepth 100000 in
/-- The cells of a cell. -/
theorem cell_of {H : Type} {enc : TypeId × Value → H} {W : World} {base : Nat} {held : Bool} {fuel : Nat} {cs : List Value} {x : DataW H × List MemPlace}
    (h : DataW.trod enc Tryz.prog W base (fun _ => true) held fuel 99 cs = some x) : ∃ k v l, cs = [.int .i64 k, v] ∧ Reads W .u8 v l ∧ ∀ y ∈ l, y < 256 := by
  obtain ⟨y0, y1, n, _, hcl, h0, h1⟩ := trod_struct2 Tryz.underlying99 h
  have C2 : Tryz.prog.cellsOf 99 = 2 := by kernel_rfl
  have k1 : Tryz.prog.cellsOf 3 = 1 := by kernel_rfl
  have k2 : Tryz.prog.cellsOf 22 = 1 := by kernel_rfl
  rw [C2] at hcl
  match cs, hcl with
  | [c0, c1], _ =>
    simp only [k1, k2, List.drop_succ_cons, List.drop_zero, List.take_succ_cons, List.take_zero] at h0 h1
    obtain ⟨kind, e0, _, _⟩ := DataW.trod_int Tryz.underlying3 h0
    simp only [List.cons.injEq, and_true] at e0
    subst e0
    rcases open_ints Tryz.underlying22 Tryz.underlying5 (by kernel_rfl) h1 with ⟨hv, _⟩ | ⟨x2, l2, c2, zs, hv, _, hl2, hm2, hz, _, hcell, hwz⟩
    · rw [List.singleton_inj] at hv
      subst hv
      exact ⟨kind, _, [], rfl, ⟨none, 0, rfl, by simp, by simp [maxLen], fun _ => rfl, .inl rfl⟩, by simp⟩
    · rw [List.singleton_inj] at hv
      subst hv
      obtain ⟨l3, hl3, hr3, hw3⟩ := reads_of_row (w := W) (k := .u8) (a := some x2) (len := l2) (cap := c2) (zs := zs) (.inr ⟨x2, rfl, hl2, hm2, by simpa using hz, hcell, hwz⟩) (fun n h => (wf_u8 h).1)
      exact ⟨kind, _, l3, rfl, hr3, fun y hy => by have := wf_u8 (hw3 y hy); omega⟩

theorem cell_of_trod {H : Type} {enc : TypeId × Value → H} {W : World} {base : Nat} {held : Bool} {cs : Array Value} {d : DataW H} {p : List MemPlace}
    (h : DataW.Trod enc Tryz.prog W base (fun _ => true) held 99 (.agg cs) d p) : ∃ k v l, cs = #[.int .i64 k, v] ∧ Reads W .u8 v l ∧ ∀ y ∈ l, y < 256 := by
  obtain ⟨fuel, hf⟩ := h
  obtain ⟨k, v, l, hc, hr, hb⟩ := cell_of hf
  exact ⟨k, v, l, Array.toList_inj.1 hc, hr, hb⟩

set_option maxRecDepth 100000 in
theorem bytes_of_trod {H : Type} {enc : TypeId × Value → H} {W : World} {base : Nat} {held : Bool} {a : Option Addr} {len cap : Nat} {d : DataW H} {p : List MemPlace}
    (h : DataW.Trod enc Tryz.prog W base (fun _ => true) held 22 (.slice a len cap) d p) :
    ∃ l : List Nat, l.length = len ∧ Reads W .u8 (.slice a len cap) l ∧ ∀ y ∈ l, y < 256 := by
  obtain ⟨fuel, hf⟩ := h
  rcases open_ints Tryz.underlying22 Tryz.underlying5 (by kernel_rfl) hf with ⟨hv, _⟩ | ⟨x2, l2, c2, zs, hv, _, hl2, hm2, hz, _, hcell, hwz⟩
  · simp [Value.cells] at hv
    obtain ⟨rfl, rfl, rfl⟩ := hv
    exact ⟨[], rfl, ⟨none, 0, rfl, by simp, by simp [maxLen], fun _ => rfl, .inl rfl⟩, by simp⟩
  · simp [Value.cells] at hv
    obtain ⟨rfl, rfl, rfl⟩ := hv
    obtain ⟨l3, hl3, hr3, hw3⟩ := reads_of_row (w := W) (k := .u8) (a := some x2) (len := len) (cap := cap) (zs := zs) (.inr ⟨x2, rfl, hl2, hm2, by simpa using hz, hcell, hwz⟩) (fun n h => (wf_u8 h).1)
    exact ⟨l3, hl3, hr3, fun y hy => by have := wf_u8 (hw3 y hy); omega⟩

end Go.Proofs.YtiaijpknnomlnaaGreat
