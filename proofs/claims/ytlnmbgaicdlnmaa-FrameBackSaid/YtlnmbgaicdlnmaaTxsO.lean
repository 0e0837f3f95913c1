/- How texts that came in are opened: a slice of slices of bytes. -/
import Derived.Test.YtlnmbgaicdlnmaaAtA
import Derived.Test.YtlnmbgaicdlnmaaByteA
import Derived.ProofKit
import Derived.Deep.Slices
namespace Go.Proofs.Ytlnmbgaicdlnmaa
open Go.RowKit Go.ChangeShapes Go.WideShapes Go.Deep

theorem pick_lists {R : Nat → List Nat → Prop} (n : Nat) (h : ∀ i, i < n → ∃ l, R i l) : ∃ ls : List (List Nat), ls.length = n ∧ ∀ i, i < n → R i (ls.getD i []) := by
  induction n with
  | zero => exact ⟨[], rfl, by omega⟩
  | succ n ih =>
    obtain ⟨ls, hl, hr⟩ := ih fun i hi => h i (by omega)
    obtain ⟨l, hlr⟩ := h n (by omega)
    refine ⟨ls ++ [l], by simp [hl], fun i hi => ?_⟩
    by_cases hin : i < n
    · rw [List.getD_eq_getElem?_getD, List.getElem?_append_left (by omega), ← List.getD_eq_getElem?_getD]
      exact hr i hin
    · obtain rfl : i = n := by omega
      rw [List.getD_eq_getElem?_getD, List.getElem?_append_right (by omega), hl]
      simpa using hlr

set_option maxRecDepth 100000 in
theorem txs_of_trod {H : Type} {enc : TypeId × Value → H} {W : World} {base : Nat} {held : Bool} {a : Option Addr} {len cap : Nat} {d : DataW H} {p : List MemPlace}
    (h : DataW.Trod enc Try.prog W base (fun _ => true) held 40 (.slice a len cap) d p) :
    ∃ ls : List (List Nat), ls.length = len ∧ Txs W (fun _ => True) (.slice a len cap) ls ∧ ∀ t ∈ ls, ∀ y ∈ t, y < 256 := by
  obtain ⟨fuel, hf⟩ := h
  rcases open_slice1 Try.underlying40 (by kernel_rfl) hf with ⟨hcs, _⟩ | ⟨x, l, c, m, n, V, D, Pl, hcs, hb, hl, hm, hmm, _, hi⟩
  · simp [Value.cells] at hcs
    obtain ⟨rfl, rfl, rfl⟩ := hcs
    exact ⟨[], rfl, txs_nil _ _, by simp⟩
  · simp [Value.cells] at hcs
    obtain ⟨rfl, rfl, rfl⟩ := hcs
    simp only [if_true] at hmm
    subst hmm
    have each : ∀ i, i < len → ∃ l, Reads W .u8 (V i) l ∧ ∀ y ∈ l, y < 256 := by
      intro i hil
      obtain ⟨hc, ht⟩ := hi i (by omega)
      rcases open_ints Try.underlying22 Try.underlying5 (by kernel_rfl) ht with ⟨hv, _⟩ | ⟨x2, l2, c2, zs, hv, _, hl2, hm2, hz, _, hcell, hwz⟩
      · rw [List.singleton_inj] at hv
        rw [hv]
        exact ⟨[], ⟨none, 0, rfl, by simp, by simp [maxLen], fun _ => rfl, .inl rfl⟩, by simp⟩
      · rw [List.singleton_inj] at hv
        rw [hv]
        obtain ⟨l3, hl3, hr3, hw3⟩ := reads_of_row (w := W) (k := .u8) (a := some x2) (len := l2) (cap := c2) (zs := zs) (.inr ⟨x2, rfl, hl2, hm2, by simpa using hz, hcell, hwz⟩) (fun n h => (wf_u8 h).1)
        exact ⟨l3, hr3, fun y hy => by have := wf_u8 (hw3 y hy); omega⟩
    obtain ⟨ls, hlen, hls⟩ := pick_lists len each
    refine ⟨ls, hlen, ⟨(List.range len).map V, by simp [hlen], ⟨some x, m, by simp, by simpa using hl, hm, by simp, ?_⟩, ?_, ?_⟩, ?_⟩
    · by_cases h0 : len = 0
      · subst h0; exact .inl rfl
      · right
        have c0 := (hi 0 (by omega)).1
        obtain ⟨b, off, spot⟩ := x
        obtain rfl : spot = none := by simpa [Addr.add] using World.cell?_spot c0
        refine ⟨b, off, rfl, World.block_lt_of_cell? W _ c0, trivial, fun i hil => ?_⟩
        have hil2 : i < len := by simpa using hil
        have ci := (hi i (by omega)).1
        rw [Addr.add_lit] at ci
        rw [ci]
        simp [hil2]
    · intro u hu
      obtain ⟨i, hir, rfl⟩ := List.mem_map.1 hu
      have hil : i < len := List.mem_range.1 hir
      exact (((hls i hil).1.at').mono (C := fun _ => True) fun _ _ _ => trivial).oneCell
    · intro i hil
      rw [hlen] at hil
      have e : ((List.range len).map V).getD i .nilIface = V i := by simp [List.getD, hil]
      rw [e]
      exact ((hls i hil).1.at').mono fun _ _ _ => trivial
    · intro t ht y hy
      obtain ⟨i, hil, rfl⟩ := List.getElem_of_mem ht
      have := (hls i (by omega)).2
      rw [List.getD_eq_getElem?_getD, List.getElem?_eq_getElem hil] at this
      exact this y hy

end Go.Proofs.Ytlnmbgaicdlnmaa
