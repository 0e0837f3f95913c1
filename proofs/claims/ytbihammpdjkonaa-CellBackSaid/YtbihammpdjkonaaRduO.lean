/- Bytes that came in, with the block that they lie in. -/
import Derived.Test.YtbihammpdjkonaaCelO
import Derived.Test.YtbihammpdjkonaaRrA
namespace Go.Proofs.Ytbihammpdjkonaa
open Go.RowKit Go.ChangeShapes Go.WideShapes Go.Deep

/-- Bytes that came in, as the row tells them. -/
theorem rduRow {w : World} {a : Option Addr} {len cap : Nat} {zs : List Int}
    (h : (a = none ∧ len = 0 ∧ cap = 0 ∧ zs = []) ∨ ∃ x, a = some x ∧ len ≤ cap ∧ cap ≤ maxLen ∧ zs.length = cap ∧ (∀ i, i < zs.length → w.cell? (x.add i) = some (.int .u8 (zs.getD i 0))) ∧ ∀ n ∈ zs, (Lit.int .u8 n).wf = true) :
    ∃ l : List Nat, l.length = len ∧ RdU w w.heap.size (.slice a len cap) l ∧ ∀ y ∈ l, y < 256 := by
  obtain ⟨l, hl, hr, hw⟩ := reads_of_row h (fun n h => (wf_u8 h).1)
  refine ⟨l, hl, ⟨hr, _, _, _, rfl, ?_⟩, fun y hy => by have := wf_u8 (hw y hy); omega⟩
  by_cases hc : cap = 0
  · exact .inl hc
  · rcases h with ⟨_, _, h3, _⟩ | ⟨x, rfl, h1, h2, h3, h4, h5⟩
    · exact .inl h3
    · have c0 := h4 0 (by omega)
      obtain ⟨b, off, spot⟩ := x
      obtain rfl : spot = none := by simpa [Addr.add] using World.cell?_spot c0
      exact .inr ⟨b, off, rfl, World.block_lt_of_cell? w _ c0⟩

set_option maxRecDepth 100000 in
theorem rdu_of_trod {H : Type} {enc : TypeId × Value → H} {W : World} {base : Nat} {held : Bool} {a : Option Addr} {len cap : Nat} {d : DataW H} {p : List MemPlace}
    (h : DataW.Trod enc Try.prog W base (fun _ => true) held 22 (.slice a len cap) d p) :
    ∃ l : List Nat, l.length = len ∧ RdU W W.heap.size (.slice a len cap) l ∧ ∀ y ∈ l, y < 256 := by
  obtain ⟨fuel, hf⟩ := h
  rcases open_ints Try.underlying22 Try.underlying5 (by kernel_rfl) hf with ⟨hv, _⟩ | ⟨x2, l2, c2, zs, hv, _, hl2, hm2, hz, _, hcell, hwz⟩
  · simp [Value.cells] at hv
    obtain ⟨rfl, rfl, rfl⟩ := hv
    exact rduRow (zs := []) (.inl ⟨rfl, rfl, rfl, rfl⟩)
  · simp [Value.cells] at hv
    obtain ⟨rfl, rfl, rfl⟩ := hv
    exact rduRow (w := W) (zs := zs) (.inr ⟨x2, rfl, hl2, hm2, by simpa using hz, hcell, hwz⟩)

end Go.Proofs.Ytbihammpdjkonaa
