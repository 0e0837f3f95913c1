/- A slice of bytes that came in: the opener of the shells. -/
import Derived.Test.YtpebmmhokigglaaDaP
import Derived.ProofKit
import Derived.OpenShut
import Derived.ChangeSlices
namespace Go.Proofs.Ytpebmmhokigglaa
open Go.RowKit Go.ChangeShapes Go.WideShapes

set_option maxRecDepth 100000 in
theorem bytes_of_trod {H : Type} {enc : TypeId × Value → H} {W : World} {base : Nat} {held : Bool} {a : Option Addr} {len cap : Nat} {d : DataW H} {p : List MemPlace}
    (h : DataW.Trod enc Try.prog W base (fun _ => true) held 22 (.slice a len cap) d p) :
    ∃ l : List Nat, l.length = len ∧ Reads W .u8 (.slice a len cap) l ∧ ∀ y ∈ l, y < 256 := by
  obtain ⟨fuel, hf⟩ := h
  rcases open_ints Try.underlying22 Try.underlying5 (by kernel_rfl) hf with ⟨hv, _⟩ | ⟨x2, l2, c2, zs, hv, _, hl2, hm2, hz, _, hcell, hwz⟩
  · simp [Value.cells] at hv
    obtain ⟨rfl, rfl, rfl⟩ := hv
    exact ⟨[], rfl, ⟨none, 0, rfl, by simp, by simp [maxLen], fun _ => rfl, .inl rfl⟩, by simp⟩
  · simp [Value.cells] at hv
    obtain ⟨rfl, rfl, rfl⟩ := hv
    obtain ⟨l3, hl3, hr3, hw3⟩ := reads_of_row (w := W) (k := .u8) (a := some x2) (len := len) (cap := cap) (zs := zs) (.inr ⟨x2, rfl, hl2, hm2, by simpa using hz, hcell, hwz⟩) (fun n h => (wf_u8 h).1)
    exact ⟨l3, hl3, hr3, fun y hy => by have := wf_u8 (hw3 y hy); omega⟩

end Go.Proofs.Ytpebmmhokigglaa
