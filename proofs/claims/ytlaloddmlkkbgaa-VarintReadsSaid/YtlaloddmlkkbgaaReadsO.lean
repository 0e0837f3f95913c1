/- How the arguments of the statement on readers are opened: bytes, and a slice of acts. -/
import Derived.Test.YtlaloddmlkkbgaaReadsW
import Derived.ProofKit
import Derived.Deep.Strs
namespace Go.Proofs.Ytlaloddmlkkbgaa
open Go.RowKit Go.ChangeShapes Go.WideShapes Go.Deep

set_option maxRecDepth 100000 in
theorem acts_of_trod {H : Type} {enc : TypeId × Value → H} {W : World} {base : Nat} {spare : Nat → Bool} {held : Bool} {a : Option Addr} {len cap : Nat} {d : DataW H} {p : List MemPlace}
    (h : DataW.Trod enc Try.prog W base spare held 45 (.slice a len cap) d p) : ActsAt W W.heap.size a len := by
  obtain ⟨fuel, hf⟩ := h
  rcases open_slice Try.underlying45 hf with ⟨hcs, _⟩ | ⟨x, l, c, m, n, D, Pl, hcs, hb, hl, hm, hmm, _, hi⟩
  · simp [Value.cells] at hcs
    obtain ⟨rfl, rfl, rfl⟩ := hcs
    intro i hi
    omega
  · simp [Value.cells] at hcs
    obtain ⟨rfl, rfl, rfl⟩ := hcs
    intro i hil
    have hlm : len ≤ m := by rw [hmm]; split <;> omega
    obtain ⟨cs', hc, ht⟩ := hi i (by omega)
    have C3 : Try.prog.cellsOf 60 = 3 := by kernel_rfl
    rw [C3] at hc
    obtain ⟨_, hcl, hat⟩ := World.cells?_some hc
    obtain ⟨y0, y1, y2, k, _, _, h0, h1, h2⟩ := trod_struct3 Try.underlying60 ht
    have k1 : Try.prog.cellsOf 3 = 1 := by kernel_rfl
    have k2 : Try.prog.cellsOf 25 = 1 := by kernel_rfl
    match cs', hcl with
    | [c0, c1, c2], _ =>
      simp only [k1, k2, List.drop_succ_cons, List.drop_zero, List.take_succ_cons, List.take_zero] at h0 h1 h2
      obtain ⟨kind, e0, _, _⟩ := DataW.trod_int Try.underlying3 h0
      obtain ⟨nn, e1, _, w1⟩ := DataW.trod_int Try.underlying25 h1
      obtain ⟨most, e2, _, w2⟩ := DataW.trod_int Try.underlying3 h2
      simp only [List.cons.injEq, and_true] at e0 e1 e2
      subst e0 e1 e2
      have a0 := hat 0 (by omega)
      have a1 := hat 1 (by omega)
      have a2 := hat 2 (by omega)
      simp only [List.getElem?_cons_zero, List.getElem?_cons_succ] at a0 a1 a2
      rw [Go.Deep.add_add] at a0 a1 a2
      obtain ⟨b, off, spot⟩ := x
      obtain rfl : spot = none := by
        obtain ⟨cs0, hc0, _⟩ := hi 0 (by omega)
        rw [C3] at hc0
        obtain ⟨_, hcl0, hat0⟩ := World.cells?_some hc0
        have z0 := hat0 0 (by omega)
        match cs0, hcl0 with
        | [d0, d1, d2], _ =>
          simp only [List.getElem?_cons_zero, Nat.zero_mul] at z0
          rw [Go.Deep.add_add] at z0
          simpa [Addr.add] using World.cell?_spot z0
      rw [Addr.add_lit] at a0 a1 a2
      have hlt := World.block_lt_of_cell? W _ a0
      obtain ⟨N, rfl⟩ : ∃ N : Nat, nn = (N : Int) := ⟨nn.toNat, by have := wf_u64 w1; omega⟩
      have hw := wf_i64 w2
      exact ⟨b, off, kind, most, N, rfl, hlt, hw.1, hw.2, by simpa [Nat.add_assoc] using a0, by simpa [Nat.add_assoc] using a1, by simpa [Nat.add_assoc] using a2⟩

/-- Bytes that came in, as the row tells them. -/
theorem rdu_of_row {w : World} {a : Option Addr} {len cap : Nat} {zs : List Int}
    (h : (a = none ∧ len = 0 ∧ cap = 0 ∧ zs = []) ∨ ∃ x, a = some x ∧ len ≤ cap ∧ cap ≤ maxLen ∧ zs.length = cap ∧ (∀ i, i < zs.length → w.cell? (x.add i) = some (.int .u8 (zs.getD i 0))) ∧ ∀ n ∈ zs, (Lit.int .u8 n).wf = true) :
    ∃ l : List Nat, l.length = len ∧ RdU w w.heap.size (.slice a len cap) l ∧ ∀ y ∈ l, y < 256 := by
  obtain ⟨l, hl, hr, hw⟩ := reads_of_row h (fun n h => (wf_u8 h).1)
  refine ⟨l, hl, ⟨hr, _, _, _, rfl, ?_⟩, fun y hy => by have := wf_u8 (hw y hy); omega⟩
  by_cases hc : cap = 0
  · exact .inl hc
  · rcases h with ⟨_, _, h3, _⟩ | ⟨x, rfl, h1, h2, h3, h4, h5⟩
    · exact .inl h3
    · have c0 := h4 0 (by omega)
      obtain ⟨b, off, spot⟩ := x
      obtain rfl : spot = none := by simpa [Addr.add] using World.cell?_spot c0
      exact .inr ⟨b, off, rfl, World.block_lt_of_cell? w _ c0⟩

end Go.Proofs.Ytlaloddmlkkbgaa
