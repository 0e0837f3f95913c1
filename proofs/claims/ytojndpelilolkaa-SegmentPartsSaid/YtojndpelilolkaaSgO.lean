/- Segments that came in: the openers of the shells. -/
import Derived.Test.YtojndpelilolkaaUfP
import Derived.Test.YtojndpelilolkaaSgA
namespace Go.Proofs.Ytojndpelilolkaa
open Go.RowKit Go.ChangeShapes Go.WideShapes Go.Deep

set_option maxRecDepth 100000 in
theorem cellsC_of_trod {H : Type} {enc : TypeId × Value → H} {W : World} {base fuel : Nat} {held : Bool} {c1 : Value} {x : DataW H × List MemPlace}
    (hf : DataW.trod enc Try.prog W base (fun _ => true) held fuel 22 [c1] = some x) :
    ∃ cs : List IC, CellsAt W (fun _ => True) c1 cs ∧ (∀ c ∈ cs, ∀ y ∈ c.2, y < 256) ∧ cs.length ≤ 9223372036854775807 := by
  rcases open_slice Try.underlying22 hf with ⟨hcs, _⟩ | ⟨x, l, c, m, n, D, Pl, hcs, hb, hl, hm, hmm, _, hi⟩
  · rw [List.singleton_inj] at hcs
    subst hcs
    exact ⟨[], cells_nil _ _, by simp, by simp⟩
  · rw [List.singleton_inj] at hcs
    subst hcs
    simp only [if_true] at hmm
    subst hmm
    have C2 : Try.prog.cellsOf 41 = 2 := by kernel_rfl
    rw [C2] at hi
    have each : ∀ i, i < l → ∃ c : IC, ∃ v, W.cell? (x.add (i * 2)) = some (.int .i64 c.1) ∧ W.cell? ((x.add (i * 2)).add 1) = some v ∧ Reads W .u8 v c.2 ∧ ∀ y ∈ c.2, y < 256 := by
      intro i hil
      obtain ⟨cs', hc, ht⟩ := hi i (by omega)
      obtain ⟨k, v, l, rfl, hr, h8⟩ := cell_of ht
      obtain ⟨_, _, hat⟩ := World.cells?_some hc
      have a0 := hat 0 (by decide)
      have a1 := hat 1 (by decide)
      simp only [List.getElem?_cons_zero, List.getElem?_cons_succ] at a0 a1
      exact ⟨(k, l), v, by simpa [Addr.add] using a0, a1, hr, h8⟩
    obtain ⟨cs, hlen, hcs⟩ := pick_cells l each
    refine ⟨cs, ⟨some x, m, by rw [hlen], by omega, hm, by simp, ?_⟩, ?_, by unfold maxLen at hm; omega⟩
    · by_cases h0 : l = 0
      · exact .inl (List.length_eq_zero_iff.1 (by omega))
      · right
        obtain ⟨v0, c0, _⟩ := hcs 0 (by omega)
        obtain ⟨b, off, spot⟩ := x
        obtain rfl : spot = none := by simpa [Addr.add] using World.cell?_spot c0
        refine ⟨b, off, rfl, World.block_lt_of_cell? W _ c0, trivial, fun i hil => ?_⟩
        obtain ⟨v, h1, h2, h3, _⟩ := hcs i (by omega)
        exact ⟨v, by rw [← h1, Addr.add_lit], by rw [← h2, Addr.add_lit, Addr.add_lit], (h3.at').mono fun _ _ _ => trivial⟩
    · intro c hc y hy
      obtain ⟨i, hil, rfl⟩ := List.getElem_of_mem hc
      obtain ⟨v, _, _, _, h4⟩ := hcs i (by omega)
      have e : cs.getD i (0, []) = cs[i] := by simp [List.getD, hil]
      rw [e] at h4
      exact h4 y hy

set_option maxRecDepth 100000 in
/-- A segment that came in. -/
theorem seg_of_trod {H : Type} {enc : TypeId × Value → H} {W : World} {base : Nat} {held : Bool} {cs : Array Value} {d : DataW H} {p : List MemPlace}
    (h : DataW.Trod enc Try.prog W base (fun _ => true) held 24 (.agg cs) d p) :
    ∃ (f : Int) (v : Value) (l : List IC), cs = #[.int .i64 f, v] ∧ (-9223372036854775808 ≤ f ∧ f ≤ 9223372036854775807) ∧ CellsAt W (fun _ => True) v l ∧ (∀ c ∈ l, ∀ y ∈ c.2, y < 256) ∧ l.length ≤ 9223372036854775807 := by
  obtain ⟨fuel, hf⟩ := h
  obtain ⟨y0, y1, n, _, hcl, h0, h1⟩ := trod_struct2 Try.underlying24 hf
  have C2 : Try.prog.cellsOf 24 = 2 := by kernel_rfl
  have k1 : Try.prog.cellsOf 3 = 1 := by kernel_rfl
  have k3 : Try.prog.cellsOf 22 = 1 := by kernel_rfl
  rw [C2] at hcl
  have e : cs.toList = (Value.agg cs).cells.toList := rfl
  rw [← e] at hcl h0 h1
  match hcs : cs.toList, hcl with
  | [c0, c1], _ =>
    rw [hcs] at h0 h1
    simp only [k1, k3, List.drop_succ_cons, List.drop_zero, List.take_succ_cons, List.take_zero] at h0 h1
    obtain ⟨f, hv, _, hw⟩ := DataW.trod_int Try.underlying3 h0
    rw [List.singleton_inj] at hv
    obtain ⟨l, hl, h8, hlen⟩ := cellsC_of_trod h1
    exact ⟨f, c1, l, Array.toList_inj.1 (by rw [hcs, hv]), wf_i64 hw, hl, h8, hlen⟩

end Go.Proofs.Ytojndpelilolkaa
