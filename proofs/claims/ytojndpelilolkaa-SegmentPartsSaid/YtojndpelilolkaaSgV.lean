/- A pair of ints ([2]int) that came in by value: an opener of the shells. -/
import Derived.OpenShut
import Derived.Test.YtojndpelilolkaaSgO
namespace Go.Proofs.Ytojndpelilolkaa
open Go.RowKit Go.ChangeShapes Go.WideShapes

theorem pair_of_trod {H : Type} {enc : TypeId × Value → H} {W : World} {base : Nat} {held : Bool} {cs : Array Value} {d : DataW H} {p : List MemPlace}
    (h : DataW.Trod enc Try.prog W base (fun _ => true) held 53 (.agg cs) d p) :
    ∃ lo hi : Int, cs = #[.int .i64 lo, .int .i64 hi] ∧ (-9223372036854775808 ≤ lo ∧ lo ≤ 9223372036854775807) ∧ (-9223372036854775808 ≤ hi ∧ hi ≤ 9223372036854775807) := by
  obtain ⟨fuel, hf⟩ := h
  obtain ⟨xs, m, _, _, hlen, hn, hel⟩ := DataW.trod_array Try.underlying53 hf
  have c1 : Try.prog.cellsOf 3 = 1 := by kernel_rfl
  have c2 : Try.prog.cellsOf 53 = 2 := by kernel_rfl
  have e : cs.toList = (Value.agg cs).cells.toList := rfl
  rw [c2, ← e] at hlen
  rw [c1, ← e] at hel
  match hcs : cs.toList, hlen with
  | [y0, y1], _ =>
    rw [hcs] at hel
    have at_ : ∀ i (v : Value), i < 2 → ([y0, y1] : List Value)[i]? = some v → ∃ z : Int, v = .int .i64 z ∧ -9223372036854775808 ≤ z ∧ z ≤ 9223372036854775807 := by
      intro i v hi hv
      obtain ⟨y, hy⟩ : ∃ y, xs[i]? = some y := ⟨_, List.getElem?_eq_getElem (by omega)⟩
      have hf' := (hel i hi).trans hy
      obtain ⟨z, hc, _, hw⟩ := DataW.trod_int Try.underlying3 hf'
      have hb := wf_i64 hw
      refine ⟨z, ?_, hb⟩
      have h0 := congrArg (·[0]?) hc
      have h1 : ([y0, y1] : List Value)[i]? = some (.int .i64 z) := by simpa [List.getElem?_take, List.getElem?_drop] using h0
      rw [h1] at hv
      exact (Option.some.inj hv).symm
    obtain ⟨lo, hlo, b0⟩ := at_ 0 y0 (by decide) rfl
    obtain ⟨hi, hhi, b1⟩ := at_ 1 y1 (by decide) rfl
    exact ⟨lo, hi, Array.toList_inj.1 (by rw [hcs, hlo, hhi]), b0, b1⟩

end Go.Proofs.Ytojndpelilolkaa
