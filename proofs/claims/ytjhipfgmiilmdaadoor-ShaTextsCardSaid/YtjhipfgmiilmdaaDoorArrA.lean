/- An array of 32 bytes that came in by value. -/
import Derived.Test.YtjhipfgmiilmdaaDoorBase
import Derived.Test.YtjhipfgmiilmdaaDoorByteA
import Derived.OpenShut
import Derived.ProofKit
import Derived.Below
import Derived.WalkKit
namespace Go.Proofs.YtjhipfgmiilmdaaDoor
open Go.ChangeShapes Go.WideShapes Go.ChangeAt Go.RowKit

theorem bytes_of_arr {H : Type} {enc : TypeId × Value → H} {w : World} {base : Nat} {sp : Nat → Bool} {held : Bool} {fuel : Nat} {cs : List Value} {x : DataW H × List MemPlace}
    (h : DataW.trod enc Tryd.prog w base sp held fuel 23 cs = some x) : ∃ B : List Nat, cs = vals .u8 B ∧ B.length = 32 ∧ ∀ y ∈ B, y < 256 := by
  obtain ⟨xs, m, rfl, rfl, hlen, hn, hel⟩ := DataW.trod_array Tryd.underlying23 h
  have c1 : Tryd.prog.cellsOf 5 = 1 := by kernel_rfl
  have c32 : Tryd.prog.cellsOf 23 = 32 := by kernel_rfl
  rw [c32] at hlen
  rw [c1] at hel
  have hall : ∀ i, i < 32 → ∃ n : Nat, n < 256 ∧ cs[i]? = some (.int .u8 (n : Int)) := by
    intro i hi
    obtain ⟨y, hy⟩ : ∃ y, xs[i]? = some y := ⟨_, List.getElem?_eq_getElem (by omega)⟩
    have hf := (hel i hi).trans hy
    obtain ⟨z, hc, _, hw⟩ := DataW.trod_int Tryd.underlying5 hf
    have hb := wf_u8 hw
    refine ⟨z.toNat, by omega, ?_⟩
    have := congrArg (·[0]?) hc
    rw [show ((z.toNat : Nat) : Int) = z by omega]
    simpa [List.getElem?_take, List.getElem?_drop] using this
  refine ⟨cs.map fun v => (intOf v).toNat, ?_, by rw [List.length_map]; exact hlen, ?_⟩
  · refine List.ext_getElem? fun i => ?_
    by_cases hi : i < 32
    · obtain ⟨n, _, hci⟩ := hall i hi
      simp [vals, hci, intOf]
    · rw [List.getElem?_eq_none (by omega), List.getElem?_eq_none (by rw [vals_length, List.length_map]; omega)]
  · intro y hy
    obtain ⟨v, hv, rfl⟩ := List.mem_map.1 hy
    obtain ⟨i, hi, rfl⟩ := List.getElem_of_mem hv
    obtain ⟨n, hn2, hci⟩ := hall i (by omega)
    rw [List.getElem?_eq_getElem hi] at hci
    rw [Option.some.inj hci]
    simpa [intOf] using hn2

end Go.Proofs.YtjhipfgmiilmdaaDoor
