/- What the listed variables hold, out of a row's condition; and that the world behind start-up meets it. -/
import Derived.Test.YtjhipfgmiilmdaaDoorRows
import Derived.Test.YtjhipfgmiilmdaaDoorShaS
import Derived.Lib.LaidTab
import Derived.ProofKit
import Derived.LaidMore
import Derived.OpenShut
namespace Go.Proofs.YtjhipfgmiilmdaaDoor
open Go.ChangeShapes Go.WideShapes Go.ChangeAt Go.RowKit

theorem own : ownKnob Tryd.prog.godebug = none := by kernel_rfl
theorem gConsts : Tryd.prog.globalNamed "holdfast/sha.constants" = some 1 := by kernel_rfl
theorem gFirst : Tryd.prog.globalNamed "holdfast/sha.first" = some 0 := by kernel_rfl
theorem tConsts : (Tryd.prog.globals[1]?).map (·.type) = some 69 := by kernel_rfl
theorem tFirst : (Tryd.prog.globals[0]?).map (·.type) = some 58 := by kernel_rfl

/-- The two listed variables. -/
def laid2 : List (String × DataW Unit) := [("holdfast/sha.constants", Rows.laid_holdfast_sha_constants), ("holdfast/sha.first", Rows.laid_holdfast_sha_first)]

/-- The heap behind the door's own run meets the condition. -/
theorem door_met (os : Os) (args : Array Value) : laidMetH Tryd.prog laid2 ((World.doorLaid Tryd.prog 400 os).forCall (fun _ _ => 0) ⟨#[], args, []⟩).memory :=
  laidMetH_of_parts3 (fuel := 8) (laidMet_of_run' 8 (by kernel_rfl) (by kernel_rfl)) (by kernel_rfl) (by kernel_rfl)

theorem constsD : (Rows.laid_holdfast_sha_constants : DataW Unit) = Lib.tabData .u32 (shaK.map fun n : Nat => (n : Int)) := by kernel_rfl
theorem firstD : (Rows.laid_holdfast_sha_first : DataW Unit) = Lib.tabData .u32 (shaH.map fun n : Nat => (n : Int)) := by kernel_rfl

/-- WHAT THE CONDITION GIVES THE WALKS. -/
theorem of_laid {W : World} (h : laidMetH Tryd.prog laid2 W) : Laid W := by
  rw [MakeChecks.laidMetH_plain _ _ _ (by kernel_rfl)] at h
  obtain ⟨ps, ⟨g0, t0, cs0, f0, p0, q0, hg0, ht0, hv0, hd0, ⟨g1, t1, cs1, f1, p1, q1, hg1, ht1, hv1, hd1, _, _⟩, _⟩, _, _⟩ := h
  obtain rfl := Option.some.inj (gConsts.symm.trans hg0)
  obtain rfl := Option.some.inj (gFirst.symm.trans hg1)
  obtain rfl := Option.some.inj (tConsts.symm.trans ht0)
  obtain rfl := Option.some.inj (tFirst.symm.trans ht1)
  rw [constsD] at hd0
  rw [firstD] at hd1
  have h0 := Lib.cells_of_tab Tryd.underlying69 Tryd.underlying37 (by kernel_rfl) (by kernel_rfl) hd0
  have h1 := Lib.cells_of_tab Tryd.underlying58 Tryd.underlying37 (by kernel_rfl) (by kernel_rfl) hd1
  obtain ⟨l0⟩ := cs0
  obtain ⟨l1⟩ := cs1
  simp only at h0 h1
  subst h0
  subst h1
  have hrow1 : ∃ t fr, W.heap[0]? = some (.cells (vals .u32 shaH).toArray t fr) := by
    unfold World.var? at hv1
    rw [hg1, Option.bind_some] at hv1
    split at hv1
    · rename_i cs t fr hh
      obtain rfl := Option.some.inj hv1
      exact ⟨t, fr, by rw [hh]; simp [vals]⟩
    · cases hv1
  have hrow0 : ∃ t fr, W.heap[1]? = some (.cells (vals .u32 shaK).toArray t fr) := by
    unfold World.var? at hv0
    rw [hg0, Option.bind_some] at hv0
    split at hv0
    · rename_i cs t fr hh
      obtain rfl := Option.some.inj hv0
      exact ⟨t, fr, by rw [hh]; simp [vals]⟩
    · cases hv0
  obtain ⟨t, fr, hk⟩ := hrow0
  refine ⟨?_, fun i hi => cell_of_row hk i hi, hrow1⟩
  have := (Array.getElem?_eq_some_iff.1 hk).1
  omega

end Go.Proofs.YtjhipfgmiilmdaaDoor
