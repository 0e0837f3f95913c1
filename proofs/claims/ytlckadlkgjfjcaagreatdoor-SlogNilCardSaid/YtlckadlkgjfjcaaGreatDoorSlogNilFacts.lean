/- Closed facts of the row of SlogNil. -/
import Derived.Test.YtlckadlkgjfjcaaGreatDoorRows
import Derived.WalkKit
import Derived.ProofKit
import Derived.Test.YtlckadlkgjfjcaaGreatDoorJoF
import Derived.SevenTiedAt
namespace Go.Proofs.YtlckadlkgjfjcaaGreatDoor.slogNil
open Go.ChangeShapes Go.WideShapes Go.ChangeAt Go.RowKit
set_option linter.unusedVariables false

theorem j0 : (Rows.slogNilRow.wf (OpenSpec.ofChange Rows.slogNilSpec)) = true := by kernel_rfl
theorem j1 : (laidOutB Tryz.pinned.checked.prog) = true := by kernel_rfl
theorem j2 : (mapsRowed Tryz.pinned.checked.prog) = true := by kernel_rfl
theorem j3 : (Tryz.f3.params.all (Tryz.pinned.checked.prog.readableRec ·)) = true := by kernel_rfl
theorem j4 : (namedTie Tryz.pinned.checked.prog Rows.slogNilRow.named Rows.slogNilSpec.vars) = true := by kernel_rfl
theorem j5 : ((Rows.slogNilRow.stops == [])) = true := by kernel_rfl
theorem j6 : ((Tryz.pinned.checked.prog.stops == [])) = true := by kernel_rfl
theorem j7 : ((Rows.slogNilRow.knobs == [])) = true := by kernel_rfl
theorem j8 : ((Tryz.pinned.checked.prog.stopKnobs == [])) = true := by kernel_rfl
theorem j9 : ((Rows.slogNilRow.inPlace == Tryz.pinned.checked.prog.inPlace 3)) = true := by kernel_rfl
theorem j10 : ((Rows.slogNilRow.unfollowed == Tryz.pinned.checked.prog.unfollowed 3)) = true := by kernel_rfl
theorem j11 : ((Rows.slogNilRow.recurses == Tryz.pinned.checked.prog.recurses 3)) = true := by kernel_rfl
theorem j12 : ((Rows.slogNilRow.named == Tryz.pinned.checked.prog.varsNamed 3)) = true := by kernel_rfl
theorem j13 : ((Rows.slogNilRow.maps == (Tryz.f3.params.toList ++ Rows.slogNilSpec.plain.varTypes Tryz.pinned.checked.prog).any (Tryz.pinned.checked.prog.mapsRec ·))) = true := by kernel_rfl
theorem j14 : ((Rows.slogNilRow.ifaces == (Tryz.f3.params.toList ++ Rows.slogNilSpec.plain.varTypes Tryz.pinned.checked.prog).any (Tryz.pinned.checked.prog.ifacesRec ·))) = true := by kernel_rfl
theorem j15 : ((Rows.slogNilRow.mapsOut == Tryz.pinned.checked.prog.mapsAmong Tryz.f3.resultTypes.toList)) = true := by kernel_rfl
theorem j16 : ((Rows.slogNilRow.loops == (Tryz.f3.params.toList ++ Rows.slogNilSpec.plain.varTypes Tryz.pinned.checked.prog).any (Tryz.pinned.checked.prog.loopsFrom ·))) = true := by kernel_rfl
theorem j17 : ((Rows.slogNilRow.wideKeys == (Tryz.f3.params.toList ++ Rows.slogNilSpec.plain.varTypes Tryz.pinned.checked.prog ++ Tryz.f3.resultTypes.toList).any (Tryz.pinned.checked.prog.wideKeysFrom ·))) = true := by kernel_rfl
theorem j18 : (Rows.slogNilSpec.vars.all (Tryz.pinned.checked.prog.varReadable ·)) = true := by kernel_rfl
theorem j19 : (Tryz.f3.resultTypes.all (fun t => Tryz.pinned.checked.prog.readableRec t && decide (t < Tryz.pinned.checked.prog.types.size))) = true := by kernel_rfl
theorem j20 : ((Rows.slogNilRow.ifacesOut == Tryz.f3.resultTypes.toList.any (Tryz.pinned.checked.prog.ifacesRec ·))) = true := by kernel_rfl
theorem j21 : ((Rows.slogNilRow.loopsOut == Tryz.f3.resultTypes.toList.any (Tryz.pinned.checked.prog.loopsFrom ·))) = true := by kernel_rfl
theorem j22 : ((Rows.slogNilRow.plainKeys == Tryz.pinned.checked.prog.plainKeys)) = true := by kernel_rfl
theorem j23 : (Rows.slogNilRow.shortTexts.isNone) = true := by kernel_rfl
theorem j24 : (Tryz.pinned.checked.prog.stopsHeard) = true := by kernel_rfl
theorem j25 : (Tryz.pinned.checked.prog.mayEnter) = true := by kernel_rfl
theorem j26 : ((Rows.slogNilRow.lifted == Tryz.pinned.checked.prog.liftsFinal)) = true := by kernel_rfl
theorem j27 : ((Tryz.pinned.checked.prog.make == some Rows.slogNilRow.make)) = true := by kernel_rfl
theorem j28 : ((Rows.slogNilRow.kinds == (if Rows.slogNilRow.domain.isEmpty then [] else Tryz.f3.params.toList.map fun t => match Tryz.pinned.checked.prog.underlying t with | some (.int k) => some k | _ => none))) = true := by kernel_rfl
theorem j29 : ((Rows.slogNilRow.pinned == Rows.slogNilRow.pinnedBy)) = true := by kernel_rfl
theorem j30 : ((Rows.slogNilRow.veiled == (Tryz.f3.params.toList ++ Rows.slogNilSpec.plain.varTypes Tryz.pinned.checked.prog ++ Tryz.f3.resultTypes.toList).any (Tryz.pinned.checked.prog.veiledRec ·))) = true := by kernel_rfl
theorem j31 : (Rows.slogNilRow.veiledFits Tryz.pinned.checked.prog Tryz.f3.params.toList (Tryz.f3.params.toList ++ Rows.slogNilSpec.plain.varTypes Tryz.pinned.checked.prog ++ Tryz.f3.resultTypes.toList)) = true := by kernel_rfl
theorem k0 : Rows.slogNilRow.wfByText (OpenSpec.ofChange Rows.slogNilSpec) = true := by kernel_rfl
theorem k1 : Tryz.pinned.checked.prog.mainIs = some (true, ("e840cf61e842dc24d11332b4d772f15e000248280c48f1998a76a8897256716e" : String).toList) := by kernel_rfl
theorem k2 : true = Tryz.pinned.checked.prog.looks [] := by kernel_rfl
theorem k3 : ([28].all fun u => !Tryz.pinned.checked.prog.wantsStandIn u) = true := by kernel_rfl
theorem k4 : false = Rows.slogNilRow.goesBy Tryz.pinned.checked.prog := by kernel_rfl
theorem k5 : Tryz.pinned.checked.prog.funcNamed "holdfast/holdfastlaw13.SlogNil" = some 3 := by kernel_rfl
theorem k6 : Tryz.f3.isInstance Tryz.pinned.checked.prog Rows.slogNilRow.origin Rows.slogNilRow.targs := of_decide_eq_true (by kernel_rfl)
theorem k7 : Tryz.f3.isWrapper Tryz.pinned.checked.prog Rows.slogNilRow.wrapper Rows.slogNilRow.mainSum := by unfold Func.isWrapper; first | (rw [if_pos (by decide +kernel)]; kernel_rfl) | (rw [if_neg (by decide +kernel)]; exact ⟨rfl, rfl⟩)
set_option maxRecDepth 100000 in
theorem closed : joinedFacts Tryz.pinned.checked.prog 3 Tryz.f3 Rows.slogNilSpec Rows.slogNilRow = true := joined_of j0 j1 j2 j3 j4 j5 j6 j7 j8 j9 j10 j11 j12 j13 j14 j15 j16 j17 j18 j19 j20 j21 j22 j23 j24 j25 j26 j27 j28 j29 j30 j31

end Go.Proofs.YtlckadlkgjfjcaaGreatDoor.slogNil
