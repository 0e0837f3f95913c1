/- Closed facts of the row of ShelfKeeps. -/
import Derived.Test.YteknibaappcgmaaGreatDoorRows
import Derived.WalkKit
import Derived.ProofKit
import Derived.Test.YteknibaappcgmaaGreatDoorJoF
import Derived.SevenTiedAt
namespace Go.Proofs.YteknibaappcgmaaGreatDoor.shelfKeeps
open Go.ChangeShapes Go.WideShapes Go.ChangeAt Go.RowKit
set_option linter.unusedVariables false

theorem j0 : (Rows.shelfKeepsRow.wf (OpenSpec.ofChange Rows.shelfKeepsSpec)) = true := by kernel_rfl
theorem j1 : (laidOutB Tryz.pinned.checked.prog) = true := by kernel_rfl
theorem j2 : (mapsRowed Tryz.pinned.checked.prog) = true := by kernel_rfl
theorem j3 : (Tryz.f4.params.all (Tryz.pinned.checked.prog.readableRec ·)) = true := by kernel_rfl
theorem j4 : (namedTie Tryz.pinned.checked.prog Rows.shelfKeepsRow.named Rows.shelfKeepsSpec.vars) = true := by kernel_rfl
theorem j5 : ((Rows.shelfKeepsRow.stops == [])) = true := by kernel_rfl
theorem j6 : ((Tryz.pinned.checked.prog.stops == [])) = true := by kernel_rfl
theorem j7 : ((Rows.shelfKeepsRow.knobs == [])) = true := by kernel_rfl
theorem j8 : ((Tryz.pinned.checked.prog.stopKnobs == [])) = true := by kernel_rfl
theorem j9 : ((Rows.shelfKeepsRow.inPlace == Tryz.pinned.checked.prog.inPlace 4)) = true := by kernel_rfl
theorem j10 : ((Rows.shelfKeepsRow.unfollowed == Tryz.pinned.checked.prog.unfollowed 4)) = true := by kernel_rfl
theorem j11 : ((Rows.shelfKeepsRow.recurses == Tryz.pinned.checked.prog.recurses 4)) = true := by kernel_rfl
theorem j12 : ((Rows.shelfKeepsRow.named == Tryz.pinned.checked.prog.varsNamed 4)) = true := by kernel_rfl
theorem j13 : ((Rows.shelfKeepsRow.maps == (Tryz.f4.params.toList ++ Rows.shelfKeepsSpec.plain.varTypes Tryz.pinned.checked.prog).any (Tryz.pinned.checked.prog.mapsRec ·))) = true := by kernel_rfl
theorem j14 : ((Rows.shelfKeepsRow.ifaces == (Tryz.f4.params.toList ++ Rows.shelfKeepsSpec.plain.varTypes Tryz.pinned.checked.prog).any (Tryz.pinned.checked.prog.ifacesRec ·))) = true := by kernel_rfl
theorem j15 : ((Rows.shelfKeepsRow.mapsOut == Tryz.pinned.checked.prog.mapsAmong Tryz.f4.resultTypes.toList)) = true := by kernel_rfl
theorem j16 : ((Rows.shelfKeepsRow.loops == (Tryz.f4.params.toList ++ Rows.shelfKeepsSpec.plain.varTypes Tryz.pinned.checked.prog).any (Tryz.pinned.checked.prog.loopsFrom ·))) = true := by kernel_rfl
theorem j17 : ((Rows.shelfKeepsRow.wideKeys == (Tryz.f4.params.toList ++ Rows.shelfKeepsSpec.plain.varTypes Tryz.pinned.checked.prog ++ Tryz.f4.resultTypes.toList).any (Tryz.pinned.checked.prog.wideKeysFrom ·))) = true := by kernel_rfl
theorem j18 : (Rows.shelfKeepsSpec.vars.all (Tryz.pinned.checked.prog.varReadable ·)) = true := by kernel_rfl
theorem j19 : (Tryz.f4.resultTypes.all (fun t => Tryz.pinned.checked.prog.readableRec t && decide (t < Tryz.pinned.checked.prog.types.size))) = true := by kernel_rfl
theorem j20 : ((Rows.shelfKeepsRow.ifacesOut == Tryz.f4.resultTypes.toList.any (Tryz.pinned.checked.prog.ifacesRec ·))) = true := by kernel_rfl
theorem j21 : ((Rows.shelfKeepsRow.loopsOut == Tryz.f4.resultTypes.toList.any (Tryz.pinned.checked.prog.loopsFrom ·))) = true := by kernel_rfl
theorem j22 : ((Rows.shelfKeepsRow.plainKeys == Tryz.pinned.checked.prog.plainKeys)) = true := by kernel_rfl
theorem j23 : (Rows.shelfKeepsRow.shortTexts.isNone) = true := by kernel_rfl
theorem j24 : (Tryz.pinned.checked.prog.stopsHeard) = true := by kernel_rfl
theorem j25 : (Tryz.pinned.checked.prog.mayEnter) = true := by kernel_rfl
theorem j26 : ((Rows.shelfKeepsRow.lifted == Tryz.pinned.checked.prog.liftsFinal)) = true := by kernel_rfl
theorem j27 : ((Tryz.pinned.checked.prog.make == some Rows.shelfKeepsRow.make)) = true := by kernel_rfl
theorem j28 : ((Rows.shelfKeepsRow.kinds == (if Rows.shelfKeepsRow.domain.isEmpty then [] else Tryz.f4.params.toList.map fun t => match Tryz.pinned.checked.prog.underlying t with | some (.int k) => some k | _ => none))) = true := by kernel_rfl
theorem j29 : ((Rows.shelfKeepsRow.pinned == Rows.shelfKeepsRow.pinnedBy)) = true := by kernel_rfl
theorem j30 : ((Rows.shelfKeepsRow.veiled == (Tryz.f4.params.toList ++ Rows.shelfKeepsSpec.plain.varTypes Tryz.pinned.checked.prog ++ Tryz.f4.resultTypes.toList).any (Tryz.pinned.checked.prog.veiledRec ·))) = true := by kernel_rfl
theorem j31 : (Rows.shelfKeepsRow.veiledFits Tryz.pinned.checked.prog Tryz.f4.params.toList (Tryz.f4.params.toList ++ Rows.shelfKeepsSpec.plain.varTypes Tryz.pinned.checked.prog ++ Tryz.f4.resultTypes.toList)) = true := by kernel_rfl
theorem k0 : Rows.shelfKeepsRow.wfByText (OpenSpec.ofChange Rows.shelfKeepsSpec) = true := by kernel_rfl
theorem k1 : Tryz.pinned.checked.prog.mainIs = some (true, ("1222eab96da52d169fe60cc9c268998542e65db1e360552f174a473c993adab8" : String).toList) := by kernel_rfl
theorem k2 : true = Tryz.pinned.checked.prog.looks [] := by kernel_rfl
theorem k3 : ([49, 57, 56].all fun u => !Tryz.pinned.checked.prog.wantsStandIn u) = true := by kernel_rfl
theorem k4 : false = Rows.shelfKeepsRow.goesBy Tryz.pinned.checked.prog := by kernel_rfl
theorem k5 : Tryz.pinned.checked.prog.funcNamed "holdfast/holdfastlaw10.ShelfKeeps" = some 4 := by kernel_rfl
theorem k6 : Tryz.f4.isInstance Tryz.pinned.checked.prog Rows.shelfKeepsRow.origin Rows.shelfKeepsRow.targs := of_decide_eq_true (by kernel_rfl)
theorem k7 : Tryz.f4.isWrapper Tryz.pinned.checked.prog Rows.shelfKeepsRow.wrapper Rows.shelfKeepsRow.mainSum := by unfold Func.isWrapper; first | (rw [if_pos (by decide +kernel)]; kernel_rfl) | (rw [if_neg (by decide +kernel)]; exact ⟨rfl, rfl⟩)
set_option maxRecDepth 100000 in
theorem closed : joinedFacts Tryz.pinned.checked.prog 4 Tryz.f4 Rows.shelfKeepsSpec Rows.shelfKeepsRow = true := joined_of j0 j1 j2 j3 j4 j5 j6 j7 j8 j9 j10 j11 j12 j13 j14 j15 j16 j17 j18 j19 j20 j21 j22 j23 j24 j25 j26 j27 j28 j29 j30 j31

end Go.Proofs.YteknibaappcgmaaGreatDoor.shelfKeeps
