/-
  PROVED: holdfastlaw10.ShelfKeeps answers true for every input, and leaves its arguments as they were, whenever the listed package variables (tables and two errors of Go's library) hold what the text of the program lays in them. The card ties them to the text of the program; the tie is given, it speaks of the pruned copy of the project, and it leans on the report of the translator that nothing else writes these variables.
-/
import Derived.Test.YteknibaappcgmaaGreatDoorRows
import Derived.WalkKit
import Derived.Test.YteknibaappcgmaaGreatDoorShelfKeepsLift
import Derived.Test.YteknibaappcgmaaGreatDoorShelfKeepsFacts
import Derived.Test.YteknibaappcgmaaGreatDoorLaidT
import Derived.Test.YteknibaappcgmaaGreatDoorJoF
import Derived.Test.YteknibaappcgmaaGreatDoorUfP
import Derived.Test.YteknibaappcgmaaGreatDoorPjA
import Derived.Test.YteknibaappcgmaaGreatDoorDskT
import Derived.Test.YteknibaappcgmaaGreatDoorCards
import Derived.Test.YteknibaappcgmaaGreatDoorTie
import Derived.ProofKit
import Derived.OpenShut
import Derived.ShutString
import Derived.ChangeOld
import Derived.Below
import Derived.SevenTiedAt
import Derived.Stop.Joined
namespace Go.Proofs.YteknibaappcgmaaGreatDoor.shelfKeeps
open Go.ChangeShapes Go.WideShapes Go.ChangeAt Go.RowKit
set_option linter.unusedVariables false

theorem over : Rows.ShelfKeepsSaid :=
  OpenClaim.holds_of_wide 4 Tryz.f4 rfl rfl rfl rfl rfl rfl rfl ⟨rfl, rfl, rfl, rfl, rfl⟩ rfl rfl rfl rfl rfl k5 Tryz.func4 closed k6 k7
    (fun os started H enc _ => lifted os started H enc)

/-- ████ THE STATEMENT: THE TIED CARD ████ -/
theorem proved : Rows.ShelfKeepsCardSaid :=
  Claim7.holds_tied_plain_at .later [] [.data, .data, .data, .data, .sentinel, .sentinel, .pinned] true (true, "1222eab96da52d169fe60cc9c268998542e65db1e360552f174a473c993adab8") true
    over (fun _ h => by cases h) k0 (fun _ h => by cases h) shelfKeeps_row_tie rfl ⟨rfl, rfl⟩ k1 rfl
    (fun f fn hf hfn => by
      obtain rfl : f = 4 := Option.some.inj (k5.symm.trans hf) |>.symm
      obtain rfl : fn = Tryz.f4 := (Option.some.inj (Tryz.func4.symm.trans hfn)).symm
      exact ⟨k2, fun j t ht => by
        rw [Tryz.params4] at ht
        have hm : t ∈ [49, 57, 56] := by
          have := Array.mem_of_getElem? ht
          simp only [List.mem_toArray, List.mem_cons, List.not_mem_nil, or_false] at this ⊢
          first | exact this | omega | (rcases this with h | h | h <;> simp [h]) | (rcases this with h | h <;> simp [h])
        exact (show Tryz.pinned.checked.prog.wantsStandIn t = false by simpa using List.all_eq_true.1 k3 t hm)⟩)
    k4
#print axioms proved
end Go.Proofs.YteknibaappcgmaaGreatDoor.shelfKeeps
