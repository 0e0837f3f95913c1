/- PROVED: holdfastlaw13.SlogNil answers true for every input, and leaves its arguments as they were, whenever the listed package variables (tables and two errors of Go's library) hold what the text of the program lays in them. The card ties them to the text of the program; the tie is given, it speaks of the pruned copy of the project, and it leans on the report of the translator that nothing else writes these variables. -/
import Derived.Test.YtlckadlkgjfjcaaGreatDoorRows
import Derived.WalkKit
import Derived.Test.YtlckadlkgjfjcaaGreatDoorSlogNilLift
import Derived.Test.YtlckadlkgjfjcaaGreatDoorSlogNilFacts
import Derived.Test.YtlckadlkgjfjcaaGreatDoorQl
import Derived.Test.YtlckadlkgjfjcaaGreatDoorJoF
import Derived.Test.YtlckadlkgjfjcaaGreatDoorCards
import Derived.Test.YtlckadlkgjfjcaaGreatDoorTie
import Derived.ProofKit
import Derived.OpenShut
import Derived.ShutString
import Derived.ChangeOld
import Derived.Below
import Derived.SevenTiedAt
import Derived.Stop.Joined
namespace Go.Proofs.YtlckadlkgjfjcaaGreatDoor.slogNil
open Go.ChangeShapes Go.WideShapes Go.ChangeAt Go.RowKit
set_option linter.unusedVariables false

theorem over : Rows.SlogNilSaid :=
  OpenClaim.holds_of_wide 3 Tryz.f3 rfl rfl rfl rfl rfl rfl rfl ⟨rfl, rfl, rfl, rfl, rfl⟩ rfl rfl rfl rfl rfl k5 Tryz.func3 closed k6 k7
    (fun os started H enc _ => lifted os started H enc)

/-- ████ THE STATEMENT: THE TIED CARD ████ -/
theorem proved : Rows.SlogNilCardSaid :=
  Claim7.holds_tied_plain_at .later [] [.data, .data, .data, .data, .sentinel, .sentinel, .pinned] true (true, "e840cf61e842dc24d11332b4d772f15e000248280c48f1998a76a8897256716e") true
    over (fun _ h => by cases h) k0 (fun _ h => by cases h) slogNil_row_tie rfl ⟨rfl, rfl⟩ k1 rfl
    (fun f fn hf hfn => by
      obtain rfl : f = 3 := Option.some.inj (k5.symm.trans hf) |>.symm
      obtain rfl : fn = Tryz.f3 := (Option.some.inj (Tryz.func3.symm.trans hfn)).symm
      exact ⟨k2, fun j t ht => by
        rw [Tryz.params3] at ht
        have hm : t ∈ [28] := by
          have := Array.mem_of_getElem? ht
          simp only [List.mem_toArray, List.mem_cons, List.not_mem_nil, or_false] at this ⊢
          first | exact this | omega | (rcases this with h | h | h <;> simp [h]) | (rcases this with h | h <;> simp [h])
        exact (show Tryz.pinned.checked.prog.wantsStandIn t = false by simpa using List.all_eq_true.1 k3 t hm)⟩)
    k4
#print axioms proved
end Go.Proofs.YtlckadlkgjfjcaaGreatDoor.slogNil
