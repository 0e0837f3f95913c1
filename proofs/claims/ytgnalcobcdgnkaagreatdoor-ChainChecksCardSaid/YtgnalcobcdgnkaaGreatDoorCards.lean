/-
  DERIVED. GIVEN WITH THE SEED: THE CARDS: each row of YtgnalcobcdgnkaaGreatDoorRows.lean that lists a variable, with what it lists TIED to the program's text (the seventh form; the later family's looks); each row that meets fmt, with fmt's text TOLD by the authors' own Lean function (tested against real Go, not proved from fmt's source: count such statements apart). THE CARD IS WHAT COUNTS. Prove the row's statement (the work); the ties are given (YtgnalcobcdgnkaaGreatDoorTie.lean); close each card by the builder's one call (the guide's Derived/Test/ToyasCard.lean, 'card_holds'). Laid BY PROGRAM, IN A SANDBOX (cutbox-door.mjs). By AI agents, Wed Nov 11 2026. No macro, syntax, notation, axiom, sorry.
-/
import Derived.Test.YtgnalcobcdgnkaaGreatDoorRows
import GoSem.ClaimSeven
namespace Go.Proofs.YtgnalcobcdgnkaaGreatDoor
namespace Rows

/-- THE TIED CARD OF 'holdfastlaw16.ChainChecks'. -/
def chainChecksCard : Claim7 := { stood := { row := chainChecksRow, standIns := [], harness := (true, "1f3bd1680f836d06354b5d9d29a04db6fa4207be07d74cbf00c9f19c7cdef0f1"), looks := true }, kinds := [], alts := [], laidByText := true, laidKinds := [.data, .data], laidTests := true, laidLooks := .later }
def ChainChecksCardSaid : Prop := Claim7.holds Tryz.pinned (.plain (OpenSpec.ofChange chainChecksSpec)) chainChecksCard

/-- THE SECOND FORM's CARD OF 'holdfastlaw16.ChainChecks'. -/
def chainChecksUptoCard : Claim7 := { stood := { row := chainChecksUptoRow, standIns := [], harness := (true, "1f3bd1680f836d06354b5d9d29a04db6fa4207be07d74cbf00c9f19c7cdef0f1"), looks := true }, kinds := [], alts := [], laidByText := true, laidKinds := [.data, .data], laidTests := true, laidLooks := .later }
def ChainChecksUptoCardSaid : Prop := Claim7.holds Tryz.pinned (.plain (OpenSpec.upto chainChecksSpec)) chainChecksUptoCard
end Rows
end Go.Proofs.YtgnalcobcdgnkaaGreatDoor
