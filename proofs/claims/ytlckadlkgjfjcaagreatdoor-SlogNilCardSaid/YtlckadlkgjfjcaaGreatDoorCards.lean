/-
  DERIVED. GIVEN WITH THE SEED: THE CARDS: each row of YtlckadlkgjfjcaaGreatDoorRows.lean that lists a variable, with what it lists TIED to the program's text (the seventh form; the later family's looks); each row that meets fmt, with fmt's text TOLD by the authors' own Lean function (tested against real Go, not proved from fmt's source: count such statements apart). THE CARD IS WHAT COUNTS. Prove the row's statement (the work); the ties are given (YtlckadlkgjfjcaaGreatDoorTie.lean); close each card by the builder's one call (the guide's Derived/Test/ToyasCard.lean, 'card_holds'). Laid BY PROGRAM, IN A SANDBOX (cutbox-door.mjs). By AI agents, Wed Nov 11 2026. No macro, syntax, notation, axiom, sorry.
-/
import Derived.Test.YtlckadlkgjfjcaaGreatDoorRows
import GoSem.ClaimSeven
namespace Go.Proofs.YtlckadlkgjfjcaaGreatDoor
namespace Rows

/-- THE TIED CARD OF 'holdfastlaw13.SlogNil'. -/
def slogNilCard : Claim7 := { stood := { row := slogNilRow, standIns := [], harness := (true, "e840cf61e842dc24d11332b4d772f15e000248280c48f1998a76a8897256716e"), looks := true }, kinds := [], alts := [], laidByText := true, laidKinds := [.data, .data, .data, .data, .sentinel, .sentinel, .pinned], laidTests := true, laidLooks := .later }
def SlogNilCardSaid : Prop := Claim7.holds Tryz.pinned (.plain (OpenSpec.ofChange slogNilSpec)) slogNilCard

/-- THE SECOND FORM's CARD OF 'holdfastlaw13.SlogNil'. -/
def slogNilUptoCard : Claim7 := { stood := { row := slogNilUptoRow, standIns := [], harness := (true, "e840cf61e842dc24d11332b4d772f15e000248280c48f1998a76a8897256716e"), looks := true }, kinds := [], alts := [], laidByText := true, laidKinds := [.data, .data, .data, .data, .sentinel, .sentinel, .pinned], laidTests := true, laidLooks := .later }
def SlogNilUptoCardSaid : Prop := Claim7.holds Tryz.pinned (.plain (OpenSpec.upto slogNilSpec)) slogNilUptoCard
end Rows
end Go.Proofs.YtlckadlkgjfjcaaGreatDoor
