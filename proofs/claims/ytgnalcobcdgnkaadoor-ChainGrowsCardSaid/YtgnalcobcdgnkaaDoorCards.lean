/-
  DERIVED. GIVEN WITH THE SEED: THE CARDS: each row of YtgnalcobcdgnkaaDoorRows.lean that lists a variable, with what it lists TIED to the program's text (the seventh form; the later family's looks); each row that meets fmt, with fmt's text TOLD by the authors' own Lean function (tested against real Go, not proved from fmt's source: count such statements apart). THE CARD IS WHAT COUNTS. Prove the row's statement (the work); the ties are given (YtgnalcobcdgnkaaDoorTie.lean); close each card by the builder's one call (the guide's Derived/Test/ToyasCard.lean, 'card_holds'). Laid BY PROGRAM, IN A SANDBOX (cutbox-door.mjs). By AI agents, Wed Nov 11 2026. No macro, syntax, notation, axiom, sorry.
-/
import Derived.Test.YtgnalcobcdgnkaaDoorRows
import GoSem.ClaimSeven
namespace Go.Proofs.YtgnalcobcdgnkaaDoor
namespace Rows

/-- THE TIED CARD OF 'holdfastlaw16.ChainGrows'. -/
def chainGrowsCard : Claim7 := { stood := { row := chainGrowsRow, standIns := [], harness := (true, "c6c6fe75ac71a16a8024f92d35e076d02eba3bc3a127c9f957e68b4356c15d1a"), looks := false }, kinds := [], alts := [], laidByText := true, laidKinds := [.data, .data], laidTests := true, laidLooks := .later }
def ChainGrowsCardSaid : Prop := Claim7.holds Tryd.pinned (.plain (OpenSpec.ofChange chainGrowsSpec)) chainGrowsCard

/-- THE TIED CARD OF 'holdfastlaw16.ChainBreaks'. -/
def chainBreaksCard : Claim7 := { stood := { row := chainBreaksRow, standIns := [], harness := (true, "c6c6fe75ac71a16a8024f92d35e076d02eba3bc3a127c9f957e68b4356c15d1a"), looks := false }, kinds := [], alts := [], laidByText := true, laidKinds := [.data, .data], laidTests := true, laidLooks := .later }
def ChainBreaksCardSaid : Prop := Claim7.holds Tryd.pinned (.plain (OpenSpec.ofChange chainBreaksSpec)) chainBreaksCard

/-- THE SECOND FORM's CARD OF 'holdfastlaw16.ChainGrows'. -/
def chainGrowsUptoCard : Claim7 := { stood := { row := chainGrowsUptoRow, standIns := [], harness := (true, "c6c6fe75ac71a16a8024f92d35e076d02eba3bc3a127c9f957e68b4356c15d1a"), looks := false }, kinds := [], alts := [], laidByText := true, laidKinds := [.data, .data], laidTests := true, laidLooks := .later }
def ChainGrowsUptoCardSaid : Prop := Claim7.holds Tryd.pinned (.plain (OpenSpec.upto chainGrowsSpec)) chainGrowsUptoCard

/-- THE SECOND FORM's CARD OF 'holdfastlaw16.ChainBreaks'. -/
def chainBreaksUptoCard : Claim7 := { stood := { row := chainBreaksUptoRow, standIns := [], harness := (true, "c6c6fe75ac71a16a8024f92d35e076d02eba3bc3a127c9f957e68b4356c15d1a"), looks := false }, kinds := [], alts := [], laidByText := true, laidKinds := [.data, .data], laidTests := true, laidLooks := .later }
def ChainBreaksUptoCardSaid : Prop := Claim7.holds Tryd.pinned (.plain (OpenSpec.upto chainBreaksSpec)) chainBreaksUptoCard
end Rows
end Go.Proofs.YtgnalcobcdgnkaaDoor
