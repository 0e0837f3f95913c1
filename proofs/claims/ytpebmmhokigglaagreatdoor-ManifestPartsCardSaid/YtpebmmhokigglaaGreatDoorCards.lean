/-
  DERIVED. GIVEN WITH THE SEED: THE CARDS: each row of YtpebmmhokigglaaGreatDoorRows.lean that lists a variable, with what it lists TIED to the program's text (the seventh form; the later family's looks); each row that meets fmt, with fmt's text TOLD by the authors' own Lean function (tested against real Go, not proved from fmt's source: count such statements apart). THE CARD IS WHAT COUNTS. Prove the row's statement (the work); the ties are given (YtpebmmhokigglaaGreatDoorTie.lean); close each card by the builder's one call (the guide's Derived/Test/ToyasCard.lean, 'card_holds'). Laid BY PROGRAM, IN A SANDBOX (cutbox-door.mjs). By AI agents, Wed Nov 11 2026. No macro, syntax, notation, axiom, sorry.
-/
import Derived.Test.YtpebmmhokigglaaGreatDoorRows
import GoSem.ClaimSeven
namespace Go.Proofs.YtpebmmhokigglaaGreatDoor
namespace Rows

/-- THE TIED CARD OF 'holdfastlaw15.ManifestParts'. -/
def manifestPartsCard : Claim7 := { stood := { row := manifestPartsRow, standIns := [], harness := (true, "e244ea16483c195a87a7ec9429494c909c61eae01184e1cdac01b121d75c18d2"), looks := true }, kinds := [], alts := [], laidByText := true, laidKinds := [.data, .data], laidTests := true, laidLooks := .later }
def ManifestPartsCardSaid : Prop := Claim7.holds Tryz.pinned (.plain (OpenSpec.ofChange manifestPartsSpec)) manifestPartsCard

/-- THE TIED CARD OF 'holdfastlaw15.ManifestBack'. -/
def manifestBackCard : Claim7 := { stood := { row := manifestBackRow, standIns := [], harness := (true, "e244ea16483c195a87a7ec9429494c909c61eae01184e1cdac01b121d75c18d2"), looks := true }, kinds := [], alts := [], laidByText := true, laidKinds := [.data, .data], laidTests := true, laidLooks := .later }
def ManifestBackCardSaid : Prop := Claim7.holds Tryz.pinned (.plain (OpenSpec.ofChange manifestBackSpec)) manifestBackCard

/-- THE SECOND FORM's CARD OF 'holdfastlaw15.ManifestParts'. -/
def manifestPartsUptoCard : Claim7 := { stood := { row := manifestPartsUptoRow, standIns := [], harness := (true, "e244ea16483c195a87a7ec9429494c909c61eae01184e1cdac01b121d75c18d2"), looks := true }, kinds := [], alts := [], laidByText := true, laidKinds := [.data, .data], laidTests := true, laidLooks := .later }
def ManifestPartsUptoCardSaid : Prop := Claim7.holds Tryz.pinned (.plain (OpenSpec.upto manifestPartsSpec)) manifestPartsUptoCard

/-- THE SECOND FORM's CARD OF 'holdfastlaw15.ManifestBack'. -/
def manifestBackUptoCard : Claim7 := { stood := { row := manifestBackUptoRow, standIns := [], harness := (true, "e244ea16483c195a87a7ec9429494c909c61eae01184e1cdac01b121d75c18d2"), looks := true }, kinds := [], alts := [], laidByText := true, laidKinds := [.data, .data], laidTests := true, laidLooks := .later }
def ManifestBackUptoCardSaid : Prop := Claim7.holds Tryz.pinned (.plain (OpenSpec.upto manifestBackSpec)) manifestBackUptoCard
end Rows
end Go.Proofs.YtpebmmhokigglaaGreatDoor
