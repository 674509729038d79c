/-
  DERIVED. GIVEN WITH THE SEED: THE CARDS: each row of YtphhbojdolhieaaGreatDoorRows.lean that lists a variable, with what it lists TIED to the program's text (the seventh form; the later family's looks); each row that meets fmt, with fmt's text TOLD by the authors' own Lean function (tested against real Go, not proved from fmt's source: count such statements apart). THE CARD IS WHAT COUNTS. Prove the row's statement (the work); the ties are given (YtphhbojdolhieaaGreatDoorTie.lean); close each card by the builder's one call (the guide's Derived/Test/ToyasCard.lean, 'card_holds'). Laid BY PROGRAM, IN A SANDBOX (cutbox-door.mjs). By AI agents, Wed Nov 11 2026. No macro, syntax, notation, axiom, sorry.
-/
import Derived.Test.YtphhbojdolhieaaGreatDoorRows
import GoSem.ClaimSeven
namespace Go.Proofs.YtphhbojdolhieaaGreatDoor
namespace Rows

/-- THE TIED CARD OF 'alibkeep.ZonesSearch'. -/
def zonesSearchCard : Claim7 := { stood := { row := zonesSearchRow, standIns := [], harness := (true, "02ee076aafd94d6f02acd4e799860e95020abe96bf2ba2be2eba1b2b46e207c4"), looks := false }, kinds := [], alts := [], laidByText := true, laidKinds := [.data, .data, .data], laidTests := true, laidLooks := .later }
def ZonesSearchCardSaid : Prop := Claim7.holds Tryz.pinned (.plain (OpenSpec.ofChange zonesSearchSpec)) zonesSearchCard

/-- THE SECOND FORM's CARD OF 'alibkeep.ZonesSearch'. -/
def zonesSearchUptoCard : Claim7 := { stood := { row := zonesSearchUptoRow, standIns := [], harness := (true, "02ee076aafd94d6f02acd4e799860e95020abe96bf2ba2be2eba1b2b46e207c4"), looks := false }, kinds := [], alts := [], laidByText := true, laidKinds := [.data, .data, .data], laidTests := true, laidLooks := .later }
def ZonesSearchUptoCardSaid : Prop := Claim7.holds Tryz.pinned (.plain (OpenSpec.upto zonesSearchSpec)) zonesSearchUptoCard
end Rows
end Go.Proofs.YtphhbojdolhieaaGreatDoor
