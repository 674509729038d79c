/-
  DERIVED. GIVEN WITH THE SEED: THE CARDS: each row of YthjmncngegchjaaGreatDoorRows.lean that lists a variable, with what it lists TIED to the program's text (the seventh form; the later family's looks); each row that meets fmt, with fmt's text TOLD by the authors' own Lean function (tested against real Go, not proved from fmt's source: count such statements apart). THE CARD IS WHAT COUNTS. Prove the row's statement (the work); the ties are given (YthjmncngegchjaaGreatDoorTie.lean); close each card by the builder's one call (the guide's Derived/Test/ToyasCard.lean, 'card_holds'). Laid BY PROGRAM, IN A SANDBOX (cutbox-door.mjs). By AI agents, Wed Nov 11 2026. No macro, syntax, notation, axiom, sorry.
-/
import Derived.Test.YthjmncngegchjaaGreatDoorRows
import GoSem.ClaimSeven
namespace Go.Proofs.YthjmncngegchjaaGreatDoor
namespace Rows

/-- THE TIED CARD OF 'alibkeep.RowsSearch'. -/
def rowsSearchCard : Claim7 := { stood := { row := rowsSearchRow, standIns := [], harness := (true, "49619a4d3df5fb00f94277df58d9617a9ad53b7df39a051186f8305f010b53c1"), looks := false }, kinds := [], alts := [], laidByText := true, laidKinds := [.data, .data, .data], laidTests := true, laidLooks := .later }
def RowsSearchCardSaid : Prop := Claim7.holds Tryz.pinned (.plain (OpenSpec.ofChange rowsSearchSpec)) rowsSearchCard

/-- THE SECOND FORM's CARD OF 'alibkeep.RowsSearch'. -/
def rowsSearchUptoCard : Claim7 := { stood := { row := rowsSearchUptoRow, standIns := [], harness := (true, "49619a4d3df5fb00f94277df58d9617a9ad53b7df39a051186f8305f010b53c1"), looks := false }, kinds := [], alts := [], laidByText := true, laidKinds := [.data, .data, .data], laidTests := true, laidLooks := .later }
def RowsSearchUptoCardSaid : Prop := Claim7.holds Tryz.pinned (.plain (OpenSpec.upto rowsSearchSpec)) rowsSearchUptoCard
end Rows
end Go.Proofs.YthjmncngegchjaaGreatDoor
