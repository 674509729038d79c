/-
  DERIVED. GIVEN WITH THE SEED: THE CARDS: each row of YtfgangkpebkicaaGreatDoorRows.lean that lists a variable, with what it lists TIED to the program's text (the seventh form; the later family's looks); each row that meets fmt, with fmt's text TOLD by the authors' own Lean function (tested against real Go, not proved from fmt's source: count such statements apart). THE CARD IS WHAT COUNTS. Prove the row's statement (the work); the ties are given (YtfgangkpebkicaaGreatDoorTie.lean); close each card by the builder's one call (the guide's Derived/Test/ToyasCard.lean, 'card_holds'). Laid BY PROGRAM, IN A SANDBOX (cutbox-door.mjs). By AI agents, Wed Nov 11 2026. No macro, syntax, notation, axiom, sorry.
-/
import Derived.Test.YtfgangkpebkicaaGreatDoorRows
import GoSem.ClaimSeven
namespace Go.Proofs.YtfgangkpebkicaaGreatDoor
namespace Rows

/-- THE TIED CARD OF 'aliblaw.BagsSay'. -/
def bagsSayCard : Claim7 := { stood := { row := bagsSayRow, standIns := [], harness := (true, "3dd84efaa4722262a52df638af1165ef8db4035acc1c0a4afb0646ce9db35abd"), looks := false }, kinds := [], alts := [], laidByText := true, laidKinds := [.data, .data, .data], laidTests := true, laidLooks := .later }
def BagsSayCardSaid : Prop := Claim7.holds Tryz.pinned (.plain (OpenSpec.ofChange bagsSaySpec)) bagsSayCard

/-- THE TIED CARD OF 'alibkeep.BagsOwn'. -/
def bagsOwnCard : Claim7 := { stood := { row := bagsOwnRow, standIns := [], harness := (true, "3dd84efaa4722262a52df638af1165ef8db4035acc1c0a4afb0646ce9db35abd"), looks := false }, kinds := [], alts := [], laidByText := true, laidKinds := [.data, .data, .data], laidTests := true, laidLooks := .later }
def BagsOwnCardSaid : Prop := Claim7.holds Tryz.pinned (.plain (OpenSpec.ofChange bagsOwnSpec)) bagsOwnCard

/-- THE TIED CARD OF 'alibkeep.BagsNames'. -/
def bagsNamesCard : Claim7 := { stood := { row := bagsNamesRow, standIns := [], harness := (true, "3dd84efaa4722262a52df638af1165ef8db4035acc1c0a4afb0646ce9db35abd"), looks := false }, kinds := [], alts := [], laidByText := true, laidKinds := [.data, .data, .data], laidTests := true, laidLooks := .later }
def BagsNamesCardSaid : Prop := Claim7.holds Tryz.pinned (.plain (OpenSpec.ofChange bagsNamesSpec)) bagsNamesCard

/-- THE SECOND FORM's CARD OF 'aliblaw.BagsSay'. -/
def bagsSayUptoCard : Claim7 := { stood := { row := bagsSayUptoRow, standIns := [], harness := (true, "3dd84efaa4722262a52df638af1165ef8db4035acc1c0a4afb0646ce9db35abd"), looks := false }, kinds := [], alts := [], laidByText := true, laidKinds := [.data, .data, .data], laidTests := true, laidLooks := .later }
def BagsSayUptoCardSaid : Prop := Claim7.holds Tryz.pinned (.plain (OpenSpec.upto bagsSaySpec)) bagsSayUptoCard

/-- THE SECOND FORM's CARD OF 'alibkeep.BagsOwn'. -/
def bagsOwnUptoCard : Claim7 := { stood := { row := bagsOwnUptoRow, standIns := [], harness := (true, "3dd84efaa4722262a52df638af1165ef8db4035acc1c0a4afb0646ce9db35abd"), looks := false }, kinds := [], alts := [], laidByText := true, laidKinds := [.data, .data, .data], laidTests := true, laidLooks := .later }
def BagsOwnUptoCardSaid : Prop := Claim7.holds Tryz.pinned (.plain (OpenSpec.upto bagsOwnSpec)) bagsOwnUptoCard

/-- THE SECOND FORM's CARD OF 'alibkeep.BagsNames'. -/
def bagsNamesUptoCard : Claim7 := { stood := { row := bagsNamesUptoRow, standIns := [], harness := (true, "3dd84efaa4722262a52df638af1165ef8db4035acc1c0a4afb0646ce9db35abd"), looks := false }, kinds := [], alts := [], laidByText := true, laidKinds := [.data, .data, .data], laidTests := true, laidLooks := .later }
def BagsNamesUptoCardSaid : Prop := Claim7.holds Tryz.pinned (.plain (OpenSpec.upto bagsNamesSpec)) bagsNamesUptoCard
end Rows
end Go.Proofs.YtfgangkpebkicaaGreatDoor
