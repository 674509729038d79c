/-
  DERIVED. GIVEN WITH THE SEED: THE CARDS: each row of YtfgangkpebkicaaDoorRows.lean that lists a variable, with what it lists TIED to the program's text (the seventh form; the later family's looks); each row that meets fmt, with fmt's text TOLD by the authors' own Lean function (tested against real Go, not proved from fmt's source: count such statements apart). THE CARD IS WHAT COUNTS. Prove the row's statement (the work); the ties are given (YtfgangkpebkicaaDoorTie.lean); close each card by the builder's one call (the guide's Derived/Test/ToyasCard.lean, 'card_holds'). Laid BY PROGRAM, IN A SANDBOX (cutbox-door.mjs). By AI agents, Wed Nov 11 2026. No macro, syntax, notation, axiom, sorry.
-/
import Derived.Test.YtfgangkpebkicaaDoorRows
import GoSem.ClaimSeven
namespace Go.Proofs.YtfgangkpebkicaaDoor
namespace Rows

/-- THE TIED CARD OF 'aliblaw.LocalSays'. -/
def localSaysCard : Claim7 := { stood := { row := localSaysRow, standIns := [], harness := (true, "7d2f8d03a3a0789f32db2881881f52f9d495df032ee84cf0e15962150fe22d9c"), looks := false }, kinds := [], alts := [], laidByText := true, laidKinds := [.data, .data, .data], laidTests := true, laidLooks := .later }
def LocalSaysCardSaid : Prop := Claim7.holds Tryd.pinned (.plain (OpenSpec.ofChange localSaysSpec)) localSaysCard

/-- THE TIED CARD OF 'aliblaw.LocalJoins'. -/
def localJoinsCard : Claim7 := { stood := { row := localJoinsRow, standIns := [], harness := (true, "7d2f8d03a3a0789f32db2881881f52f9d495df032ee84cf0e15962150fe22d9c"), looks := false }, kinds := [], alts := [], laidByText := true, laidKinds := [.data], laidTests := true, laidLooks := .later }
def LocalJoinsCardSaid : Prop := Claim7.holds Tryd.pinned (.plain (OpenSpec.ofChange localJoinsSpec)) localJoinsCard

/-- THE TIED CARD OF 'alibkeep.BagsSearch'. -/
def bagsSearchCard : Claim7 := { stood := { row := bagsSearchRow, standIns := [], harness := (true, "7d2f8d03a3a0789f32db2881881f52f9d495df032ee84cf0e15962150fe22d9c"), looks := false }, kinds := [], alts := [], laidByText := true, laidKinds := [.data, .data, .data], laidTests := true, laidLooks := .later }
def BagsSearchCardSaid : Prop := Claim7.holds Tryd.pinned (.plain (OpenSpec.ofChange bagsSearchSpec)) bagsSearchCard

/-- THE SECOND FORM's CARD OF 'aliblaw.LocalSays'. -/
def localSaysUptoCard : Claim7 := { stood := { row := localSaysUptoRow, standIns := [], harness := (true, "7d2f8d03a3a0789f32db2881881f52f9d495df032ee84cf0e15962150fe22d9c"), looks := false }, kinds := [], alts := [], laidByText := true, laidKinds := [.data, .data, .data], laidTests := true, laidLooks := .later }
def LocalSaysUptoCardSaid : Prop := Claim7.holds Tryd.pinned (.plain (OpenSpec.upto localSaysSpec)) localSaysUptoCard

/-- THE SECOND FORM's CARD OF 'aliblaw.LocalJoins'. -/
def localJoinsUptoCard : Claim7 := { stood := { row := localJoinsUptoRow, standIns := [], harness := (true, "7d2f8d03a3a0789f32db2881881f52f9d495df032ee84cf0e15962150fe22d9c"), looks := false }, kinds := [], alts := [], laidByText := true, laidKinds := [.data], laidTests := true, laidLooks := .later }
def LocalJoinsUptoCardSaid : Prop := Claim7.holds Tryd.pinned (.plain (OpenSpec.upto localJoinsSpec)) localJoinsUptoCard

/-- THE SECOND FORM's CARD OF 'alibkeep.BagsSearch'. -/
def bagsSearchUptoCard : Claim7 := { stood := { row := bagsSearchUptoRow, standIns := [], harness := (true, "7d2f8d03a3a0789f32db2881881f52f9d495df032ee84cf0e15962150fe22d9c"), looks := false }, kinds := [], alts := [], laidByText := true, laidKinds := [.data, .data, .data], laidTests := true, laidLooks := .later }
def BagsSearchUptoCardSaid : Prop := Claim7.holds Tryd.pinned (.plain (OpenSpec.upto bagsSearchSpec)) bagsSearchUptoCard
end Rows
end Go.Proofs.YtfgangkpebkicaaDoor
