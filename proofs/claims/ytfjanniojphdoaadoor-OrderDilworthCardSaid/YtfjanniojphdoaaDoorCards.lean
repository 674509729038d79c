/-
  DERIVED. GIVEN WITH THE SEED: THE CARDS: each row of YtfjanniojphdoaaDoorRows.lean that lists a variable, with what it lists TIED to the program's text (the seventh form; the later family's looks); each row that meets fmt, with fmt's text TOLD by the authors' own Lean function (tested against real Go, not proved from fmt's source: count such statements apart). THE CARD IS WHAT COUNTS. Prove the row's statement (the work); the ties are given (YtfjanniojphdoaaDoorTie.lean); close each card by the builder's one call (the guide's Derived/Test/ToyasCard.lean, 'card_holds'). Laid BY PROGRAM, IN A SANDBOX (cutbox-door.mjs). By AI agents, Wed Nov 11 2026. No macro, syntax, notation, axiom, sorry.
-/
import Derived.Test.YtfjanniojphdoaaDoorRows
import GoSem.ClaimSeven
namespace Go.Proofs.YtfjanniojphdoaaDoor
namespace Rows

/-- THE TIED CARD OF 'aliblaw.OrderSays'. -/
def orderSaysCard : Claim7 := { stood := { row := orderSaysRow, standIns := [], harness := (true, "215364339f2eb61a980c401d1632c4fd1e5fe0c0185ca7dcc3ca559b7bf1a577"), looks := false }, kinds := [], alts := [], laidByText := true, laidKinds := [.data], laidTests := true, laidLooks := .later }
def OrderSaysCardSaid : Prop := Claim7.holds Tryd.pinned (.plain (OpenSpec.ofChange orderSaysSpec)) orderSaysCard

/-- THE TIED CARD OF 'aliblaw.OrderLists'. -/
def orderListsCard : Claim7 := { stood := { row := orderListsRow, standIns := [], harness := (true, "215364339f2eb61a980c401d1632c4fd1e5fe0c0185ca7dcc3ca559b7bf1a577"), looks := false }, kinds := [], alts := [], laidByText := true, laidKinds := [.data], laidTests := true, laidLooks := .later }
def OrderListsCardSaid : Prop := Claim7.holds Tryd.pinned (.plain (OpenSpec.ofChange orderListsSpec)) orderListsCard

/-- THE TIED CARD OF 'alibkeep.OrderDilworth'. -/
def orderDilworthCard : Claim7 := { stood := { row := orderDilworthRow, standIns := [], harness := (true, "215364339f2eb61a980c401d1632c4fd1e5fe0c0185ca7dcc3ca559b7bf1a577"), looks := false }, kinds := [], alts := [], laidByText := true, laidKinds := [.data], laidTests := true, laidLooks := .later }
def OrderDilworthCardSaid : Prop := Claim7.holds Tryd.pinned (.plain (OpenSpec.ofChange orderDilworthSpec)) orderDilworthCard

/-- THE TIED CARD OF 'alibkeep.SpansHelly'. -/
def spansHellyCard : Claim7 := { stood := { row := spansHellyRow, standIns := [], harness := (true, "215364339f2eb61a980c401d1632c4fd1e5fe0c0185ca7dcc3ca559b7bf1a577"), looks := false }, kinds := [], alts := [], laidByText := true, laidKinds := [.data], laidTests := true, laidLooks := .later }
def SpansHellyCardSaid : Prop := Claim7.holds Tryd.pinned (.plain (OpenSpec.ofChange spansHellySpec)) spansHellyCard

/-- THE SECOND FORM's CARD OF 'aliblaw.OrderSays'. -/
def orderSaysUptoCard : Claim7 := { stood := { row := orderSaysUptoRow, standIns := [], harness := (true, "215364339f2eb61a980c401d1632c4fd1e5fe0c0185ca7dcc3ca559b7bf1a577"), looks := false }, kinds := [], alts := [], laidByText := true, laidKinds := [.data], laidTests := true, laidLooks := .later }
def OrderSaysUptoCardSaid : Prop := Claim7.holds Tryd.pinned (.plain (OpenSpec.upto orderSaysSpec)) orderSaysUptoCard

/-- THE SECOND FORM's CARD OF 'aliblaw.OrderLists'. -/
def orderListsUptoCard : Claim7 := { stood := { row := orderListsUptoRow, standIns := [], harness := (true, "215364339f2eb61a980c401d1632c4fd1e5fe0c0185ca7dcc3ca559b7bf1a577"), looks := false }, kinds := [], alts := [], laidByText := true, laidKinds := [.data], laidTests := true, laidLooks := .later }
def OrderListsUptoCardSaid : Prop := Claim7.holds Tryd.pinned (.plain (OpenSpec.upto orderListsSpec)) orderListsUptoCard

/-- THE SECOND FORM's CARD OF 'alibkeep.OrderDilworth'. -/
def orderDilworthUptoCard : Claim7 := { stood := { row := orderDilworthUptoRow, standIns := [], harness := (true, "215364339f2eb61a980c401d1632c4fd1e5fe0c0185ca7dcc3ca559b7bf1a577"), looks := false }, kinds := [], alts := [], laidByText := true, laidKinds := [.data], laidTests := true, laidLooks := .later }
def OrderDilworthUptoCardSaid : Prop := Claim7.holds Tryd.pinned (.plain (OpenSpec.upto orderDilworthSpec)) orderDilworthUptoCard

/-- THE SECOND FORM's CARD OF 'alibkeep.SpansHelly'. -/
def spansHellyUptoCard : Claim7 := { stood := { row := spansHellyUptoRow, standIns := [], harness := (true, "215364339f2eb61a980c401d1632c4fd1e5fe0c0185ca7dcc3ca559b7bf1a577"), looks := false }, kinds := [], alts := [], laidByText := true, laidKinds := [.data], laidTests := true, laidLooks := .later }
def SpansHellyUptoCardSaid : Prop := Claim7.holds Tryd.pinned (.plain (OpenSpec.upto spansHellySpec)) spansHellyUptoCard
end Rows
end Go.Proofs.YtfjanniojphdoaaDoor
