/-
  DERIVED. GIVEN WITH THE SEED: THE CARDS: each row of YtbcgjebdodaaoaaDoorRows.lean that lists a variable, with what it lists TIED to the program's text (the seventh form; the later family's looks); each row that meets fmt, with fmt's text TOLD by the authors' own Lean function (tested against real Go, not proved from fmt's source: count such statements apart). THE CARD IS WHAT COUNTS. Prove the row's statement (the work); the ties are given (YtbcgjebdodaaoaaDoorTie.lean); close each card by the builder's one call (the guide's Derived/Test/ToyasCard.lean, 'card_holds'). Laid BY PROGRAM, IN A SANDBOX (cutbox-door.mjs). By AI agents, Wed Nov 11 2026. No macro, syntax, notation, axiom, sorry.
-/
import Derived.Test.YtbcgjebdodaaoaaDoorRows
import GoSem.ClaimSeven
namespace Go.Proofs.YtbcgjebdodaaoaaDoor
namespace Rows

/-- THE TIED CARD OF 'alibkeep.OrderClosed'. -/
def orderClosedCard : Claim7 := { stood := { row := orderClosedRow, standIns := [], harness := (true, "54a2d39bf9af6f597dcd221f95d275c5a53ae7ffaa81ed4af40e82a965660239"), looks := false }, kinds := [], alts := [], laidByText := true, laidKinds := [.data], laidTests := true, laidLooks := .later }
def OrderClosedCardSaid : Prop := Claim7.holds Tryd.pinned (.plain (OpenSpec.ofChange orderClosedSpec)) orderClosedCard

/-- THE TIED CARD OF 'alibkeep.OrderSplits'. -/
def orderSplitsCard : Claim7 := { stood := { row := orderSplitsRow, standIns := [], harness := (true, "54a2d39bf9af6f597dcd221f95d275c5a53ae7ffaa81ed4af40e82a965660239"), looks := false }, kinds := [], alts := [], laidByText := true, laidKinds := [.data], laidTests := true, laidLooks := .later }
def OrderSplitsCardSaid : Prop := Claim7.holds Tryd.pinned (.plain (OpenSpec.ofChange orderSplitsSpec)) orderSplitsCard

/-- THE TIED CARD OF 'aliblaw.OrderSays'. -/
def orderSaysCard : Claim7 := { stood := { row := orderSaysRow, standIns := [], harness := (true, "54a2d39bf9af6f597dcd221f95d275c5a53ae7ffaa81ed4af40e82a965660239"), looks := false }, kinds := [], alts := [], laidByText := true, laidKinds := [.data], laidTests := true, laidLooks := .later }
def OrderSaysCardSaid : Prop := Claim7.holds Tryd.pinned (.plain (OpenSpec.ofChange orderSaysSpec)) orderSaysCard

/-- THE TIED CARD OF 'aliblaw.OrderLists'. -/
def orderListsCard : Claim7 := { stood := { row := orderListsRow, standIns := [], harness := (true, "54a2d39bf9af6f597dcd221f95d275c5a53ae7ffaa81ed4af40e82a965660239"), looks := false }, kinds := [], alts := [], laidByText := true, laidKinds := [.data], laidTests := true, laidLooks := .later }
def OrderListsCardSaid : Prop := Claim7.holds Tryd.pinned (.plain (OpenSpec.ofChange orderListsSpec)) orderListsCard

/-- THE TIED CARD OF 'alibkeep.OrderSzpilrajn'. -/
def orderSzpilrajnCard : Claim7 := { stood := { row := orderSzpilrajnRow, standIns := [], harness := (true, "54a2d39bf9af6f597dcd221f95d275c5a53ae7ffaa81ed4af40e82a965660239"), looks := false }, kinds := [], alts := [], laidByText := true, laidKinds := [.data], laidTests := true, laidLooks := .later }
def OrderSzpilrajnCardSaid : Prop := Claim7.holds Tryd.pinned (.plain (OpenSpec.ofChange orderSzpilrajnSpec)) orderSzpilrajnCard

/-- THE TIED CARD OF 'alibkeep.OrderMirsky'. -/
def orderMirskyCard : Claim7 := { stood := { row := orderMirskyRow, standIns := [], harness := (true, "54a2d39bf9af6f597dcd221f95d275c5a53ae7ffaa81ed4af40e82a965660239"), looks := false }, kinds := [], alts := [], laidByText := true, laidKinds := [.data], laidTests := true, laidLooks := .later }
def OrderMirskyCardSaid : Prop := Claim7.holds Tryd.pinned (.plain (OpenSpec.ofChange orderMirskySpec)) orderMirskyCard

/-- THE TIED CARD OF 'alibkeep.OrderDilworth'. -/
def orderDilworthCard : Claim7 := { stood := { row := orderDilworthRow, standIns := [], harness := (true, "54a2d39bf9af6f597dcd221f95d275c5a53ae7ffaa81ed4af40e82a965660239"), looks := false }, kinds := [], alts := [], laidByText := true, laidKinds := [.data], laidTests := true, laidLooks := .later }
def OrderDilworthCardSaid : Prop := Claim7.holds Tryd.pinned (.plain (OpenSpec.ofChange orderDilworthSpec)) orderDilworthCard

/-- THE TIED CARD OF 'alibkeep.OrderProduct'. -/
def orderProductCard : Claim7 := { stood := { row := orderProductRow, standIns := [], harness := (true, "54a2d39bf9af6f597dcd221f95d275c5a53ae7ffaa81ed4af40e82a965660239"), looks := false }, kinds := [], alts := [], laidByText := true, laidKinds := [.data], laidTests := true, laidLooks := .later }
def OrderProductCardSaid : Prop := Claim7.holds Tryd.pinned (.plain (OpenSpec.ofChange orderProductSpec)) orderProductCard

/-- THE SECOND FORM's CARD OF 'alibkeep.OrderClosed'. -/
def orderClosedUptoCard : Claim7 := { stood := { row := orderClosedUptoRow, standIns := [], harness := (true, "54a2d39bf9af6f597dcd221f95d275c5a53ae7ffaa81ed4af40e82a965660239"), looks := false }, kinds := [], alts := [], laidByText := true, laidKinds := [.data], laidTests := true, laidLooks := .later }
def OrderClosedUptoCardSaid : Prop := Claim7.holds Tryd.pinned (.plain (OpenSpec.upto orderClosedSpec)) orderClosedUptoCard

/-- THE SECOND FORM's CARD OF 'alibkeep.OrderSplits'. -/
def orderSplitsUptoCard : Claim7 := { stood := { row := orderSplitsUptoRow, standIns := [], harness := (true, "54a2d39bf9af6f597dcd221f95d275c5a53ae7ffaa81ed4af40e82a965660239"), looks := false }, kinds := [], alts := [], laidByText := true, laidKinds := [.data], laidTests := true, laidLooks := .later }
def OrderSplitsUptoCardSaid : Prop := Claim7.holds Tryd.pinned (.plain (OpenSpec.upto orderSplitsSpec)) orderSplitsUptoCard

/-- THE SECOND FORM's CARD OF 'aliblaw.OrderSays'. -/
def orderSaysUptoCard : Claim7 := { stood := { row := orderSaysUptoRow, standIns := [], harness := (true, "54a2d39bf9af6f597dcd221f95d275c5a53ae7ffaa81ed4af40e82a965660239"), looks := false }, kinds := [], alts := [], laidByText := true, laidKinds := [.data], laidTests := true, laidLooks := .later }
def OrderSaysUptoCardSaid : Prop := Claim7.holds Tryd.pinned (.plain (OpenSpec.upto orderSaysSpec)) orderSaysUptoCard

/-- THE SECOND FORM's CARD OF 'aliblaw.OrderLists'. -/
def orderListsUptoCard : Claim7 := { stood := { row := orderListsUptoRow, standIns := [], harness := (true, "54a2d39bf9af6f597dcd221f95d275c5a53ae7ffaa81ed4af40e82a965660239"), looks := false }, kinds := [], alts := [], laidByText := true, laidKinds := [.data], laidTests := true, laidLooks := .later }
def OrderListsUptoCardSaid : Prop := Claim7.holds Tryd.pinned (.plain (OpenSpec.upto orderListsSpec)) orderListsUptoCard

/-- THE SECOND FORM's CARD OF 'alibkeep.OrderSzpilrajn'. -/
def orderSzpilrajnUptoCard : Claim7 := { stood := { row := orderSzpilrajnUptoRow, standIns := [], harness := (true, "54a2d39bf9af6f597dcd221f95d275c5a53ae7ffaa81ed4af40e82a965660239"), looks := false }, kinds := [], alts := [], laidByText := true, laidKinds := [.data], laidTests := true, laidLooks := .later }
def OrderSzpilrajnUptoCardSaid : Prop := Claim7.holds Tryd.pinned (.plain (OpenSpec.upto orderSzpilrajnSpec)) orderSzpilrajnUptoCard

/-- THE SECOND FORM's CARD OF 'alibkeep.OrderMirsky'. -/
def orderMirskyUptoCard : Claim7 := { stood := { row := orderMirskyUptoRow, standIns := [], harness := (true, "54a2d39bf9af6f597dcd221f95d275c5a53ae7ffaa81ed4af40e82a965660239"), looks := false }, kinds := [], alts := [], laidByText := true, laidKinds := [.data], laidTests := true, laidLooks := .later }
def OrderMirskyUptoCardSaid : Prop := Claim7.holds Tryd.pinned (.plain (OpenSpec.upto orderMirskySpec)) orderMirskyUptoCard

/-- THE SECOND FORM's CARD OF 'alibkeep.OrderDilworth'. -/
def orderDilworthUptoCard : Claim7 := { stood := { row := orderDilworthUptoRow, standIns := [], harness := (true, "54a2d39bf9af6f597dcd221f95d275c5a53ae7ffaa81ed4af40e82a965660239"), looks := false }, kinds := [], alts := [], laidByText := true, laidKinds := [.data], laidTests := true, laidLooks := .later }
def OrderDilworthUptoCardSaid : Prop := Claim7.holds Tryd.pinned (.plain (OpenSpec.upto orderDilworthSpec)) orderDilworthUptoCard

/-- THE SECOND FORM's CARD OF 'alibkeep.OrderProduct'. -/
def orderProductUptoCard : Claim7 := { stood := { row := orderProductUptoRow, standIns := [], harness := (true, "54a2d39bf9af6f597dcd221f95d275c5a53ae7ffaa81ed4af40e82a965660239"), looks := false }, kinds := [], alts := [], laidByText := true, laidKinds := [.data], laidTests := true, laidLooks := .later }
def OrderProductUptoCardSaid : Prop := Claim7.holds Tryd.pinned (.plain (OpenSpec.upto orderProductSpec)) orderProductUptoCard
end Rows
end Go.Proofs.YtbcgjebdodaaoaaDoor
