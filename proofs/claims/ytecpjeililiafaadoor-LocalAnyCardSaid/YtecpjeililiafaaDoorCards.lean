/-
  DERIVED. GIVEN WITH THE SEED: THE CARDS: each row of YtecpjeililiafaaDoorRows.lean that lists a variable, with what it lists TIED to the program's text (the seventh form; the later family's looks); each row that meets fmt, with fmt's text TOLD by the authors' own Lean function (tested against real Go, not proved from fmt's source: count such statements apart). THE CARD IS WHAT COUNTS. Prove the row's statement (the work); the ties are given (YtecpjeililiafaaDoorTie.lean); close each card by the builder's one call (the guide's Derived/Test/ToyasCard.lean, 'card_holds'). Laid BY PROGRAM, IN A SANDBOX (cutbox-door.mjs). By AI agents, Wed Nov 11 2026. No macro, syntax, notation, axiom, sorry.
-/
import Derived.Test.YtecpjeililiafaaDoorRows
import GoSem.ClaimSeven
namespace Go.Proofs.YtecpjeililiafaaDoor
namespace Rows

/-- THE TIED CARD OF 'aliblaw.SearchSays'. -/
def searchSaysCard : Claim7 := { stood := { row := searchSaysRow, standIns := [], harness := (true, "c2736c6e0dce9edacb8d75cd3f925fc5130533006ae41b0b8c08165644c5a9a6"), looks := false }, kinds := [], alts := [], laidByText := true, laidKinds := [.data, .data, .data], laidTests := true, laidLooks := .later }
def SearchSaysCardSaid : Prop := Claim7.holds Tryd.pinned (.plain (OpenSpec.ofChange searchSaysSpec)) searchSaysCard

/-- THE TIED CARD OF 'aliblaw.LocalSays'. -/
def localSaysCard : Claim7 := { stood := { row := localSaysRow, standIns := [], harness := (true, "c2736c6e0dce9edacb8d75cd3f925fc5130533006ae41b0b8c08165644c5a9a6"), looks := false }, kinds := [], alts := [], laidByText := true, laidKinds := [.data, .data, .data], laidTests := true, laidLooks := .later }
def LocalSaysCardSaid : Prop := Claim7.holds Tryd.pinned (.plain (OpenSpec.ofChange localSaysSpec)) localSaysCard

/-- THE TIED CARD OF 'aliblaw.LocalJoins'. -/
def localJoinsCard : Claim7 := { stood := { row := localJoinsRow, standIns := [], harness := (true, "c2736c6e0dce9edacb8d75cd3f925fc5130533006ae41b0b8c08165644c5a9a6"), looks := false }, kinds := [], alts := [], laidByText := true, laidKinds := [.data], laidTests := true, laidLooks := .later }
def LocalJoinsCardSaid : Prop := Claim7.holds Tryd.pinned (.plain (OpenSpec.ofChange localJoinsSpec)) localJoinsCard

/-- THE TIED CARD OF 'aliblaw.SeqSays'. -/
def seqSaysCard : Claim7 := { stood := { row := seqSaysRow, standIns := [], harness := (true, "c2736c6e0dce9edacb8d75cd3f925fc5130533006ae41b0b8c08165644c5a9a6"), looks := false }, kinds := [], alts := [], laidByText := true, laidKinds := [.data, .data, .data], laidTests := true, laidLooks := .later }
def SeqSaysCardSaid : Prop := Claim7.holds Tryd.pinned (.plain (OpenSpec.ofChange seqSaysSpec)) seqSaysCard

/-- THE TIED CARD OF 'aliblaw.SeqQuiet'. -/
def seqQuietCard : Claim7 := { stood := { row := seqQuietRow, standIns := [], harness := (true, "c2736c6e0dce9edacb8d75cd3f925fc5130533006ae41b0b8c08165644c5a9a6"), looks := false }, kinds := [], alts := [], laidByText := true, laidKinds := [.data, .data, .data], laidTests := true, laidLooks := .later }
def SeqQuietCardSaid : Prop := Claim7.holds Tryd.pinned (.plain (OpenSpec.ofChange seqQuietSpec)) seqQuietCard

/-- THE TIED CARD OF 'alibkeep.SearchFound'. -/
def searchFoundCard : Claim7 := { stood := { row := searchFoundRow, standIns := [], harness := (true, "c2736c6e0dce9edacb8d75cd3f925fc5130533006ae41b0b8c08165644c5a9a6"), looks := false }, kinds := [], alts := [], laidByText := true, laidKinds := [.data, .data, .data], laidTests := true, laidLooks := .later }
def SearchFoundCardSaid : Prop := Claim7.holds Tryd.pinned (.plain (OpenSpec.ofChange searchFoundSpec)) searchFoundCard

/-- THE TIED CARD OF 'alibkeep.SearchFront'. -/
def searchFrontCard : Claim7 := { stood := { row := searchFrontRow, standIns := [], harness := (true, "c2736c6e0dce9edacb8d75cd3f925fc5130533006ae41b0b8c08165644c5a9a6"), looks := false }, kinds := [], alts := [], laidByText := true, laidKinds := [.data, .data, .data], laidTests := true, laidLooks := .later }
def SearchFrontCardSaid : Prop := Claim7.holds Tryd.pinned (.plain (OpenSpec.ofChange searchFrontSpec)) searchFrontCard

/-- THE TIED CARD OF 'alibkeep.SearchNever'. -/
def searchNeverCard : Claim7 := { stood := { row := searchNeverRow, standIns := [], harness := (true, "c2736c6e0dce9edacb8d75cd3f925fc5130533006ae41b0b8c08165644c5a9a6"), looks := false }, kinds := [], alts := [], laidByText := true, laidKinds := [.data, .data, .data], laidTests := true, laidLooks := .later }
def SearchNeverCardSaid : Prop := Claim7.holds Tryd.pinned (.plain (OpenSpec.ofChange searchNeverSpec)) searchNeverCard

/-- THE TIED CARD OF 'alibkeep.SearchLater'. -/
def searchLaterCard : Claim7 := { stood := { row := searchLaterRow, standIns := [], harness := (true, "c2736c6e0dce9edacb8d75cd3f925fc5130533006ae41b0b8c08165644c5a9a6"), looks := false }, kinds := [], alts := [], laidByText := true, laidKinds := [.data, .data, .data], laidTests := true, laidLooks := .later }
def SearchLaterCardSaid : Prop := Claim7.holds Tryd.pinned (.plain (OpenSpec.ofChange searchLaterSpec)) searchLaterCard

/-- THE TIED CARD OF 'alibkeep.SearchAlone'. -/
def searchAloneCard : Claim7 := { stood := { row := searchAloneRow, standIns := [], harness := (true, "c2736c6e0dce9edacb8d75cd3f925fc5130533006ae41b0b8c08165644c5a9a6"), looks := false }, kinds := [], alts := [], laidByText := true, laidKinds := [.data, .data, .data], laidTests := true, laidLooks := .later }
def SearchAloneCardSaid : Prop := Claim7.holds Tryd.pinned (.plain (OpenSpec.ofChange searchAloneSpec)) searchAloneCard

/-- THE TIED CARD OF 'alibkeep.LocalWhole'. -/
def localWholeCard : Claim7 := { stood := { row := localWholeRow, standIns := [], harness := (true, "c2736c6e0dce9edacb8d75cd3f925fc5130533006ae41b0b8c08165644c5a9a6"), looks := false }, kinds := [], alts := [], laidByText := true, laidKinds := [.data, .data, .data], laidTests := true, laidLooks := .later }
def LocalWholeCardSaid : Prop := Claim7.holds Tryd.pinned (.plain (OpenSpec.ofChange localWholeSpec)) localWholeCard

/-- THE TIED CARD OF 'alibkeep.LocalJoined'. -/
def localJoinedCard : Claim7 := { stood := { row := localJoinedRow, standIns := [], harness := (true, "c2736c6e0dce9edacb8d75cd3f925fc5130533006ae41b0b8c08165644c5a9a6"), looks := false }, kinds := [], alts := [], laidByText := true, laidKinds := [.data, .data, .data], laidTests := true, laidLooks := .later }
def LocalJoinedCardSaid : Prop := Claim7.holds Tryd.pinned (.plain (OpenSpec.ofChange localJoinedSpec)) localJoinedCard

/-- THE TIED CARD OF 'alibkeep.LocalAny'. -/
def localAnyCard : Claim7 := { stood := { row := localAnyRow, standIns := [], harness := (true, "c2736c6e0dce9edacb8d75cd3f925fc5130533006ae41b0b8c08165644c5a9a6"), looks := false }, kinds := [], alts := [], laidByText := true, laidKinds := [.data, .data, .data], laidTests := true, laidLooks := .later }
def LocalAnyCardSaid : Prop := Claim7.holds Tryd.pinned (.plain (OpenSpec.ofChange localAnySpec)) localAnyCard

/-- THE TIED CARD OF 'alibkeep.SeqApart'. -/
def seqApartCard : Claim7 := { stood := { row := seqApartRow, standIns := [], harness := (true, "c2736c6e0dce9edacb8d75cd3f925fc5130533006ae41b0b8c08165644c5a9a6"), looks := false }, kinds := [], alts := [], laidByText := true, laidKinds := [.data, .data, .data], laidTests := true, laidLooks := .later }
def SeqApartCardSaid : Prop := Claim7.holds Tryd.pinned (.plain (OpenSpec.ofChange seqApartSpec)) seqApartCard

/-- THE TIED CARD OF 'alibkeep.SeqWeaker'. -/
def seqWeakerCard : Claim7 := { stood := { row := seqWeakerRow, standIns := [], harness := (true, "c2736c6e0dce9edacb8d75cd3f925fc5130533006ae41b0b8c08165644c5a9a6"), looks := false }, kinds := [], alts := [], laidByText := true, laidKinds := [.data, .data, .data], laidTests := true, laidLooks := .later }
def SeqWeakerCardSaid : Prop := Claim7.holds Tryd.pinned (.plain (OpenSpec.ofChange seqWeakerSpec)) seqWeakerCard

/-- THE TIED CARD OF 'alibkeep.SeqMoves'. -/
def seqMovesCard : Claim7 := { stood := { row := seqMovesRow, standIns := [], harness := (true, "c2736c6e0dce9edacb8d75cd3f925fc5130533006ae41b0b8c08165644c5a9a6"), looks := false }, kinds := [], alts := [], laidByText := true, laidKinds := [.data, .data, .data], laidTests := true, laidLooks := .later }
def SeqMovesCardSaid : Prop := Claim7.holds Tryd.pinned (.plain (OpenSpec.ofChange seqMovesSpec)) seqMovesCard

/-- THE TIED CARD OF 'alibkeep.SeqOrdered'. -/
def seqOrderedCard : Claim7 := { stood := { row := seqOrderedRow, standIns := [], harness := (true, "c2736c6e0dce9edacb8d75cd3f925fc5130533006ae41b0b8c08165644c5a9a6"), looks := false }, kinds := [], alts := [], laidByText := true, laidKinds := [.data, .data, .data], laidTests := true, laidLooks := .later }
def SeqOrderedCardSaid : Prop := Claim7.holds Tryd.pinned (.plain (OpenSpec.ofChange seqOrderedSpec)) seqOrderedCard

/-- THE TIED CARD OF 'alibkeep.SeqCalm'. -/
def seqCalmCard : Claim7 := { stood := { row := seqCalmRow, standIns := [], harness := (true, "c2736c6e0dce9edacb8d75cd3f925fc5130533006ae41b0b8c08165644c5a9a6"), looks := false }, kinds := [], alts := [], laidByText := true, laidKinds := [.data, .data, .data], laidTests := true, laidLooks := .later }
def SeqCalmCardSaid : Prop := Claim7.holds Tryd.pinned (.plain (OpenSpec.ofChange seqCalmSpec)) seqCalmCard

/-- THE SECOND FORM's CARD OF 'aliblaw.SearchSays'. -/
def searchSaysUptoCard : Claim7 := { stood := { row := searchSaysUptoRow, standIns := [], harness := (true, "c2736c6e0dce9edacb8d75cd3f925fc5130533006ae41b0b8c08165644c5a9a6"), looks := false }, kinds := [], alts := [], laidByText := true, laidKinds := [.data, .data, .data], laidTests := true, laidLooks := .later }
def SearchSaysUptoCardSaid : Prop := Claim7.holds Tryd.pinned (.plain (OpenSpec.upto searchSaysSpec)) searchSaysUptoCard

/-- THE SECOND FORM's CARD OF 'aliblaw.LocalSays'. -/
def localSaysUptoCard : Claim7 := { stood := { row := localSaysUptoRow, standIns := [], harness := (true, "c2736c6e0dce9edacb8d75cd3f925fc5130533006ae41b0b8c08165644c5a9a6"), looks := false }, kinds := [], alts := [], laidByText := true, laidKinds := [.data, .data, .data], laidTests := true, laidLooks := .later }
def LocalSaysUptoCardSaid : Prop := Claim7.holds Tryd.pinned (.plain (OpenSpec.upto localSaysSpec)) localSaysUptoCard

/-- THE SECOND FORM's CARD OF 'aliblaw.LocalJoins'. -/
def localJoinsUptoCard : Claim7 := { stood := { row := localJoinsUptoRow, standIns := [], harness := (true, "c2736c6e0dce9edacb8d75cd3f925fc5130533006ae41b0b8c08165644c5a9a6"), looks := false }, kinds := [], alts := [], laidByText := true, laidKinds := [.data], laidTests := true, laidLooks := .later }
def LocalJoinsUptoCardSaid : Prop := Claim7.holds Tryd.pinned (.plain (OpenSpec.upto localJoinsSpec)) localJoinsUptoCard

/-- THE SECOND FORM's CARD OF 'aliblaw.SeqSays'. -/
def seqSaysUptoCard : Claim7 := { stood := { row := seqSaysUptoRow, standIns := [], harness := (true, "c2736c6e0dce9edacb8d75cd3f925fc5130533006ae41b0b8c08165644c5a9a6"), looks := false }, kinds := [], alts := [], laidByText := true, laidKinds := [.data, .data, .data], laidTests := true, laidLooks := .later }
def SeqSaysUptoCardSaid : Prop := Claim7.holds Tryd.pinned (.plain (OpenSpec.upto seqSaysSpec)) seqSaysUptoCard

/-- THE SECOND FORM's CARD OF 'aliblaw.SeqQuiet'. -/
def seqQuietUptoCard : Claim7 := { stood := { row := seqQuietUptoRow, standIns := [], harness := (true, "c2736c6e0dce9edacb8d75cd3f925fc5130533006ae41b0b8c08165644c5a9a6"), looks := false }, kinds := [], alts := [], laidByText := true, laidKinds := [.data, .data, .data], laidTests := true, laidLooks := .later }
def SeqQuietUptoCardSaid : Prop := Claim7.holds Tryd.pinned (.plain (OpenSpec.upto seqQuietSpec)) seqQuietUptoCard

/-- THE SECOND FORM's CARD OF 'alibkeep.SearchFound'. -/
def searchFoundUptoCard : Claim7 := { stood := { row := searchFoundUptoRow, standIns := [], harness := (true, "c2736c6e0dce9edacb8d75cd3f925fc5130533006ae41b0b8c08165644c5a9a6"), looks := false }, kinds := [], alts := [], laidByText := true, laidKinds := [.data, .data, .data], laidTests := true, laidLooks := .later }
def SearchFoundUptoCardSaid : Prop := Claim7.holds Tryd.pinned (.plain (OpenSpec.upto searchFoundSpec)) searchFoundUptoCard

/-- THE SECOND FORM's CARD OF 'alibkeep.SearchFront'. -/
def searchFrontUptoCard : Claim7 := { stood := { row := searchFrontUptoRow, standIns := [], harness := (true, "c2736c6e0dce9edacb8d75cd3f925fc5130533006ae41b0b8c08165644c5a9a6"), looks := false }, kinds := [], alts := [], laidByText := true, laidKinds := [.data, .data, .data], laidTests := true, laidLooks := .later }
def SearchFrontUptoCardSaid : Prop := Claim7.holds Tryd.pinned (.plain (OpenSpec.upto searchFrontSpec)) searchFrontUptoCard

/-- THE SECOND FORM's CARD OF 'alibkeep.SearchNever'. -/
def searchNeverUptoCard : Claim7 := { stood := { row := searchNeverUptoRow, standIns := [], harness := (true, "c2736c6e0dce9edacb8d75cd3f925fc5130533006ae41b0b8c08165644c5a9a6"), looks := false }, kinds := [], alts := [], laidByText := true, laidKinds := [.data, .data, .data], laidTests := true, laidLooks := .later }
def SearchNeverUptoCardSaid : Prop := Claim7.holds Tryd.pinned (.plain (OpenSpec.upto searchNeverSpec)) searchNeverUptoCard

/-- THE SECOND FORM's CARD OF 'alibkeep.SearchLater'. -/
def searchLaterUptoCard : Claim7 := { stood := { row := searchLaterUptoRow, standIns := [], harness := (true, "c2736c6e0dce9edacb8d75cd3f925fc5130533006ae41b0b8c08165644c5a9a6"), looks := false }, kinds := [], alts := [], laidByText := true, laidKinds := [.data, .data, .data], laidTests := true, laidLooks := .later }
def SearchLaterUptoCardSaid : Prop := Claim7.holds Tryd.pinned (.plain (OpenSpec.upto searchLaterSpec)) searchLaterUptoCard

/-- THE SECOND FORM's CARD OF 'alibkeep.SearchAlone'. -/
def searchAloneUptoCard : Claim7 := { stood := { row := searchAloneUptoRow, standIns := [], harness := (true, "c2736c6e0dce9edacb8d75cd3f925fc5130533006ae41b0b8c08165644c5a9a6"), looks := false }, kinds := [], alts := [], laidByText := true, laidKinds := [.data, .data, .data], laidTests := true, laidLooks := .later }
def SearchAloneUptoCardSaid : Prop := Claim7.holds Tryd.pinned (.plain (OpenSpec.upto searchAloneSpec)) searchAloneUptoCard

/-- THE SECOND FORM's CARD OF 'alibkeep.LocalWhole'. -/
def localWholeUptoCard : Claim7 := { stood := { row := localWholeUptoRow, standIns := [], harness := (true, "c2736c6e0dce9edacb8d75cd3f925fc5130533006ae41b0b8c08165644c5a9a6"), looks := false }, kinds := [], alts := [], laidByText := true, laidKinds := [.data, .data, .data], laidTests := true, laidLooks := .later }
def LocalWholeUptoCardSaid : Prop := Claim7.holds Tryd.pinned (.plain (OpenSpec.upto localWholeSpec)) localWholeUptoCard

/-- THE SECOND FORM's CARD OF 'alibkeep.LocalJoined'. -/
def localJoinedUptoCard : Claim7 := { stood := { row := localJoinedUptoRow, standIns := [], harness := (true, "c2736c6e0dce9edacb8d75cd3f925fc5130533006ae41b0b8c08165644c5a9a6"), looks := false }, kinds := [], alts := [], laidByText := true, laidKinds := [.data, .data, .data], laidTests := true, laidLooks := .later }
def LocalJoinedUptoCardSaid : Prop := Claim7.holds Tryd.pinned (.plain (OpenSpec.upto localJoinedSpec)) localJoinedUptoCard

/-- THE SECOND FORM's CARD OF 'alibkeep.LocalAny'. -/
def localAnyUptoCard : Claim7 := { stood := { row := localAnyUptoRow, standIns := [], harness := (true, "c2736c6e0dce9edacb8d75cd3f925fc5130533006ae41b0b8c08165644c5a9a6"), looks := false }, kinds := [], alts := [], laidByText := true, laidKinds := [.data, .data, .data], laidTests := true, laidLooks := .later }
def LocalAnyUptoCardSaid : Prop := Claim7.holds Tryd.pinned (.plain (OpenSpec.upto localAnySpec)) localAnyUptoCard

/-- THE SECOND FORM's CARD OF 'alibkeep.SeqApart'. -/
def seqApartUptoCard : Claim7 := { stood := { row := seqApartUptoRow, standIns := [], harness := (true, "c2736c6e0dce9edacb8d75cd3f925fc5130533006ae41b0b8c08165644c5a9a6"), looks := false }, kinds := [], alts := [], laidByText := true, laidKinds := [.data, .data, .data], laidTests := true, laidLooks := .later }
def SeqApartUptoCardSaid : Prop := Claim7.holds Tryd.pinned (.plain (OpenSpec.upto seqApartSpec)) seqApartUptoCard

/-- THE SECOND FORM's CARD OF 'alibkeep.SeqWeaker'. -/
def seqWeakerUptoCard : Claim7 := { stood := { row := seqWeakerUptoRow, standIns := [], harness := (true, "c2736c6e0dce9edacb8d75cd3f925fc5130533006ae41b0b8c08165644c5a9a6"), looks := false }, kinds := [], alts := [], laidByText := true, laidKinds := [.data, .data, .data], laidTests := true, laidLooks := .later }
def SeqWeakerUptoCardSaid : Prop := Claim7.holds Tryd.pinned (.plain (OpenSpec.upto seqWeakerSpec)) seqWeakerUptoCard

/-- THE SECOND FORM's CARD OF 'alibkeep.SeqMoves'. -/
def seqMovesUptoCard : Claim7 := { stood := { row := seqMovesUptoRow, standIns := [], harness := (true, "c2736c6e0dce9edacb8d75cd3f925fc5130533006ae41b0b8c08165644c5a9a6"), looks := false }, kinds := [], alts := [], laidByText := true, laidKinds := [.data, .data, .data], laidTests := true, laidLooks := .later }
def SeqMovesUptoCardSaid : Prop := Claim7.holds Tryd.pinned (.plain (OpenSpec.upto seqMovesSpec)) seqMovesUptoCard

/-- THE SECOND FORM's CARD OF 'alibkeep.SeqOrdered'. -/
def seqOrderedUptoCard : Claim7 := { stood := { row := seqOrderedUptoRow, standIns := [], harness := (true, "c2736c6e0dce9edacb8d75cd3f925fc5130533006ae41b0b8c08165644c5a9a6"), looks := false }, kinds := [], alts := [], laidByText := true, laidKinds := [.data, .data, .data], laidTests := true, laidLooks := .later }
def SeqOrderedUptoCardSaid : Prop := Claim7.holds Tryd.pinned (.plain (OpenSpec.upto seqOrderedSpec)) seqOrderedUptoCard

/-- THE SECOND FORM's CARD OF 'alibkeep.SeqCalm'. -/
def seqCalmUptoCard : Claim7 := { stood := { row := seqCalmUptoRow, standIns := [], harness := (true, "c2736c6e0dce9edacb8d75cd3f925fc5130533006ae41b0b8c08165644c5a9a6"), looks := false }, kinds := [], alts := [], laidByText := true, laidKinds := [.data, .data, .data], laidTests := true, laidLooks := .later }
def SeqCalmUptoCardSaid : Prop := Claim7.holds Tryd.pinned (.plain (OpenSpec.upto seqCalmSpec)) seqCalmUptoCard
end Rows
end Go.Proofs.YtecpjeililiafaaDoor
