/-
  DERIVED. GIVEN WITH THE SEED: THE CARDS: each row of YtabhgmpbokkjlaaDoorRows.lean that lists a variable, with what it lists TIED to the program's text (the seventh form; the later family's looks); each row that meets fmt, with fmt's text TOLD by the authors' own Lean function (tested against real Go, not proved from fmt's source: count such statements apart). THE CARD IS WHAT COUNTS. Prove the row's statement (the work); the ties are given (YtabhgmpbokkjlaaDoorTie.lean); close each card by the builder's one call (the guide's Derived/Test/ToyasCard.lean, 'card_holds'). Laid BY PROGRAM, IN A SANDBOX (cutbox-door.mjs). By AI agents, Wed Nov 11 2026. No macro, syntax, notation, axiom, sorry.
-/
import Derived.Test.YtabhgmpbokkjlaaDoorRows
import GoSem.ClaimSeven
namespace Go.Proofs.YtabhgmpbokkjlaaDoor
namespace Rows

/-- THE TIED CARD OF 'laws.FnExactPutEntry'. -/
def fnExactPutEntryCard : Claim7 := { stood := { row := fnExactPutEntryRow, standIns := [], harness := (true, "d6e68749ed1aff65f1dc3c4153de501c5b83f7a2cc7f0c9d040f6192be696809"), looks := false }, kinds := [], alts := [], laidByText := true, laidKinds := [.data, .pinned], laidTests := true, laidLooks := .later }
def FnExactPutEntryCardSaid : Prop := Claim7.holds Tryd.pinned (.plain (OpenSpec.ofChange fnExactPutEntrySpec)) fnExactPutEntryCard

/-- THE TIED CARD OF 'laws.FnExactBelow'. -/
def fnExactBelowCard : Claim7 := { stood := { row := fnExactBelowRow, standIns := [], harness := (true, "d6e68749ed1aff65f1dc3c4153de501c5b83f7a2cc7f0c9d040f6192be696809"), looks := false }, kinds := [], alts := [], laidByText := true, laidKinds := [.data, .pinned], laidTests := true, laidLooks := .later }
def FnExactBelowCardSaid : Prop := Claim7.holds Tryd.pinned (.plain (OpenSpec.ofChange fnExactBelowSpec)) fnExactBelowCard

/-- THE TIED CARD OF 'laws.FnExactRefsIn'. -/
def fnExactRefsInCard : Claim7 := { stood := { row := fnExactRefsInRow, standIns := [], harness := (true, "d6e68749ed1aff65f1dc3c4153de501c5b83f7a2cc7f0c9d040f6192be696809"), looks := false }, kinds := [], alts := [], laidByText := true, laidKinds := [.data, .data, .pinned], laidTests := true, laidLooks := .later }
def FnExactRefsInCardSaid : Prop := Claim7.holds Tryd.pinned (.plain (OpenSpec.ofChange fnExactRefsInSpec)) fnExactRefsInCard

/-- THE SECOND FORM's CARD OF 'laws.FnExactPutEntry'. -/
def fnExactPutEntryUptoCard : Claim7 := { stood := { row := fnExactPutEntryUptoRow, standIns := [], harness := (true, "d6e68749ed1aff65f1dc3c4153de501c5b83f7a2cc7f0c9d040f6192be696809"), looks := false }, kinds := [], alts := [], laidByText := true, laidKinds := [.data, .pinned], laidTests := true, laidLooks := .later }
def FnExactPutEntryUptoCardSaid : Prop := Claim7.holds Tryd.pinned (.plain (OpenSpec.upto fnExactPutEntrySpec)) fnExactPutEntryUptoCard

/-- THE SECOND FORM's CARD OF 'laws.FnExactBelow'. -/
def fnExactBelowUptoCard : Claim7 := { stood := { row := fnExactBelowUptoRow, standIns := [], harness := (true, "d6e68749ed1aff65f1dc3c4153de501c5b83f7a2cc7f0c9d040f6192be696809"), looks := false }, kinds := [], alts := [], laidByText := true, laidKinds := [.data, .pinned], laidTests := true, laidLooks := .later }
def FnExactBelowUptoCardSaid : Prop := Claim7.holds Tryd.pinned (.plain (OpenSpec.upto fnExactBelowSpec)) fnExactBelowUptoCard

/-- THE SECOND FORM's CARD OF 'laws.FnExactRefsIn'. -/
def fnExactRefsInUptoCard : Claim7 := { stood := { row := fnExactRefsInUptoRow, standIns := [], harness := (true, "d6e68749ed1aff65f1dc3c4153de501c5b83f7a2cc7f0c9d040f6192be696809"), looks := false }, kinds := [], alts := [], laidByText := true, laidKinds := [.data, .data, .pinned], laidTests := true, laidLooks := .later }
def FnExactRefsInUptoCardSaid : Prop := Claim7.holds Tryd.pinned (.plain (OpenSpec.upto fnExactRefsInSpec)) fnExactRefsInUptoCard
end Rows
end Go.Proofs.YtabhgmpbokkjlaaDoor
