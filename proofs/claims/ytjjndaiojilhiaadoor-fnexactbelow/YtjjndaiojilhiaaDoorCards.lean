/-
  DERIVED. GIVEN WITH THE SEED: THE CARDS: each row of YtjjndaiojilhiaaDoorRows.lean that lists a variable, with what it lists TIED to the program's text (the seventh form; the later family's looks); each row that meets fmt, with fmt's text TOLD by the authors' own Lean function (tested against real Go, not proved from fmt's source: count such statements apart). THE CARD IS WHAT COUNTS. Prove the row's statement (the work); the ties are given (YtjjndaiojilhiaaDoorTie.lean); close each card by the builder's one call (the guide's Derived/Test/ToyasCard.lean, 'card_holds'). Laid BY PROGRAM, IN A SANDBOX (cutbox-door.mjs). By AI agents, Wed Nov 11 2026. No macro, syntax, notation, axiom, sorry.
-/
import Derived.Test.YtjjndaiojilhiaaDoorRows
import GoSem.ClaimSeven
namespace Go.Proofs.YtjjndaiojilhiaaDoor
namespace Rows

/-- THE TIED CARD OF 'laws.FnExactCutEntry'. -/
def fnExactCutEntryCard : Claim7 := { stood := { row := fnExactCutEntryRow, standIns := [], harness := (true, "6de5a9f24ed37c1c9d9677eda515b634b22200fd3fa562e1f57d149c630d928a"), looks := false }, kinds := [], alts := [], laidByText := true, laidKinds := [.data, .pinned], laidTests := true, laidLooks := .later }
def FnExactCutEntryCardSaid : Prop := Claim7.holds Tryd.pinned (.plain (OpenSpec.ofChange fnExactCutEntrySpec)) fnExactCutEntryCard

/-- THE TIED CARD OF 'laws.FnExactBelow'. -/
def fnExactBelowCard : Claim7 := { stood := { row := fnExactBelowRow, standIns := [], harness := (true, "6de5a9f24ed37c1c9d9677eda515b634b22200fd3fa562e1f57d149c630d928a"), looks := false }, kinds := [], alts := [], laidByText := true, laidKinds := [.data, .pinned], laidTests := true, laidLooks := .later }
def FnExactBelowCardSaid : Prop := Claim7.holds Tryd.pinned (.plain (OpenSpec.ofChange fnExactBelowSpec)) fnExactBelowCard

/-- THE SECOND FORM's CARD OF 'laws.FnExactCutEntry'. -/
def fnExactCutEntryUptoCard : Claim7 := { stood := { row := fnExactCutEntryUptoRow, standIns := [], harness := (true, "6de5a9f24ed37c1c9d9677eda515b634b22200fd3fa562e1f57d149c630d928a"), looks := false }, kinds := [], alts := [], laidByText := true, laidKinds := [.data, .pinned], laidTests := true, laidLooks := .later }
def FnExactCutEntryUptoCardSaid : Prop := Claim7.holds Tryd.pinned (.plain (OpenSpec.upto fnExactCutEntrySpec)) fnExactCutEntryUptoCard

/-- THE SECOND FORM's CARD OF 'laws.FnExactBelow'. -/
def fnExactBelowUptoCard : Claim7 := { stood := { row := fnExactBelowUptoRow, standIns := [], harness := (true, "6de5a9f24ed37c1c9d9677eda515b634b22200fd3fa562e1f57d149c630d928a"), looks := false }, kinds := [], alts := [], laidByText := true, laidKinds := [.data, .pinned], laidTests := true, laidLooks := .later }
def FnExactBelowUptoCardSaid : Prop := Claim7.holds Tryd.pinned (.plain (OpenSpec.upto fnExactBelowSpec)) fnExactBelowUptoCard
end Rows
end Go.Proofs.YtjjndaiojilhiaaDoor
