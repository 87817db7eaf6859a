/-
  DERIVED. GIVEN WITH THE SEED: THE CARDS: each row of YtbpkekdapkkilaaDoorRows.lean that lists a variable, with what it lists TIED to the program's text (the seventh form; the later family's looks); each row that meets fmt, with fmt's text TOLD by the authors' own Lean function (tested against real Go, not proved from fmt's source: count such statements apart). THE CARD IS WHAT COUNTS. Prove the row's statement (the work); the ties are given (YtbpkekdapkkilaaDoorTie.lean); close each card by the builder's one call (the guide's Derived/Test/ToyasCard.lean, 'card_holds'). Laid BY PROGRAM, IN A SANDBOX (cutbox-door.mjs). By AI agents, Wed Nov 11 2026. No macro, syntax, notation, axiom, sorry.
-/
import Derived.Test.YtbpkekdapkkilaaDoorRows
import GoSem.ClaimSeven
namespace Go.Proofs.YtbpkekdapkkilaaDoor
namespace Rows

/-- THE TIED CARD OF 'laws.FnExactUnpackTree'. -/
def fnExactUnpackTreeCard : Claim7 := { stood := { row := fnExactUnpackTreeRow, standIns := [], harness := (true, "94120b3408ddaf89276067cc5a5745f321a4ad8dca3556c719cdb2049e5001aa"), looks := false }, kinds := [], alts := [], laidByText := true, laidKinds := [.data, .pinned], laidTests := true, laidLooks := .later }
def FnExactUnpackTreeCardSaid : Prop := Claim7.holds Tryd.pinned (.plain (OpenSpec.ofChange fnExactUnpackTreeSpec)) fnExactUnpackTreeCard

/-- THE TIED CARD OF 'laws.FnExactCutEntry'. -/
def fnExactCutEntryCard : Claim7 := { stood := { row := fnExactCutEntryRow, standIns := [], harness := (true, "94120b3408ddaf89276067cc5a5745f321a4ad8dca3556c719cdb2049e5001aa"), looks := false }, kinds := [], alts := [], laidByText := true, laidKinds := [.data, .pinned], laidTests := true, laidLooks := .later }
def FnExactCutEntryCardSaid : Prop := Claim7.holds Tryd.pinned (.plain (OpenSpec.ofChange fnExactCutEntrySpec)) fnExactCutEntryCard

/-- THE SECOND FORM's CARD OF 'laws.FnExactUnpackTree'. -/
def fnExactUnpackTreeUptoCard : Claim7 := { stood := { row := fnExactUnpackTreeUptoRow, standIns := [], harness := (true, "94120b3408ddaf89276067cc5a5745f321a4ad8dca3556c719cdb2049e5001aa"), looks := false }, kinds := [], alts := [], laidByText := true, laidKinds := [.data, .pinned], laidTests := true, laidLooks := .later }
def FnExactUnpackTreeUptoCardSaid : Prop := Claim7.holds Tryd.pinned (.plain (OpenSpec.upto fnExactUnpackTreeSpec)) fnExactUnpackTreeUptoCard

/-- THE SECOND FORM's CARD OF 'laws.FnExactCutEntry'. -/
def fnExactCutEntryUptoCard : Claim7 := { stood := { row := fnExactCutEntryUptoRow, standIns := [], harness := (true, "94120b3408ddaf89276067cc5a5745f321a4ad8dca3556c719cdb2049e5001aa"), looks := false }, kinds := [], alts := [], laidByText := true, laidKinds := [.data, .pinned], laidTests := true, laidLooks := .later }
def FnExactCutEntryUptoCardSaid : Prop := Claim7.holds Tryd.pinned (.plain (OpenSpec.upto fnExactCutEntrySpec)) fnExactCutEntryUptoCard
end Rows
end Go.Proofs.YtbpkekdapkkilaaDoor
