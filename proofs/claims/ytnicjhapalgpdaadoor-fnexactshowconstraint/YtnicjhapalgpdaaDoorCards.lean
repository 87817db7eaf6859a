/-
  DERIVED. GIVEN WITH THE SEED: THE CARDS: each row of YtnicjhapalgpdaaDoorRows.lean that lists a variable, with what it lists TIED to the program's text (the seventh form; the later family's looks); each row that meets fmt, with fmt's text TOLD by the authors' own Lean function (tested against real Go, not proved from fmt's source: count such statements apart). THE CARD IS WHAT COUNTS. Prove the row's statement (the work); the ties are given (YtnicjhapalgpdaaDoorTie.lean); close each card by the builder's one call (the guide's Derived/Test/ToyasCard.lean, 'card_holds'). Laid BY PROGRAM, IN A SANDBOX (cutbox-door.mjs). By AI agents, Wed Nov 11 2026. No macro, syntax, notation, axiom, sorry.
-/
import Derived.Test.YtnicjhapalgpdaaDoorRows
import GoSem.ClaimSeven
namespace Go.Proofs.YtnicjhapalgpdaaDoor
namespace Rows

/-- THE TIED CARD OF 'laws.FnExactShowConstraint'. -/
def fnExactShowConstraintCard : Claim7 := { stood := { row := fnExactShowConstraintRow, standIns := [], harness := (true, "fd63b87e58747d506eeef01c8dc89643e4515b4af5ccf55513be379ce9218dc4"), looks := true }, kinds := [], alts := [], laidByText := true, laidKinds := [.data, .data, .data, .data, .sentinel, .sentinel, .pinned], laidTests := true, laidLooks := .later }
def FnExactShowConstraintCardSaid : Prop := Claim7.holds Tryd.pinned (.plain (OpenSpec.ofChange fnExactShowConstraintSpec)) fnExactShowConstraintCard

/-- THE SECOND FORM's CARD OF 'laws.FnExactShowConstraint'. -/
def fnExactShowConstraintUptoCard : Claim7 := { stood := { row := fnExactShowConstraintUptoRow, standIns := [], harness := (true, "fd63b87e58747d506eeef01c8dc89643e4515b4af5ccf55513be379ce9218dc4"), looks := true }, kinds := [], alts := [], laidByText := true, laidKinds := [.data, .data, .data, .data, .sentinel, .sentinel, .pinned], laidTests := true, laidLooks := .later }
def FnExactShowConstraintUptoCardSaid : Prop := Claim7.holds Tryd.pinned (.plain (OpenSpec.upto fnExactShowConstraintSpec)) fnExactShowConstraintUptoCard
end Rows
end Go.Proofs.YtnicjhapalgpdaaDoor
