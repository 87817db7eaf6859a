/-
  DERIVED. GIVEN WITH THE SEED: THE CARDS: each row of YtoaccaiddifliaaDoorRows.lean that lists a variable, with what it lists TIED to the program's text (the seventh form; the later family's looks); each row that meets fmt, with fmt's text TOLD by the authors' own Lean function (tested against real Go, not proved from fmt's source: count such statements apart). THE CARD IS WHAT COUNTS. Prove the row's statement (the work); the ties are given (YtoaccaiddifliaaDoorTie.lean); close each card by the builder's one call (the guide's Derived/Test/ToyasCard.lean, 'card_holds'). Laid BY PROGRAM, IN A SANDBOX (cutbox-door.mjs). By AI agents, Wed Nov 11 2026. No macro, syntax, notation, axiom, sorry.
-/
import Derived.Test.YtoaccaiddifliaaDoorRows
import GoSem.ClaimSeven
namespace Go.Proofs.YtoaccaiddifliaaDoor
namespace Rows

/-- THE TIED CARD OF 'laws.FnExactSwitch'. -/
def fnExactSwitchCard : Claim7 := { stood := { row := fnExactSwitchRow, standIns := [], harness := (true, "a7ff80f0546d8704105954f0f28f32bacb1f0d7d58e854bdfdd5502fef7f8a73"), looks := false }, kinds := [], alts := [], laidByText := true, laidKinds := [.data], laidTests := true, laidLooks := .later }
def FnExactSwitchCardSaid : Prop := Claim7.holds Tryd.pinned (.plain (OpenSpec.ofChange fnExactSwitchSpec)) fnExactSwitchCard

/-- THE SECOND FORM's CARD OF 'laws.FnExactSwitch'. -/
def fnExactSwitchUptoCard : Claim7 := { stood := { row := fnExactSwitchUptoRow, standIns := [], harness := (true, "a7ff80f0546d8704105954f0f28f32bacb1f0d7d58e854bdfdd5502fef7f8a73"), looks := false }, kinds := [], alts := [], laidByText := true, laidKinds := [.data], laidTests := true, laidLooks := .later }
def FnExactSwitchUptoCardSaid : Prop := Claim7.holds Tryd.pinned (.plain (OpenSpec.upto fnExactSwitchSpec)) fnExactSwitchUptoCard
end Rows
end Go.Proofs.YtoaccaiddifliaaDoor
