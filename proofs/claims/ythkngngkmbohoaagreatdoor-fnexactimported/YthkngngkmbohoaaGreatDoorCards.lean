/-
  DERIVED. GIVEN WITH THE SEED: THE CARDS: each row of YthkngngkmbohoaaGreatDoorRows.lean that lists a variable, with what it lists TIED to the program's text (the seventh form; the later family's looks); each row that meets fmt, with fmt's text TOLD by the authors' own Lean function (tested against real Go, not proved from fmt's source: count such statements apart). THE CARD IS WHAT COUNTS. Prove the row's statement (the work); the ties are given (YthkngngkmbohoaaGreatDoorTie.lean); close each card by the builder's one call (the guide's Derived/Test/ToyasCard.lean, 'card_holds'). Laid BY PROGRAM, IN A SANDBOX (cutbox-door.mjs). By AI agents, Wed Nov 11 2026. No macro, syntax, notation, axiom, sorry.
-/
import Derived.Test.YthkngngkmbohoaaGreatDoorRows
import GoSem.ClaimSeven
namespace Go.Proofs.YthkngngkmbohoaaGreatDoor
namespace Rows

/-- THE TIED CARD OF 'laws.FnExactImported'. -/
def fnExactImportedCard : Claim7 := { stood := { row := fnExactImportedRow, standIns := [], harness := (true, "96391e4c2dd35f2801f9f5d79ebbed35848d44f5afa045ee929bd7c85665ec72"), looks := false }, kinds := [], alts := [], laidByText := true, laidKinds := [.data, .pinned], laidTests := true, laidLooks := .later }
def FnExactImportedCardSaid : Prop := Claim7.holds Tryz.pinned (.plain (OpenSpec.ofChange fnExactImportedSpec)) fnExactImportedCard

/-- THE SECOND FORM's CARD OF 'laws.FnExactImported'. -/
def fnExactImportedUptoCard : Claim7 := { stood := { row := fnExactImportedUptoRow, standIns := [], harness := (true, "96391e4c2dd35f2801f9f5d79ebbed35848d44f5afa045ee929bd7c85665ec72"), looks := false }, kinds := [], alts := [], laidByText := true, laidKinds := [.data, .pinned], laidTests := true, laidLooks := .later }
def FnExactImportedUptoCardSaid : Prop := Claim7.holds Tryz.pinned (.plain (OpenSpec.upto fnExactImportedSpec)) fnExactImportedUptoCard
end Rows
end Go.Proofs.YthkngngkmbohoaaGreatDoor
