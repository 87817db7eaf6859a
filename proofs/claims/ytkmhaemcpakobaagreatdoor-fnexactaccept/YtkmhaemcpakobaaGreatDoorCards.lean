/-
  DERIVED. GIVEN WITH THE SEED: THE CARDS: each row of YtkmhaemcpakobaaGreatDoorRows.lean that lists a variable, with what it lists TIED to the program's text (the seventh form; the later family's looks); each row that meets fmt, with fmt's text TOLD by the authors' own Lean function (tested against real Go, not proved from fmt's source: count such statements apart). THE CARD IS WHAT COUNTS. Prove the row's statement (the work); the ties are given (YtkmhaemcpakobaaGreatDoorTie.lean); close each card by the builder's one call (the guide's Derived/Test/ToyasCard.lean, 'card_holds'). Laid BY PROGRAM, IN A SANDBOX (cutbox-door.mjs). By AI agents, Wed Nov 11 2026. No macro, syntax, notation, axiom, sorry.
-/
import Derived.Test.YtkmhaemcpakobaaGreatDoorRows
import GoSem.ClaimSeven
namespace Go.Proofs.YtkmhaemcpakobaaGreatDoor
namespace Rows

/-- THE TIED CARD OF 'laws.FnExactAccept'. -/
def fnExactAcceptCard : Claim7 := { stood := { row := fnExactAcceptRow, standIns := [], harness := (true, "2f3ad81ca263130e610b345a5b22aaced90a3f15201ff912ca37f49499ecce74"), looks := true }, kinds := [], alts := [], laidByText := true, laidKinds := [.data, .data, .data, .data, .sentinel, .sentinel, .data, .pinned], laidTests := true, laidLooks := .later }
def FnExactAcceptCardSaid : Prop := Claim7.holds Tryz.pinned (.plain (OpenSpec.ofChange fnExactAcceptSpec)) fnExactAcceptCard

/-- THE SECOND FORM's CARD OF 'laws.FnExactAccept'. -/
def fnExactAcceptUptoCard : Claim7 := { stood := { row := fnExactAcceptUptoRow, standIns := [], harness := (true, "2f3ad81ca263130e610b345a5b22aaced90a3f15201ff912ca37f49499ecce74"), looks := true }, kinds := [], alts := [], laidByText := true, laidKinds := [.data, .data, .data, .data, .sentinel, .sentinel, .data, .pinned], laidTests := true, laidLooks := .later }
def FnExactAcceptUptoCardSaid : Prop := Claim7.holds Tryz.pinned (.plain (OpenSpec.upto fnExactAcceptSpec)) fnExactAcceptUptoCard
end Rows
end Go.Proofs.YtkmhaemcpakobaaGreatDoor
