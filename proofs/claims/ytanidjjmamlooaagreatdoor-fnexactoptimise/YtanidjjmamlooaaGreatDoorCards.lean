/-
  DERIVED. GIVEN WITH THE SEED: THE CARDS: each row of YtanidjjmamlooaaGreatDoorRows.lean that lists a variable, with what it lists TIED to the program's text (the seventh form; the later family's looks); each row that meets fmt, with fmt's text TOLD by the authors' own Lean function (tested against real Go, not proved from fmt's source: count such statements apart). THE CARD IS WHAT COUNTS. Prove the row's statement (the work); the ties are given (YtanidjjmamlooaaGreatDoorTie.lean); close each card by the builder's one call (the guide's Derived/Test/ToyasCard.lean, 'card_holds'). Laid BY PROGRAM, IN A SANDBOX (cutbox-door.mjs). By AI agents, Wed Nov 11 2026. No macro, syntax, notation, axiom, sorry.
-/
import Derived.Test.YtanidjjmamlooaaGreatDoorRows
import GoSem.ClaimSeven
namespace Go.Proofs.YtanidjjmamlooaaGreatDoor
namespace Rows

/-- THE TIED CARD OF 'laws.FnExactOptimise'. -/
def fnExactOptimiseCard : Claim7 := { stood := { row := fnExactOptimiseRow, standIns := [], harness := (true, "98dd1a85b8fc4dbe644a4bbf0cdbfba0eeffbdea7792d2900df727a2a9354945"), looks := false }, kinds := [], alts := [], laidByText := true, laidKinds := [.data, .data, .pinned], laidTests := true, laidLooks := .later }
def FnExactOptimiseCardSaid : Prop := Claim7.holds Tryz.pinned (.plain (OpenSpec.ofChange fnExactOptimiseSpec)) fnExactOptimiseCard

/-- THE SECOND FORM's CARD OF 'laws.FnExactOptimise'. -/
def fnExactOptimiseUptoCard : Claim7 := { stood := { row := fnExactOptimiseUptoRow, standIns := [], harness := (true, "98dd1a85b8fc4dbe644a4bbf0cdbfba0eeffbdea7792d2900df727a2a9354945"), looks := false }, kinds := [], alts := [], laidByText := true, laidKinds := [.data, .data, .pinned], laidTests := true, laidLooks := .later }
def FnExactOptimiseUptoCardSaid : Prop := Claim7.holds Tryz.pinned (.plain (OpenSpec.upto fnExactOptimiseSpec)) fnExactOptimiseUptoCard
end Rows
end Go.Proofs.YtanidjjmamlooaaGreatDoor
