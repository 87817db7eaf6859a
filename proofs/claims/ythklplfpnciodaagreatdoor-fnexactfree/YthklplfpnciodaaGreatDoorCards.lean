/-
  DERIVED. GIVEN WITH THE SEED: THE CARDS: each row of YthklplfpnciodaaGreatDoorRows.lean that lists a variable, with what it lists TIED to the program's text (the seventh form; the later family's looks); each row that meets fmt, with fmt's text TOLD by the authors' own Lean function (tested against real Go, not proved from fmt's source: count such statements apart). THE CARD IS WHAT COUNTS. Prove the row's statement (the work); the ties are given (YthklplfpnciodaaGreatDoorTie.lean); close each card by the builder's one call (the guide's Derived/Test/ToyasCard.lean, 'card_holds'). Laid BY PROGRAM, IN A SANDBOX (cutbox-door.mjs). By AI agents, Wed Nov 11 2026. No macro, syntax, notation, axiom, sorry.
-/
import Derived.Test.YthklplfpnciodaaGreatDoorRows
import GoSem.ClaimSeven
namespace Go.Proofs.YthklplfpnciodaaGreatDoor
namespace Rows

/-- THE TIED CARD OF 'laws.FnExactFree'. -/
def fnExactFreeCard : Claim7 := { stood := { row := fnExactFreeRow, standIns := [], harness := (true, "d3b9b988010a6848c0a1a7d8e0c9021dbd8ae7650dc25803f7a8a68aabdf6a7e"), looks := true }, kinds := [], alts := [], laidByText := true, laidKinds := [.data, .data, .data], laidTests := true, laidLooks := .later }
def FnExactFreeCardSaid : Prop := Claim7.holds Tryz.pinned (.plain (OpenSpec.ofChange fnExactFreeSpec)) fnExactFreeCard

/-- THE SECOND FORM's CARD OF 'laws.FnExactFree'. -/
def fnExactFreeUptoCard : Claim7 := { stood := { row := fnExactFreeUptoRow, standIns := [], harness := (true, "d3b9b988010a6848c0a1a7d8e0c9021dbd8ae7650dc25803f7a8a68aabdf6a7e"), looks := true }, kinds := [], alts := [], laidByText := true, laidKinds := [.data, .data, .data], laidTests := true, laidLooks := .later }
def FnExactFreeUptoCardSaid : Prop := Claim7.holds Tryz.pinned (.plain (OpenSpec.upto fnExactFreeSpec)) fnExactFreeUptoCard
end Rows
end Go.Proofs.YthklplfpnciodaaGreatDoor
