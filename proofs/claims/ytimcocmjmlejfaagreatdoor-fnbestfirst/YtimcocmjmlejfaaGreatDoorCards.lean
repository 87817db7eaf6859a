/-
  DERIVED. GIVEN WITH THE SEED: THE CARDS: each row of YtimcocmjmlejfaaGreatDoorRows.lean that lists a variable, with what it lists TIED to the program's text (the seventh form; the later family's looks); each row that meets fmt, with fmt's text TOLD by the authors' own Lean function (tested against real Go, not proved from fmt's source: count such statements apart). THE CARD IS WHAT COUNTS. Prove the row's statement (the work); the ties are given (YtimcocmjmlejfaaGreatDoorTie.lean); close each card by the builder's one call (the guide's Derived/Test/ToyasCard.lean, 'card_holds'). Laid BY PROGRAM, IN A SANDBOX (cutbox-door.mjs). By AI agents, Wed Nov 11 2026. No macro, syntax, notation, axiom, sorry.
-/
import Derived.Test.YtimcocmjmlejfaaGreatDoorRows
import GoSem.ClaimSeven
namespace Go.Proofs.YtimcocmjmlejfaaGreatDoor
namespace Rows

/-- THE TIED CARD OF 'laws.FnBestFirst'. -/
def fnBestFirstCard : Claim7 := { stood := { row := fnBestFirstRow, standIns := [], harness := (true, "1807a6143c898ce55a07348e86eba2483626707af3adb68a1dba33b775b01470"), looks := true }, kinds := [], alts := [], laidByText := true, laidKinds := [.data, .data, .data, .data, .sentinel, .sentinel, .pinned], laidTests := true, laidLooks := .later }
def FnBestFirstCardSaid : Prop := Claim7.holds Tryz.pinned (.plain (OpenSpec.ofChange fnBestFirstSpec)) fnBestFirstCard

/-- THE SECOND FORM's CARD OF 'laws.FnBestFirst'. -/
def fnBestFirstUptoCard : Claim7 := { stood := { row := fnBestFirstUptoRow, standIns := [], harness := (true, "1807a6143c898ce55a07348e86eba2483626707af3adb68a1dba33b775b01470"), looks := true }, kinds := [], alts := [], laidByText := true, laidKinds := [.data, .data, .data, .data, .sentinel, .sentinel, .pinned], laidTests := true, laidLooks := .later }
def FnBestFirstUptoCardSaid : Prop := Claim7.holds Tryz.pinned (.plain (OpenSpec.upto fnBestFirstSpec)) fnBestFirstUptoCard
end Rows
end Go.Proofs.YtimcocmjmlejfaaGreatDoor
