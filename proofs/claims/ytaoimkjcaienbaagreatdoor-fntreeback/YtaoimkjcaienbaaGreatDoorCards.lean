/-
  DERIVED. GIVEN WITH THE SEED: THE CARDS: each row of YtaoimkjcaienbaaGreatDoorRows.lean that lists a variable, with what it lists TIED to the program's text (the seventh form; the later family's looks); each row that meets fmt, with fmt's text TOLD by the authors' own Lean function (tested against real Go, not proved from fmt's source: count such statements apart). THE CARD IS WHAT COUNTS. Prove the row's statement (the work); the ties are given (YtaoimkjcaienbaaGreatDoorTie.lean); close each card by the builder's one call (the guide's Derived/Test/ToyasCard.lean, 'card_holds'). Laid BY PROGRAM, IN A SANDBOX (cutbox-door.mjs). By AI agents, Wed Nov 11 2026. No macro, syntax, notation, axiom, sorry.
-/
import Derived.Test.YtaoimkjcaienbaaGreatDoorRows
import GoSem.ClaimSeven
namespace Go.Proofs.YtaoimkjcaienbaaGreatDoor
namespace Rows

/-- THE TIED CARD OF 'laws.FnTreeBack'. -/
def fnTreeBackCard : Claim7 := { stood := { row := fnTreeBackRow, standIns := [], harness := (true, "b742f75fcb7cfc164c043201510e4623a3c2e7c26ddde332a9949da9d659ca12"), looks := false }, kinds := [], alts := [], laidByText := true, laidKinds := [.data, .data, .pinned], laidTests := true, laidLooks := .later }
def FnTreeBackCardSaid : Prop := Claim7.holds Tryz.pinned (.plain (OpenSpec.ofChange fnTreeBackSpec)) fnTreeBackCard

/-- THE TIED CARD OF 'laws.FnBelowCut'. -/
def fnBelowCutCard : Claim7 := { stood := { row := fnBelowCutRow, standIns := [], harness := (true, "b742f75fcb7cfc164c043201510e4623a3c2e7c26ddde332a9949da9d659ca12"), looks := false }, kinds := [], alts := [], laidByText := true, laidKinds := [.data, .data, .pinned], laidTests := true, laidLooks := .later }
def FnBelowCutCardSaid : Prop := Claim7.holds Tryz.pinned (.plain (OpenSpec.ofChange fnBelowCutSpec)) fnBelowCutCard

/-- THE SECOND FORM's CARD OF 'laws.FnTreeBack'. -/
def fnTreeBackUptoCard : Claim7 := { stood := { row := fnTreeBackUptoRow, standIns := [], harness := (true, "b742f75fcb7cfc164c043201510e4623a3c2e7c26ddde332a9949da9d659ca12"), looks := false }, kinds := [], alts := [], laidByText := true, laidKinds := [.data, .data, .pinned], laidTests := true, laidLooks := .later }
def FnTreeBackUptoCardSaid : Prop := Claim7.holds Tryz.pinned (.plain (OpenSpec.upto fnTreeBackSpec)) fnTreeBackUptoCard

/-- THE SECOND FORM's CARD OF 'laws.FnBelowCut'. -/
def fnBelowCutUptoCard : Claim7 := { stood := { row := fnBelowCutUptoRow, standIns := [], harness := (true, "b742f75fcb7cfc164c043201510e4623a3c2e7c26ddde332a9949da9d659ca12"), looks := false }, kinds := [], alts := [], laidByText := true, laidKinds := [.data, .data, .pinned], laidTests := true, laidLooks := .later }
def FnBelowCutUptoCardSaid : Prop := Claim7.holds Tryz.pinned (.plain (OpenSpec.upto fnBelowCutSpec)) fnBelowCutUptoCard
end Rows
end Go.Proofs.YtaoimkjcaienbaaGreatDoor
