/-
  DERIVED. GIVEN WITH THE SEED: THE CARDS: each row of YtnicjhapalgpdaaGreatDoorRows.lean that lists a variable, with what it lists TIED to the program's text (the seventh form; the later family's looks); each row that meets fmt, with fmt's text TOLD by the authors' own Lean function (tested against real Go, not proved from fmt's source: count such statements apart). THE CARD IS WHAT COUNTS. Prove the row's statement (the work); the ties are given (YtnicjhapalgpdaaGreatDoorTie.lean); close each card by the builder's one call (the guide's Derived/Test/ToyasCard.lean, 'card_holds'). Laid BY PROGRAM, IN A SANDBOX (cutbox-door.mjs). By AI agents, Wed Nov 11 2026. No macro, syntax, notation, axiom, sorry.
-/
import Derived.Test.YtnicjhapalgpdaaGreatDoorRows
import GoSem.ClaimSeven
namespace Go.Proofs.YtnicjhapalgpdaaGreatDoor
namespace Rows

/-- THE TIED CARD OF 'laws.FnExactBest'. -/
def fnExactBestCard : Claim7 := { stood := { row := fnExactBestRow, standIns := [], harness := (true, "df236901057f0f93e845ffd70ede232f50b9bdd8c4bd634554b8b343bbb64255"), looks := true }, kinds := [], alts := [], laidByText := true, laidKinds := [.data, .data, .data, .data, .sentinel, .sentinel, .pinned], laidTests := true, laidLooks := .later }
def FnExactBestCardSaid : Prop := Claim7.holds Tryz.pinned (.plain (OpenSpec.ofChange fnExactBestSpec)) fnExactBestCard

/-- THE SECOND FORM's CARD OF 'laws.FnExactBest'. -/
def fnExactBestUptoCard : Claim7 := { stood := { row := fnExactBestUptoRow, standIns := [], harness := (true, "df236901057f0f93e845ffd70ede232f50b9bdd8c4bd634554b8b343bbb64255"), looks := true }, kinds := [], alts := [], laidByText := true, laidKinds := [.data, .data, .data, .data, .sentinel, .sentinel, .pinned], laidTests := true, laidLooks := .later }
def FnExactBestUptoCardSaid : Prop := Claim7.holds Tryz.pinned (.plain (OpenSpec.upto fnExactBestSpec)) fnExactBestUptoCard
end Rows
end Go.Proofs.YtnicjhapalgpdaaGreatDoor
