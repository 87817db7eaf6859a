/-
  DERIVED. GIVEN WITH THE SEED: THE CARDS: each row of YtnhddnfobcofcaaGreatDoorRows.lean that lists a variable, with what it lists TIED to the program's text (the seventh form; the later family's looks); each row that meets fmt, with fmt's text TOLD by the authors' own Lean function (tested against real Go, not proved from fmt's source: count such statements apart). THE CARD IS WHAT COUNTS. Prove the row's statement (the work); the ties are given (YtnhddnfobcofcaaGreatDoorTie.lean); close each card by the builder's one call (the guide's Derived/Test/ToyasCard.lean, 'card_holds'). Laid BY PROGRAM, IN A SANDBOX (cutbox-door.mjs). By AI agents, Wed Nov 11 2026. No macro, syntax, notation, axiom, sorry.
-/
import Derived.Test.YtnhddnfobcofcaaGreatDoorRows
import GoSem.ClaimSeven
namespace Go.Proofs.YtnhddnfobcofcaaGreatDoor
namespace Rows

/-- THE TIED CARD OF 'laws.FnCondBack'. -/
def fnCondBackCard : Claim7 := { stood := { row := fnCondBackRow, standIns := [], harness := (true, "dad63853c2564b804a68af79f0f7c801b2fbdde9cf64a3ad34df8c0f8edc6a00"), looks := false }, kinds := [], alts := [], laidByText := true, laidKinds := [.data, .pinned], laidTests := true, laidLooks := .later }
def FnCondBackCardSaid : Prop := Claim7.holds Tryz.pinned (.plain (OpenSpec.ofChange fnCondBackSpec)) fnCondBackCard

/-- THE SECOND FORM's CARD OF 'laws.FnCondBack'. -/
def fnCondBackUptoCard : Claim7 := { stood := { row := fnCondBackUptoRow, standIns := [], harness := (true, "dad63853c2564b804a68af79f0f7c801b2fbdde9cf64a3ad34df8c0f8edc6a00"), looks := false }, kinds := [], alts := [], laidByText := true, laidKinds := [.data, .pinned], laidTests := true, laidLooks := .later }
def FnCondBackUptoCardSaid : Prop := Claim7.holds Tryz.pinned (.plain (OpenSpec.upto fnCondBackSpec)) fnCondBackUptoCard
end Rows
end Go.Proofs.YtnhddnfobcofcaaGreatDoor
