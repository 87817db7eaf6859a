/-
  DERIVED. GIVEN WITH THE SEED: THE CARDS: each row of YtihjdggmmmlpkaaDoorRows.lean that lists a variable, with what it lists TIED to the program's text (the seventh form; the later family's looks); each row that meets fmt, with fmt's text TOLD by the authors' own Lean function (tested against real Go, not proved from fmt's source: count such statements apart). THE CARD IS WHAT COUNTS. Prove the row's statement (the work); the ties are given (YtihjdggmmmlpkaaDoorTie.lean); close each card by the builder's one call (the guide's Derived/Test/ToyasCard.lean, 'card_holds'). Laid BY PROGRAM, IN A SANDBOX (cutbox-door.mjs). By AI agents, Wed Nov 11 2026. No macro, syntax, notation, axiom, sorry.
-/
import Derived.Test.YtihjdggmmmlpkaaDoorRows
import GoSem.ClaimSeven
namespace Go.Proofs.YtihjdggmmmlpkaaDoor
namespace Rows

/-- THE TIED CARD OF 'laws.FnRollBack'. -/
def fnRollBackCard : Claim7 := { stood := { row := fnRollBackRow, standIns := [], harness := (true, "922548d0655534134af7f5a30a81c115d99533eb0cb5a143fe2740b3ee573a51"), looks := false }, kinds := [], alts := [], laidByText := true, laidKinds := [.data], laidTests := true, laidLooks := .later }
def FnRollBackCardSaid : Prop := Claim7.holds Tryd.pinned (.plain (OpenSpec.ofChange fnRollBackSpec)) fnRollBackCard

/-- THE SECOND FORM's CARD OF 'laws.FnRollBack'. -/
def fnRollBackUptoCard : Claim7 := { stood := { row := fnRollBackUptoRow, standIns := [], harness := (true, "922548d0655534134af7f5a30a81c115d99533eb0cb5a143fe2740b3ee573a51"), looks := false }, kinds := [], alts := [], laidByText := true, laidKinds := [.data], laidTests := true, laidLooks := .later }
def FnRollBackUptoCardSaid : Prop := Claim7.holds Tryd.pinned (.plain (OpenSpec.upto fnRollBackSpec)) fnRollBackUptoCard
end Rows
end Go.Proofs.YtihjdggmmmlpkaaDoor
