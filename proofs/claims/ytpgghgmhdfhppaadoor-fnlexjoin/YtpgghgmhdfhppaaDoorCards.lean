/-
  DERIVED. GIVEN WITH THE SEED: THE CARDS: each row of YtpgghgmhdfhppaaDoorRows.lean that lists a variable, with what it lists TIED to the program's text (the seventh form; the later family's looks); each row that meets fmt, with fmt's text TOLD by the authors' own Lean function (tested against real Go, not proved from fmt's source: count such statements apart). THE CARD IS WHAT COUNTS. Prove the row's statement (the work); the ties are given (YtpgghgmhdfhppaaDoorTie.lean); close each card by the builder's one call (the guide's Derived/Test/ToyasCard.lean, 'card_holds'). Laid BY PROGRAM, IN A SANDBOX (cutbox-door.mjs). By AI agents, Wed Nov 11 2026. No macro, syntax, notation, axiom, sorry.
-/
import Derived.Test.YtpgghgmhdfhppaaDoorRows
import GoSem.ClaimSeven
namespace Go.Proofs.YtpgghgmhdfhppaaDoor
namespace Rows

/-- THE TIED CARD OF 'laws.FnLexJoin'. -/
def fnLexJoinCard : Claim7 := { stood := { row := fnLexJoinRow, standIns := [], harness := (true, "f5af3ecc6a9d225583eeb86ea10fe1701409be466b4cf97abc212088ab4734f7"), looks := false }, kinds := [], alts := [], laidByText := true, laidKinds := [.data, .data], laidTests := true, laidLooks := .later }
def FnLexJoinCardSaid : Prop := Claim7.holds Tryd.pinned (.plain (OpenSpec.ofChange fnLexJoinSpec)) fnLexJoinCard

/-- THE SECOND FORM's CARD OF 'laws.FnLexJoin'. -/
def fnLexJoinUptoCard : Claim7 := { stood := { row := fnLexJoinUptoRow, standIns := [], harness := (true, "f5af3ecc6a9d225583eeb86ea10fe1701409be466b4cf97abc212088ab4734f7"), looks := false }, kinds := [], alts := [], laidByText := true, laidKinds := [.data, .data], laidTests := true, laidLooks := .later }
def FnLexJoinUptoCardSaid : Prop := Claim7.holds Tryd.pinned (.plain (OpenSpec.upto fnLexJoinSpec)) fnLexJoinUptoCard
end Rows
end Go.Proofs.YtpgghgmhdfhppaaDoor
