/-
  DERIVED. GIVEN WITH THE SEED: THE CARDS: each row of YtfibjbpipldhaaiDoorRows.lean that lists a variable, with what it lists TIED to the program's text (the seventh form; the later family's looks); each row that meets fmt, with fmt's text TOLD by the authors' own Lean function (tested against real Go, not proved from fmt's source: count such statements apart). THE CARD IS WHAT COUNTS. Prove the row's statement (the work); the ties are given (YtfibjbpipldhaaiDoorTie.lean); close each card by the builder's one call (the guide's Derived/Test/ToyasCard.lean, 'card_holds'). Laid BY PROGRAM, IN A SANDBOX (cutbox-door.mjs). By AI agents, Wed Nov 11 2026. No macro, syntax, notation, axiom, sorry.
-/
import Derived.Test.YtfibjbpipldhaaiDoorRows
import GoSem.ClaimSeven
namespace Go.Proofs.YtfibjbpipldhaaiDoor
namespace Rows

/-- THE TIED CARD OF 'laws.FnExactLex'. -/
def fnExactLexCard : Claim7 := { stood := { row := fnExactLexRow, standIns := [], harness := (true, "36ca0a6f6a21eeff0c17169207bed978de40e80d60e3648e7e5a9e8c1c3dd582"), looks := false }, kinds := [], alts := [], laidByText := true, laidKinds := [.data, .data], laidTests := true, laidLooks := .later }
def FnExactLexCardSaid : Prop := Claim7.holds Tryd.pinned (.plain (OpenSpec.ofChange fnExactLexSpec)) fnExactLexCard

/-- THE TIED CARD OF 'laws.FnExactShowText'. -/
def fnExactShowTextCard : Claim7 := { stood := { row := fnExactShowTextRow, standIns := [], harness := (true, "36ca0a6f6a21eeff0c17169207bed978de40e80d60e3648e7e5a9e8c1c3dd582"), looks := false }, kinds := [], alts := [], laidByText := true, laidKinds := [.data], laidTests := true, laidLooks := .later }
def FnExactShowTextCardSaid : Prop := Claim7.holds Tryd.pinned (.plain (OpenSpec.ofChange fnExactShowTextSpec)) fnExactShowTextCard

/-- THE SECOND FORM's CARD OF 'laws.FnExactLex'. -/
def fnExactLexUptoCard : Claim7 := { stood := { row := fnExactLexUptoRow, standIns := [], harness := (true, "36ca0a6f6a21eeff0c17169207bed978de40e80d60e3648e7e5a9e8c1c3dd582"), looks := false }, kinds := [], alts := [], laidByText := true, laidKinds := [.data, .data], laidTests := true, laidLooks := .later }
def FnExactLexUptoCardSaid : Prop := Claim7.holds Tryd.pinned (.plain (OpenSpec.upto fnExactLexSpec)) fnExactLexUptoCard

/-- THE SECOND FORM's CARD OF 'laws.FnExactShowText'. -/
def fnExactShowTextUptoCard : Claim7 := { stood := { row := fnExactShowTextUptoRow, standIns := [], harness := (true, "36ca0a6f6a21eeff0c17169207bed978de40e80d60e3648e7e5a9e8c1c3dd582"), looks := false }, kinds := [], alts := [], laidByText := true, laidKinds := [.data], laidTests := true, laidLooks := .later }
def FnExactShowTextUptoCardSaid : Prop := Claim7.holds Tryd.pinned (.plain (OpenSpec.upto fnExactShowTextSpec)) fnExactShowTextUptoCard
end Rows
end Go.Proofs.YtfibjbpipldhaaiDoor
