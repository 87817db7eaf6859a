/-
  DERIVED. GIVEN WITH THE SEED: THE CARDS: each row of YtlolkckbpcfnbaaDoorRows.lean that lists a variable, with what it lists TIED to the program's text (the seventh form; the later family's looks); each row that meets fmt, with fmt's text TOLD by the authors' own Lean function (tested against real Go, not proved from fmt's source: count such statements apart). THE CARD IS WHAT COUNTS. Prove the row's statement (the work); the ties are given (YtlolkckbpcfnbaaDoorTie.lean); close each card by the builder's one call (the guide's Derived/Test/ToyasCard.lean, 'card_holds'). Laid BY PROGRAM, IN A SANDBOX (cutbox-door.mjs). By AI agents, Wed Nov 11 2026. No macro, syntax, notation, axiom, sorry.
-/
import Derived.Test.YtlolkckbpcfnbaaDoorRows
import GoSem.ClaimSeven
namespace Go.Proofs.YtlolkckbpcfnbaaDoor
namespace Rows

/-- THE TIED CARD OF 'laws.FnExactRefsIn'. -/
def fnExactRefsInCard : Claim7 := { stood := { row := fnExactRefsInRow, standIns := [], harness := (true, "45bc031d230433d0d7c6cbbcea7d7e377c61d96e04d4656624b61742e29dab95"), looks := false }, kinds := [], alts := [], laidByText := true, laidKinds := [.data, .data, .pinned], laidTests := true, laidLooks := .later }
def FnExactRefsInCardSaid : Prop := Claim7.holds Tryd.pinned (.plain (OpenSpec.ofChange fnExactRefsInSpec)) fnExactRefsInCard

/-- THE SECOND FORM's CARD OF 'laws.FnExactRefsIn'. -/
def fnExactRefsInUptoCard : Claim7 := { stood := { row := fnExactRefsInUptoRow, standIns := [], harness := (true, "45bc031d230433d0d7c6cbbcea7d7e377c61d96e04d4656624b61742e29dab95"), looks := false }, kinds := [], alts := [], laidByText := true, laidKinds := [.data, .data, .pinned], laidTests := true, laidLooks := .later }
def FnExactRefsInUptoCardSaid : Prop := Claim7.holds Tryd.pinned (.plain (OpenSpec.upto fnExactRefsInSpec)) fnExactRefsInUptoCard
end Rows
end Go.Proofs.YtlolkckbpcfnbaaDoor
