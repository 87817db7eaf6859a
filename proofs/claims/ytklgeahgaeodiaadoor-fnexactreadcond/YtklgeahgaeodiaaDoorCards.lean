/-
  DERIVED. GIVEN WITH THE SEED: THE CARDS: each row of YtklgeahgaeodiaaDoorRows.lean that lists a variable, with what it lists TIED to the program's text (the seventh form; the later family's looks); each row that meets fmt, with fmt's text TOLD by the authors' own Lean function (tested against real Go, not proved from fmt's source: count such statements apart). THE CARD IS WHAT COUNTS. Prove the row's statement (the work); the ties are given (YtklgeahgaeodiaaDoorTie.lean); close each card by the builder's one call (the guide's Derived/Test/ToyasCard.lean, 'card_holds'). Laid BY PROGRAM, IN A SANDBOX (cutbox-door.mjs). By AI agents, Wed Nov 11 2026. No macro, syntax, notation, axiom, sorry.
-/
import Derived.Test.YtklgeahgaeodiaaDoorRows
import GoSem.ClaimSeven
namespace Go.Proofs.YtklgeahgaeodiaaDoor
namespace Rows

/-- THE TIED CARD OF 'laws.FnExactReadCond'. -/
def fnExactReadCondCard : Claim7 := { stood := { row := fnExactReadCondRow, standIns := [], harness := (true, "f453159b8dbef04d6237a8a27b258e7af0d50b5a813643edb309e42d21907588"), looks := false }, kinds := [], alts := [], laidByText := true, laidKinds := [.data, .pinned], laidTests := true, laidLooks := .later }
def FnExactReadCondCardSaid : Prop := Claim7.holds Tryd.pinned (.plain (OpenSpec.ofChange fnExactReadCondSpec)) fnExactReadCondCard

/-- THE SECOND FORM's CARD OF 'laws.FnExactReadCond'. -/
def fnExactReadCondUptoCard : Claim7 := { stood := { row := fnExactReadCondUptoRow, standIns := [], harness := (true, "f453159b8dbef04d6237a8a27b258e7af0d50b5a813643edb309e42d21907588"), looks := false }, kinds := [], alts := [], laidByText := true, laidKinds := [.data, .pinned], laidTests := true, laidLooks := .later }
def FnExactReadCondUptoCardSaid : Prop := Claim7.holds Tryd.pinned (.plain (OpenSpec.upto fnExactReadCondSpec)) fnExactReadCondUptoCard
end Rows
end Go.Proofs.YtklgeahgaeodiaaDoor
