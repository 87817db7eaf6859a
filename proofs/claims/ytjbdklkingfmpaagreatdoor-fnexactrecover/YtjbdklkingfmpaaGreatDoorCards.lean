/-
  DERIVED. GIVEN WITH THE SEED: THE CARDS: each row of YtjbdklkingfmpaaGreatDoorRows.lean that lists a variable, with what it lists TIED to the program's text (the seventh form; the later family's looks); each row that meets fmt, with fmt's text TOLD by the authors' own Lean function (tested against real Go, not proved from fmt's source: count such statements apart). THE CARD IS WHAT COUNTS. Prove the row's statement (the work); the ties are given (YtjbdklkingfmpaaGreatDoorTie.lean); close each card by the builder's one call (the guide's Derived/Test/ToyasCard.lean, 'card_holds'). Laid BY PROGRAM, IN A SANDBOX (cutbox-door.mjs). By AI agents, Wed Nov 11 2026. No macro, syntax, notation, axiom, sorry.
-/
import Derived.Test.YtjbdklkingfmpaaGreatDoorRows
import GoSem.ClaimSeven
namespace Go.Proofs.YtjbdklkingfmpaaGreatDoor
namespace Rows

/-- THE TIED CARD OF 'laws.FnExactNeeded'. -/
def fnExactNeededCard : Claim7 := { stood := { row := fnExactNeededRow, standIns := [], harness := (true, "782cb6e8eb552df4d34018a662d7be2b7408b92c68a6a844c9e44bde587ba887"), looks := false }, kinds := [], alts := [], laidByText := true, laidKinds := [.data, .data, .pinned], laidTests := true, laidLooks := .later }
def FnExactNeededCardSaid : Prop := Claim7.holds Tryz.pinned (.plain (OpenSpec.ofChange fnExactNeededSpec)) fnExactNeededCard

/-- THE TIED CARD OF 'laws.FnExactRecover'. -/
def fnExactRecoverCard : Claim7 := { stood := { row := fnExactRecoverRow, standIns := [], harness := (true, "782cb6e8eb552df4d34018a662d7be2b7408b92c68a6a844c9e44bde587ba887"), looks := false }, kinds := [], alts := [], laidByText := true, laidKinds := [.data, .data, .pinned], laidTests := true, laidLooks := .later }
def FnExactRecoverCardSaid : Prop := Claim7.holds Tryz.pinned (.plain (OpenSpec.ofChange fnExactRecoverSpec)) fnExactRecoverCard

/-- THE SECOND FORM's CARD OF 'laws.FnExactNeeded'. -/
def fnExactNeededUptoCard : Claim7 := { stood := { row := fnExactNeededUptoRow, standIns := [], harness := (true, "782cb6e8eb552df4d34018a662d7be2b7408b92c68a6a844c9e44bde587ba887"), looks := false }, kinds := [], alts := [], laidByText := true, laidKinds := [.data, .data, .pinned], laidTests := true, laidLooks := .later }
def FnExactNeededUptoCardSaid : Prop := Claim7.holds Tryz.pinned (.plain (OpenSpec.upto fnExactNeededSpec)) fnExactNeededUptoCard

/-- THE SECOND FORM's CARD OF 'laws.FnExactRecover'. -/
def fnExactRecoverUptoCard : Claim7 := { stood := { row := fnExactRecoverUptoRow, standIns := [], harness := (true, "782cb6e8eb552df4d34018a662d7be2b7408b92c68a6a844c9e44bde587ba887"), looks := false }, kinds := [], alts := [], laidByText := true, laidKinds := [.data, .data, .pinned], laidTests := true, laidLooks := .later }
def FnExactRecoverUptoCardSaid : Prop := Claim7.holds Tryz.pinned (.plain (OpenSpec.upto fnExactRecoverSpec)) fnExactRecoverUptoCard
end Rows
end Go.Proofs.YtjbdklkingfmpaaGreatDoor
