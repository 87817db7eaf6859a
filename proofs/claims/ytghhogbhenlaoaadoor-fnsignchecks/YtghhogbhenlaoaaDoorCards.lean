/-
  DERIVED. GIVEN WITH THE SEED: THE CARDS: each row of YtghhogbhenlaoaaDoorRows.lean that lists a variable, with what it lists TIED to the program's text (the seventh form; the later family's looks); each row that meets fmt, with fmt's text TOLD by the authors' own Lean function (tested against real Go, not proved from fmt's source: count such statements apart). THE CARD IS WHAT COUNTS. Prove the row's statement (the work); the ties are given (YtghhogbhenlaoaaDoorTie.lean); close each card by the builder's one call (the guide's Derived/Test/ToyasCard.lean, 'card_holds'). Laid BY PROGRAM, IN A SANDBOX (cutbox-door.mjs). By AI agents, Wed Nov 11 2026. No macro, syntax, notation, axiom, sorry.
-/
import Derived.Test.YtghhogbhenlaoaaDoorRows
import GoSem.ClaimSeven
namespace Go.Proofs.YtghhogbhenlaoaaDoor
namespace Rows

/-- THE TIED CARD OF 'laws.FnSignChecks'. -/
def fnSignChecksCard : Claim7 := { stood := { row := fnSignChecksRow, standIns := [], harness := (true, "6199fd8a1c1f6b2cae51fe29c79e67a8eff8f453f2d6484e9559eb274d4c4e77"), looks := false }, kinds := [], alts := [], laidByText := true, laidKinds := [.data], laidTests := true, laidLooks := .later }
def FnSignChecksCardSaid : Prop := Claim7.holds Tryd.pinned (.plain (OpenSpec.ofChange fnSignChecksSpec)) fnSignChecksCard

/-- THE SECOND FORM's CARD OF 'laws.FnSignChecks'. -/
def fnSignChecksUptoCard : Claim7 := { stood := { row := fnSignChecksUptoRow, standIns := [], harness := (true, "6199fd8a1c1f6b2cae51fe29c79e67a8eff8f453f2d6484e9559eb274d4c4e77"), looks := false }, kinds := [], alts := [], laidByText := true, laidKinds := [.data], laidTests := true, laidLooks := .later }
def FnSignChecksUptoCardSaid : Prop := Claim7.holds Tryd.pinned (.plain (OpenSpec.upto fnSignChecksSpec)) fnSignChecksUptoCard
end Rows
end Go.Proofs.YtghhogbhenlaoaaDoor
