/-
  DERIVED. GIVEN WITH THE SEED: THE CARDS: each row of YtifgaaemdojmpaaGreatDoorRows.lean that lists a variable, with what it lists TIED to the program's text (the seventh form; the later family's looks); each row that meets fmt, with fmt's text TOLD by the authors' own Lean function (tested against real Go, not proved from fmt's source: count such statements apart). THE CARD IS WHAT COUNTS. Prove the row's statement (the work); the ties are given (YtifgaaemdojmpaaGreatDoorTie.lean); close each card by the builder's one call (the guide's Derived/Test/ToyasCard.lean, 'card_holds'). Laid BY PROGRAM, IN A SANDBOX (cutbox-door.mjs). By AI agents, Wed Nov 11 2026. No macro, syntax, notation, axiom, sorry.
-/
import Derived.Test.YtifgaaemdojmpaaGreatDoorRows
import GoSem.ClaimSeven
namespace Go.Proofs.YtifgaaemdojmpaaGreatDoor
namespace Rows

/-- THE TIED CARD OF 'laws.FnFreeBound'. -/
def fnFreeBoundCard : Claim7 := { stood := { row := fnFreeBoundRow, standIns := [], harness := (true, "654a70866cdd2276366d81b178e4cf087ab7de9f5f9f28e72bf46da5af9ace50"), looks := true }, kinds := [], alts := [], laidByText := true, laidKinds := [.data, .data, .data], laidTests := true, laidLooks := .later }
def FnFreeBoundCardSaid : Prop := Claim7.holds Tryz.pinned (.plain (OpenSpec.ofChange fnFreeBoundSpec)) fnFreeBoundCard

/-- THE SECOND FORM's CARD OF 'laws.FnFreeBound'. -/
def fnFreeBoundUptoCard : Claim7 := { stood := { row := fnFreeBoundUptoRow, standIns := [], harness := (true, "654a70866cdd2276366d81b178e4cf087ab7de9f5f9f28e72bf46da5af9ace50"), looks := true }, kinds := [], alts := [], laidByText := true, laidKinds := [.data, .data, .data], laidTests := true, laidLooks := .later }
def FnFreeBoundUptoCardSaid : Prop := Claim7.holds Tryz.pinned (.plain (OpenSpec.upto fnFreeBoundSpec)) fnFreeBoundUptoCard
end Rows
end Go.Proofs.YtifgaaemdojmpaaGreatDoor
