/-
  DERIVED. GIVEN WITH THE SEED: THE CARDS: each row of YtcpmgellfaeejaaGreatDoorRows.lean that lists a variable, with what it lists TIED to the program's text (the seventh form; the later family's looks); each row that meets fmt, with fmt's text TOLD by the authors' own Lean function (tested against real Go, not proved from fmt's source: count such statements apart). THE CARD IS WHAT COUNTS. Prove the row's statement (the work); the ties are given (YtcpmgellfaeejaaGreatDoorTie.lean); close each card by the builder's one call (the guide's Derived/Test/ToyasCard.lean, 'card_holds'). Laid BY PROGRAM, IN A SANDBOX (cutbox-door.mjs). By AI agents, Wed Nov 11 2026. No macro, syntax, notation, axiom, sorry.
-/
import Derived.Test.YtcpmgellfaeejaaGreatDoorRows
import GoSem.ClaimSeven
namespace Go.Proofs.YtcpmgellfaeejaaGreatDoor
namespace Rows

/-- THE TIED CARD OF 'laws.FnStoreAdds'. -/
def fnStoreAddsCard : Claim7 := { stood := { row := fnStoreAddsRow, standIns := [], harness := (true, "36e467b3011584e52903d00b0de711ce276822c59aae7d53796100792445dc63"), looks := false }, kinds := [], alts := [], laidByText := true, laidKinds := [.data, .data, .pinned], laidTests := true, laidLooks := .later }
def FnStoreAddsCardSaid : Prop := Claim7.holds Tryz.pinned (.plain (OpenSpec.ofChange fnStoreAddsSpec)) fnStoreAddsCard

/-- THE TIED CARD OF 'laws.FnClosureWhole'. -/
def fnClosureWholeCard : Claim7 := { stood := { row := fnClosureWholeRow, standIns := [], harness := (true, "36e467b3011584e52903d00b0de711ce276822c59aae7d53796100792445dc63"), looks := false }, kinds := [], alts := [], laidByText := true, laidKinds := [.data, .data, .pinned], laidTests := true, laidLooks := .later }
def FnClosureWholeCardSaid : Prop := Claim7.holds Tryz.pinned (.plain (OpenSpec.ofChange fnClosureWholeSpec)) fnClosureWholeCard

/-- THE SECOND FORM's CARD OF 'laws.FnStoreAdds'. -/
def fnStoreAddsUptoCard : Claim7 := { stood := { row := fnStoreAddsUptoRow, standIns := [], harness := (true, "36e467b3011584e52903d00b0de711ce276822c59aae7d53796100792445dc63"), looks := false }, kinds := [], alts := [], laidByText := true, laidKinds := [.data, .data, .pinned], laidTests := true, laidLooks := .later }
def FnStoreAddsUptoCardSaid : Prop := Claim7.holds Tryz.pinned (.plain (OpenSpec.upto fnStoreAddsSpec)) fnStoreAddsUptoCard

/-- THE SECOND FORM's CARD OF 'laws.FnClosureWhole'. -/
def fnClosureWholeUptoCard : Claim7 := { stood := { row := fnClosureWholeUptoRow, standIns := [], harness := (true, "36e467b3011584e52903d00b0de711ce276822c59aae7d53796100792445dc63"), looks := false }, kinds := [], alts := [], laidByText := true, laidKinds := [.data, .data, .pinned], laidTests := true, laidLooks := .later }
def FnClosureWholeUptoCardSaid : Prop := Claim7.holds Tryz.pinned (.plain (OpenSpec.upto fnClosureWholeSpec)) fnClosureWholeUptoCard
end Rows
end Go.Proofs.YtcpmgellfaeejaaGreatDoor
