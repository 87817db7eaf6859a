/-
  DERIVED. GIVEN WITH THE SEED: THE CARDS: each row of YtbnmefponeomiaaDoorRows.lean that lists a variable, with what it lists TIED to the program's text (the seventh form; the later family's looks); each row that meets fmt, with fmt's text TOLD by the authors' own Lean function (tested against real Go, not proved from fmt's source: count such statements apart). THE CARD IS WHAT COUNTS. Prove the row's statement (the work); the ties are given (YtbnmefponeomiaaDoorTie.lean); close each card by the builder's one call (the guide's Derived/Test/ToyasCard.lean, 'card_holds'). Laid BY PROGRAM, IN A SANDBOX (cutbox-door.mjs). By AI agents, Wed Nov 11 2026. No macro, syntax, notation, axiom, sorry.
-/
import Derived.Test.YtbnmefponeomiaaDoorRows
import GoSem.ClaimSeven
namespace Go.Proofs.YtbnmefponeomiaaDoor
namespace Rows

/-- THE TIED CARD OF 'laws.FnWordBack'. -/
def fnWordBackCard : Claim7 := { stood := { row := fnWordBackRow, standIns := [], harness := (true, "2289cde0f9c2473021b302c96f0f6fc8aeecc459a509423cea94c9dc7c6c7b0a"), looks := false }, kinds := [], alts := [], laidByText := true, laidKinds := [.data], laidTests := true, laidLooks := .later }
def FnWordBackCardSaid : Prop := Claim7.holds Tryd.pinned (.plain (OpenSpec.ofChange fnWordBackSpec)) fnWordBackCard

/-- THE TIED CARD OF 'laws.FnLexJoin'. -/
def fnLexJoinCard : Claim7 := { stood := { row := fnLexJoinRow, standIns := [], harness := (true, "2289cde0f9c2473021b302c96f0f6fc8aeecc459a509423cea94c9dc7c6c7b0a"), looks := false }, kinds := [], alts := [], laidByText := true, laidKinds := [.data, .data], laidTests := true, laidLooks := .later }
def FnLexJoinCardSaid : Prop := Claim7.holds Tryd.pinned (.plain (OpenSpec.ofChange fnLexJoinSpec)) fnLexJoinCard

/-- THE SECOND FORM's CARD OF 'laws.FnWordBack'. -/
def fnWordBackUptoCard : Claim7 := { stood := { row := fnWordBackUptoRow, standIns := [], harness := (true, "2289cde0f9c2473021b302c96f0f6fc8aeecc459a509423cea94c9dc7c6c7b0a"), looks := false }, kinds := [], alts := [], laidByText := true, laidKinds := [.data], laidTests := true, laidLooks := .later }
def FnWordBackUptoCardSaid : Prop := Claim7.holds Tryd.pinned (.plain (OpenSpec.upto fnWordBackSpec)) fnWordBackUptoCard

/-- THE SECOND FORM's CARD OF 'laws.FnLexJoin'. -/
def fnLexJoinUptoCard : Claim7 := { stood := { row := fnLexJoinUptoRow, standIns := [], harness := (true, "2289cde0f9c2473021b302c96f0f6fc8aeecc459a509423cea94c9dc7c6c7b0a"), looks := false }, kinds := [], alts := [], laidByText := true, laidKinds := [.data, .data], laidTests := true, laidLooks := .later }
def FnLexJoinUptoCardSaid : Prop := Claim7.holds Tryd.pinned (.plain (OpenSpec.upto fnLexJoinSpec)) fnLexJoinUptoCard
end Rows
end Go.Proofs.YtbnmefponeomiaaDoor
