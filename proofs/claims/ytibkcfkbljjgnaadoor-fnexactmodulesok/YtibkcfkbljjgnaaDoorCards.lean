/-
  DERIVED. GIVEN WITH THE SEED: THE CARDS: each row of YtibkcfkbljjgnaaDoorRows.lean that lists a variable, with what it lists TIED to the program's text (the seventh form; the later family's looks); each row that meets fmt, with fmt's text TOLD by the authors' own Lean function (tested against real Go, not proved from fmt's source: count such statements apart). THE CARD IS WHAT COUNTS. Prove the row's statement (the work); the ties are given (YtibkcfkbljjgnaaDoorTie.lean); close each card by the builder's one call (the guide's Derived/Test/ToyasCard.lean, 'card_holds'). Laid BY PROGRAM, IN A SANDBOX (cutbox-door.mjs). By AI agents, Wed Nov 11 2026. No macro, syntax, notation, axiom, sorry.
-/
import Derived.Test.YtibkcfkbljjgnaaDoorRows
import GoSem.ClaimSeven
namespace Go.Proofs.YtibkcfkbljjgnaaDoor
namespace Rows

/-- THE TIED CARD OF 'laws.FnExactValueOk'. -/
def fnExactValueOkCard : Claim7 := { stood := { row := fnExactValueOkRow, standIns := [], harness := (true, "da85af617d781c99819ea8bdf69634753358fa6d684d9f24e593be6ab973cd63"), looks := false }, kinds := [], alts := [], laidByText := true, laidKinds := [.data, .pinned], laidTests := true, laidLooks := .later }
def FnExactValueOkCardSaid : Prop := Claim7.holds Tryd.pinned (.plain (OpenSpec.ofChange fnExactValueOkSpec)) fnExactValueOkCard

/-- THE TIED CARD OF 'laws.FnExactModulesOk'. -/
def fnExactModulesOkCard : Claim7 := { stood := { row := fnExactModulesOkRow, standIns := [], harness := (true, "da85af617d781c99819ea8bdf69634753358fa6d684d9f24e593be6ab973cd63"), looks := false }, kinds := [], alts := [], laidByText := true, laidKinds := [.data, .pinned], laidTests := true, laidLooks := .later }
def FnExactModulesOkCardSaid : Prop := Claim7.holds Tryd.pinned (.plain (OpenSpec.ofChange fnExactModulesOkSpec)) fnExactModulesOkCard

/-- THE SECOND FORM's CARD OF 'laws.FnExactValueOk'. -/
def fnExactValueOkUptoCard : Claim7 := { stood := { row := fnExactValueOkUptoRow, standIns := [], harness := (true, "da85af617d781c99819ea8bdf69634753358fa6d684d9f24e593be6ab973cd63"), looks := false }, kinds := [], alts := [], laidByText := true, laidKinds := [.data, .pinned], laidTests := true, laidLooks := .later }
def FnExactValueOkUptoCardSaid : Prop := Claim7.holds Tryd.pinned (.plain (OpenSpec.upto fnExactValueOkSpec)) fnExactValueOkUptoCard

/-- THE SECOND FORM's CARD OF 'laws.FnExactModulesOk'. -/
def fnExactModulesOkUptoCard : Claim7 := { stood := { row := fnExactModulesOkUptoRow, standIns := [], harness := (true, "da85af617d781c99819ea8bdf69634753358fa6d684d9f24e593be6ab973cd63"), looks := false }, kinds := [], alts := [], laidByText := true, laidKinds := [.data, .pinned], laidTests := true, laidLooks := .later }
def FnExactModulesOkUptoCardSaid : Prop := Claim7.holds Tryd.pinned (.plain (OpenSpec.upto fnExactModulesOkSpec)) fnExactModulesOkUptoCard
end Rows
end Go.Proofs.YtibkcfkbljjgnaaDoor
