/-
  DERIVED. GIVEN WITH THE SEED: THE CARDS: each row of YtmgnchipcapmlaaDoorRows.lean that lists a variable, with what it lists TIED to the program's text (the seventh form; the later family's looks); each row that meets fmt, with fmt's text TOLD by the authors' own Lean function (tested against real Go, not proved from fmt's source: count such statements apart). THE CARD IS WHAT COUNTS. Prove the row's statement (the work); the ties are given (YtmgnchipcapmlaaDoorTie.lean); close each card by the builder's one call (the guide's Derived/Test/ToyasCard.lean, 'card_holds'). Laid BY PROGRAM, IN A SANDBOX (cutbox-door.mjs). By AI agents, Wed Nov 11 2026. No macro, syntax, notation, axiom, sorry.
-/
import Derived.Test.YtmgnchipcapmlaaDoorRows
import GoSem.ClaimSeven
namespace Go.Proofs.YtmgnchipcapmlaaDoor
namespace Rows

/-- THE TIED CARD OF 'laws.FnExactVersionOk'. -/
def fnExactVersionOkCard : Claim7 := { stood := { row := fnExactVersionOkRow, standIns := [], harness := (true, "e8bbe52afb4e8e524b6d5bc1990f96707ef4b209b4fceb4bc0ae4ef7fe7ac1e5"), looks := true }, kinds := [], alts := [], laidByText := true, laidKinds := [.data, .data, .data, .sentinel, .sentinel], laidTests := true, laidLooks := .later }
def FnExactVersionOkCardSaid : Prop := Claim7.holds Tryd.pinned (.plain (OpenSpec.ofChange fnExactVersionOkSpec)) fnExactVersionOkCard

/-- THE TIED CARD OF 'laws.FnExactCompareVersions'. -/
def fnExactCompareVersionsCard : Claim7 := { stood := { row := fnExactCompareVersionsRow, standIns := [], harness := (true, "e8bbe52afb4e8e524b6d5bc1990f96707ef4b209b4fceb4bc0ae4ef7fe7ac1e5"), looks := true }, kinds := [], alts := [], laidByText := true, laidKinds := [.data, .data, .data, .sentinel, .sentinel], laidTests := true, laidLooks := .later }
def FnExactCompareVersionsCardSaid : Prop := Claim7.holds Tryd.pinned (.plain (OpenSpec.ofChange fnExactCompareVersionsSpec)) fnExactCompareVersionsCard

/-- THE SECOND FORM's CARD OF 'laws.FnExactVersionOk'. -/
def fnExactVersionOkUptoCard : Claim7 := { stood := { row := fnExactVersionOkUptoRow, standIns := [], harness := (true, "e8bbe52afb4e8e524b6d5bc1990f96707ef4b209b4fceb4bc0ae4ef7fe7ac1e5"), looks := true }, kinds := [], alts := [], laidByText := true, laidKinds := [.data, .data, .data, .sentinel, .sentinel], laidTests := true, laidLooks := .later }
def FnExactVersionOkUptoCardSaid : Prop := Claim7.holds Tryd.pinned (.plain (OpenSpec.upto fnExactVersionOkSpec)) fnExactVersionOkUptoCard

/-- THE SECOND FORM's CARD OF 'laws.FnExactCompareVersions'. -/
def fnExactCompareVersionsUptoCard : Claim7 := { stood := { row := fnExactCompareVersionsUptoRow, standIns := [], harness := (true, "e8bbe52afb4e8e524b6d5bc1990f96707ef4b209b4fceb4bc0ae4ef7fe7ac1e5"), looks := true }, kinds := [], alts := [], laidByText := true, laidKinds := [.data, .data, .data, .sentinel, .sentinel], laidTests := true, laidLooks := .later }
def FnExactCompareVersionsUptoCardSaid : Prop := Claim7.holds Tryd.pinned (.plain (OpenSpec.upto fnExactCompareVersionsSpec)) fnExactCompareVersionsUptoCard
end Rows
end Go.Proofs.YtmgnchipcapmlaaDoor
