/-
  DERIVED. GIVEN WITH THE SEED: THE CARDS: each row of YtpfnnjfapcnbnaaGreatDoorRows.lean that lists a variable, with what it lists TIED to the program's text (the seventh form; the later family's looks); each row that meets fmt, with fmt's text TOLD by the authors' own Lean function (tested against real Go, not proved from fmt's source: count such statements apart). THE CARD IS WHAT COUNTS. Prove the row's statement (the work); the ties are given (YtpfnnjfapcnbnaaGreatDoorTie.lean); close each card by the builder's one call (the guide's Derived/Test/ToyasCard.lean, 'card_holds'). Laid BY PROGRAM, IN A SANDBOX (cutbox-door.mjs). By AI agents, Wed Nov 11 2026. No macro, syntax, notation, axiom, sorry.
-/
import Derived.Test.YtpfnnjfapcnbnaaGreatDoorRows
import GoSem.ClaimSeven
namespace Go.Proofs.YtpfnnjfapcnbnaaGreatDoor
namespace Rows

/-- THE TIED CARD OF 'laws.FnExactWorldOk'. -/
def fnExactWorldOkCard : Claim7 := { stood := { row := fnExactWorldOkRow, standIns := [], harness := (true, "a180ac2aa5397ac29c33f37dff7d08e83d6a26fc81e99706a595d7d7e91f61fb"), looks := false }, kinds := [], alts := [], laidByText := true, laidKinds := [.data, .data, .pinned], laidTests := true, laidLooks := .later }
def FnExactWorldOkCardSaid : Prop := Claim7.holds Tryz.pinned (.plain (OpenSpec.ofChange fnExactWorldOkSpec)) fnExactWorldOkCard

/-- THE TIED CARD OF 'laws.FnExactAddItem'. -/
def fnExactAddItemCard : Claim7 := { stood := { row := fnExactAddItemRow, standIns := [], harness := (true, "a180ac2aa5397ac29c33f37dff7d08e83d6a26fc81e99706a595d7d7e91f61fb"), looks := false }, kinds := [], alts := [], laidByText := true, laidKinds := [.data, .data, .pinned], laidTests := true, laidLooks := .later }
def FnExactAddItemCardSaid : Prop := Claim7.holds Tryz.pinned (.plain (OpenSpec.ofChange fnExactAddItemSpec)) fnExactAddItemCard

/-- THE TIED CARD OF 'laws.FnExactPlanAdd'. -/
def fnExactPlanAddCard : Claim7 := { stood := { row := fnExactPlanAddRow, standIns := [], harness := (true, "a180ac2aa5397ac29c33f37dff7d08e83d6a26fc81e99706a595d7d7e91f61fb"), looks := false }, kinds := [], alts := [], laidByText := true, laidKinds := [.data, .data, .pinned], laidTests := true, laidLooks := .later }
def FnExactPlanAddCardSaid : Prop := Claim7.holds Tryz.pinned (.plain (OpenSpec.ofChange fnExactPlanAddSpec)) fnExactPlanAddCard

/-- THE SECOND FORM's CARD OF 'laws.FnExactWorldOk'. -/
def fnExactWorldOkUptoCard : Claim7 := { stood := { row := fnExactWorldOkUptoRow, standIns := [], harness := (true, "a180ac2aa5397ac29c33f37dff7d08e83d6a26fc81e99706a595d7d7e91f61fb"), looks := false }, kinds := [], alts := [], laidByText := true, laidKinds := [.data, .data, .pinned], laidTests := true, laidLooks := .later }
def FnExactWorldOkUptoCardSaid : Prop := Claim7.holds Tryz.pinned (.plain (OpenSpec.upto fnExactWorldOkSpec)) fnExactWorldOkUptoCard

/-- THE SECOND FORM's CARD OF 'laws.FnExactAddItem'. -/
def fnExactAddItemUptoCard : Claim7 := { stood := { row := fnExactAddItemUptoRow, standIns := [], harness := (true, "a180ac2aa5397ac29c33f37dff7d08e83d6a26fc81e99706a595d7d7e91f61fb"), looks := false }, kinds := [], alts := [], laidByText := true, laidKinds := [.data, .data, .pinned], laidTests := true, laidLooks := .later }
def FnExactAddItemUptoCardSaid : Prop := Claim7.holds Tryz.pinned (.plain (OpenSpec.upto fnExactAddItemSpec)) fnExactAddItemUptoCard

/-- THE SECOND FORM's CARD OF 'laws.FnExactPlanAdd'. -/
def fnExactPlanAddUptoCard : Claim7 := { stood := { row := fnExactPlanAddUptoRow, standIns := [], harness := (true, "a180ac2aa5397ac29c33f37dff7d08e83d6a26fc81e99706a595d7d7e91f61fb"), looks := false }, kinds := [], alts := [], laidByText := true, laidKinds := [.data, .data, .pinned], laidTests := true, laidLooks := .later }
def FnExactPlanAddUptoCardSaid : Prop := Claim7.holds Tryz.pinned (.plain (OpenSpec.upto fnExactPlanAddSpec)) fnExactPlanAddUptoCard
end Rows
end Go.Proofs.YtpfnnjfapcnbnaaGreatDoor
