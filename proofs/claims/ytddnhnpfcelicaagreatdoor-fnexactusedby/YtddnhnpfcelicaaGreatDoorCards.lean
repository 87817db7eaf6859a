/-
  DERIVED. GIVEN WITH THE SEED: THE CARDS: each row of YtddnhnpfcelicaaGreatDoorRows.lean that lists a variable, with what it lists TIED to the program's text (the seventh form; the later family's looks); each row that meets fmt, with fmt's text TOLD by the authors' own Lean function (tested against real Go, not proved from fmt's source: count such statements apart). THE CARD IS WHAT COUNTS. Prove the row's statement (the work); the ties are given (YtddnhnpfcelicaaGreatDoorTie.lean); close each card by the builder's one call (the guide's Derived/Test/ToyasCard.lean, 'card_holds'). Laid BY PROGRAM, IN A SANDBOX (cutbox-door.mjs). By AI agents, Wed Nov 11 2026. No macro, syntax, notation, axiom, sorry.
-/
import Derived.Test.YtddnhnpfcelicaaGreatDoorRows
import GoSem.ClaimSeven
namespace Go.Proofs.YtddnhnpfcelicaaGreatDoor
namespace Rows

/-- THE TIED CARD OF 'laws.FnExactVerify'. -/
def fnExactVerifyCard : Claim7 := { stood := { row := fnExactVerifyRow, standIns := [], harness := (true, "b66e0bc83f3791c2f5a445ea5f03f1624a679c247e028ea3254335f46f48c904"), looks := false }, kinds := [], alts := [], laidByText := true, laidKinds := [.data, .data, .pinned], laidTests := true, laidLooks := .later }
def FnExactVerifyCardSaid : Prop := Claim7.holds Tryz.pinned (.plain (OpenSpec.ofChange fnExactVerifySpec)) fnExactVerifyCard

/-- THE TIED CARD OF 'laws.FnExactClosure'. -/
def fnExactClosureCard : Claim7 := { stood := { row := fnExactClosureRow, standIns := [], harness := (true, "b66e0bc83f3791c2f5a445ea5f03f1624a679c247e028ea3254335f46f48c904"), looks := false }, kinds := [], alts := [], laidByText := true, laidKinds := [.data, .data, .pinned], laidTests := true, laidLooks := .later }
def FnExactClosureCardSaid : Prop := Claim7.holds Tryz.pinned (.plain (OpenSpec.ofChange fnExactClosureSpec)) fnExactClosureCard

/-- THE TIED CARD OF 'laws.FnExactUsedBy'. -/
def fnExactUsedByCard : Claim7 := { stood := { row := fnExactUsedByRow, standIns := [], harness := (true, "b66e0bc83f3791c2f5a445ea5f03f1624a679c247e028ea3254335f46f48c904"), looks := false }, kinds := [], alts := [], laidByText := true, laidKinds := [.data, .data, .pinned], laidTests := true, laidLooks := .later }
def FnExactUsedByCardSaid : Prop := Claim7.holds Tryz.pinned (.plain (OpenSpec.ofChange fnExactUsedBySpec)) fnExactUsedByCard

/-- THE SECOND FORM's CARD OF 'laws.FnExactVerify'. -/
def fnExactVerifyUptoCard : Claim7 := { stood := { row := fnExactVerifyUptoRow, standIns := [], harness := (true, "b66e0bc83f3791c2f5a445ea5f03f1624a679c247e028ea3254335f46f48c904"), looks := false }, kinds := [], alts := [], laidByText := true, laidKinds := [.data, .data, .pinned], laidTests := true, laidLooks := .later }
def FnExactVerifyUptoCardSaid : Prop := Claim7.holds Tryz.pinned (.plain (OpenSpec.upto fnExactVerifySpec)) fnExactVerifyUptoCard

/-- THE SECOND FORM's CARD OF 'laws.FnExactClosure'. -/
def fnExactClosureUptoCard : Claim7 := { stood := { row := fnExactClosureUptoRow, standIns := [], harness := (true, "b66e0bc83f3791c2f5a445ea5f03f1624a679c247e028ea3254335f46f48c904"), looks := false }, kinds := [], alts := [], laidByText := true, laidKinds := [.data, .data, .pinned], laidTests := true, laidLooks := .later }
def FnExactClosureUptoCardSaid : Prop := Claim7.holds Tryz.pinned (.plain (OpenSpec.upto fnExactClosureSpec)) fnExactClosureUptoCard

/-- THE SECOND FORM's CARD OF 'laws.FnExactUsedBy'. -/
def fnExactUsedByUptoCard : Claim7 := { stood := { row := fnExactUsedByUptoRow, standIns := [], harness := (true, "b66e0bc83f3791c2f5a445ea5f03f1624a679c247e028ea3254335f46f48c904"), looks := false }, kinds := [], alts := [], laidByText := true, laidKinds := [.data, .data, .pinned], laidTests := true, laidLooks := .later }
def FnExactUsedByUptoCardSaid : Prop := Claim7.holds Tryz.pinned (.plain (OpenSpec.upto fnExactUsedBySpec)) fnExactUsedByUptoCard
end Rows
end Go.Proofs.YtddnhnpfcelicaaGreatDoor
