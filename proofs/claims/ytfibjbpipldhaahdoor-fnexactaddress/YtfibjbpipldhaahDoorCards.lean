/-
  DERIVED. GIVEN WITH THE SEED: THE CARDS: each row of YtfibjbpipldhaahDoorRows.lean that lists a variable, with what it lists TIED to the program's text (the seventh form; the later family's looks); each row that meets fmt, with fmt's text TOLD by the authors' own Lean function (tested against real Go, not proved from fmt's source: count such statements apart). THE CARD IS WHAT COUNTS. Prove the row's statement (the work); the ties are given (YtfibjbpipldhaahDoorTie.lean); close each card by the builder's one call (the guide's Derived/Test/ToyasCard.lean, 'card_holds'). Laid BY PROGRAM, IN A SANDBOX (cutbox-door.mjs). By AI agents, Wed Nov 11 2026. No macro, syntax, notation, axiom, sorry.
-/
import Derived.Test.YtfibjbpipldhaahDoorRows
import GoSem.ClaimSeven
namespace Go.Proofs.YtfibjbpipldhaahDoor
namespace Rows

/-- THE TIED CARD OF 'laws.FnExactWord32'. -/
def fnExactWord32Card : Claim7 := { stood := { row := fnExactWord32Row, standIns := [], harness := (true, "4f5df24b863589c53c004d64f2291dcdf8eeee974df579ee8a3e0700aae12044"), looks := false }, kinds := [], alts := [], laidByText := true, laidKinds := [.data], laidTests := true, laidLooks := .later }
def FnExactWord32CardSaid : Prop := Claim7.holds Tryd.pinned (.plain (OpenSpec.ofChange fnExactWord32Spec)) fnExactWord32Card

/-- THE TIED CARD OF 'laws.FnExactReadWord32'. -/
def fnExactReadWord32Card : Claim7 := { stood := { row := fnExactReadWord32Row, standIns := [], harness := (true, "4f5df24b863589c53c004d64f2291dcdf8eeee974df579ee8a3e0700aae12044"), looks := false }, kinds := [], alts := [], laidByText := true, laidKinds := [.data], laidTests := true, laidLooks := .later }
def FnExactReadWord32CardSaid : Prop := Claim7.holds Tryd.pinned (.plain (OpenSpec.ofChange fnExactReadWord32Spec)) fnExactReadWord32Card

/-- THE TIED CARD OF 'laws.FnExactAddress'. -/
def fnExactAddressCard : Claim7 := { stood := { row := fnExactAddressRow, standIns := [], harness := (true, "4f5df24b863589c53c004d64f2291dcdf8eeee974df579ee8a3e0700aae12044"), looks := false }, kinds := [], alts := [], laidByText := true, laidKinds := [.data], laidTests := true, laidLooks := .later }
def FnExactAddressCardSaid : Prop := Claim7.holds Tryd.pinned (.plain (OpenSpec.ofChange fnExactAddressSpec)) fnExactAddressCard

/-- THE TIED CARD OF 'laws.FnExactAddressOk'. -/
def fnExactAddressOkCard : Claim7 := { stood := { row := fnExactAddressOkRow, standIns := [], harness := (true, "4f5df24b863589c53c004d64f2291dcdf8eeee974df579ee8a3e0700aae12044"), looks := false }, kinds := [], alts := [], laidByText := true, laidKinds := [.data], laidTests := true, laidLooks := .later }
def FnExactAddressOkCardSaid : Prop := Claim7.holds Tryd.pinned (.plain (OpenSpec.ofChange fnExactAddressOkSpec)) fnExactAddressOkCard

/-- THE SECOND FORM's CARD OF 'laws.FnExactWord32'. -/
def fnExactWord32UptoCard : Claim7 := { stood := { row := fnExactWord32UptoRow, standIns := [], harness := (true, "4f5df24b863589c53c004d64f2291dcdf8eeee974df579ee8a3e0700aae12044"), looks := false }, kinds := [], alts := [], laidByText := true, laidKinds := [.data], laidTests := true, laidLooks := .later }
def FnExactWord32UptoCardSaid : Prop := Claim7.holds Tryd.pinned (.plain (OpenSpec.upto fnExactWord32Spec)) fnExactWord32UptoCard

/-- THE SECOND FORM's CARD OF 'laws.FnExactReadWord32'. -/
def fnExactReadWord32UptoCard : Claim7 := { stood := { row := fnExactReadWord32UptoRow, standIns := [], harness := (true, "4f5df24b863589c53c004d64f2291dcdf8eeee974df579ee8a3e0700aae12044"), looks := false }, kinds := [], alts := [], laidByText := true, laidKinds := [.data], laidTests := true, laidLooks := .later }
def FnExactReadWord32UptoCardSaid : Prop := Claim7.holds Tryd.pinned (.plain (OpenSpec.upto fnExactReadWord32Spec)) fnExactReadWord32UptoCard

/-- THE SECOND FORM's CARD OF 'laws.FnExactAddress'. -/
def fnExactAddressUptoCard : Claim7 := { stood := { row := fnExactAddressUptoRow, standIns := [], harness := (true, "4f5df24b863589c53c004d64f2291dcdf8eeee974df579ee8a3e0700aae12044"), looks := false }, kinds := [], alts := [], laidByText := true, laidKinds := [.data], laidTests := true, laidLooks := .later }
def FnExactAddressUptoCardSaid : Prop := Claim7.holds Tryd.pinned (.plain (OpenSpec.upto fnExactAddressSpec)) fnExactAddressUptoCard

/-- THE SECOND FORM's CARD OF 'laws.FnExactAddressOk'. -/
def fnExactAddressOkUptoCard : Claim7 := { stood := { row := fnExactAddressOkUptoRow, standIns := [], harness := (true, "4f5df24b863589c53c004d64f2291dcdf8eeee974df579ee8a3e0700aae12044"), looks := false }, kinds := [], alts := [], laidByText := true, laidKinds := [.data], laidTests := true, laidLooks := .later }
def FnExactAddressOkUptoCardSaid : Prop := Claim7.holds Tryd.pinned (.plain (OpenSpec.upto fnExactAddressOkSpec)) fnExactAddressOkUptoCard
end Rows
end Go.Proofs.YtfibjbpipldhaahDoor
