/-
  DERIVED. GIVEN WITH THE SEED: THE CARDS: each row of YtecpebpdillhlaaDoorRows.lean that lists a variable, with what it lists TIED to the program's text (the seventh form; the later family's looks); each row that meets fmt, with fmt's text TOLD by the authors' own Lean function (tested against real Go, not proved from fmt's source: count such statements apart). THE CARD IS WHAT COUNTS. Prove the row's statement (the work); the ties are given (YtecpebpdillhlaaDoorTie.lean); close each card by the builder's one call (the guide's Derived/Test/ToyasCard.lean, 'card_holds'). Laid BY PROGRAM, IN A SANDBOX (cutbox-door.mjs). By AI agents, Wed Nov 11 2026. No macro, syntax, notation, axiom, sorry.
-/
import Derived.Test.YtecpebpdillhlaaDoorRows
import GoSem.ClaimSeven
namespace Go.Proofs.YtecpebpdillhlaaDoor
namespace Rows

/-- THE TIED CARD OF 'laws.FnWordBack'. -/
def fnWordBackCard : Claim7 := { stood := { row := fnWordBackRow, standIns := [], harness := (true, "b8bc30f1a5512fba66597506cf3b3d1c4d70c5682d499b5f962c8936982a0e60"), looks := false }, kinds := [], alts := [], laidByText := true, laidKinds := [.data], laidTests := true, laidLooks := .later }
def FnWordBackCardSaid : Prop := Claim7.holds Tryd.pinned (.plain (OpenSpec.ofChange fnWordBackSpec)) fnWordBackCard

/-- THE TIED CARD OF 'laws.FnExactReadWord32'. -/
def fnExactReadWord32Card : Claim7 := { stood := { row := fnExactReadWord32Row, standIns := [], harness := (true, "b8bc30f1a5512fba66597506cf3b3d1c4d70c5682d499b5f962c8936982a0e60"), looks := false }, kinds := [], alts := [], laidByText := true, laidKinds := [.data], laidTests := true, laidLooks := .later }
def FnExactReadWord32CardSaid : Prop := Claim7.holds Tryd.pinned (.plain (OpenSpec.ofChange fnExactReadWord32Spec)) fnExactReadWord32Card

/-- THE TIED CARD OF 'laws.FnExactAddressOk'. -/
def fnExactAddressOkCard : Claim7 := { stood := { row := fnExactAddressOkRow, standIns := [], harness := (true, "b8bc30f1a5512fba66597506cf3b3d1c4d70c5682d499b5f962c8936982a0e60"), looks := false }, kinds := [], alts := [], laidByText := true, laidKinds := [.data], laidTests := true, laidLooks := .later }
def FnExactAddressOkCardSaid : Prop := Claim7.holds Tryd.pinned (.plain (OpenSpec.ofChange fnExactAddressOkSpec)) fnExactAddressOkCard

/-- THE SECOND FORM's CARD OF 'laws.FnWordBack'. -/
def fnWordBackUptoCard : Claim7 := { stood := { row := fnWordBackUptoRow, standIns := [], harness := (true, "b8bc30f1a5512fba66597506cf3b3d1c4d70c5682d499b5f962c8936982a0e60"), looks := false }, kinds := [], alts := [], laidByText := true, laidKinds := [.data], laidTests := true, laidLooks := .later }
def FnWordBackUptoCardSaid : Prop := Claim7.holds Tryd.pinned (.plain (OpenSpec.upto fnWordBackSpec)) fnWordBackUptoCard

/-- THE SECOND FORM's CARD OF 'laws.FnExactReadWord32'. -/
def fnExactReadWord32UptoCard : Claim7 := { stood := { row := fnExactReadWord32UptoRow, standIns := [], harness := (true, "b8bc30f1a5512fba66597506cf3b3d1c4d70c5682d499b5f962c8936982a0e60"), looks := false }, kinds := [], alts := [], laidByText := true, laidKinds := [.data], laidTests := true, laidLooks := .later }
def FnExactReadWord32UptoCardSaid : Prop := Claim7.holds Tryd.pinned (.plain (OpenSpec.upto fnExactReadWord32Spec)) fnExactReadWord32UptoCard

/-- THE SECOND FORM's CARD OF 'laws.FnExactAddressOk'. -/
def fnExactAddressOkUptoCard : Claim7 := { stood := { row := fnExactAddressOkUptoRow, standIns := [], harness := (true, "b8bc30f1a5512fba66597506cf3b3d1c4d70c5682d499b5f962c8936982a0e60"), looks := false }, kinds := [], alts := [], laidByText := true, laidKinds := [.data], laidTests := true, laidLooks := .later }
def FnExactAddressOkUptoCardSaid : Prop := Claim7.holds Tryd.pinned (.plain (OpenSpec.upto fnExactAddressOkSpec)) fnExactAddressOkUptoCard
end Rows
end Go.Proofs.YtecpebpdillhlaaDoor
