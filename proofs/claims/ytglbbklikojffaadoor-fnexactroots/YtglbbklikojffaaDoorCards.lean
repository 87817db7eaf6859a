/-
  DERIVED. GIVEN WITH THE SEED: THE CARDS: each row of YtglbbklikojffaaDoorRows.lean that lists a variable, with what it lists TIED to the program's text (the seventh form; the later family's looks); each row that meets fmt, with fmt's text TOLD by the authors' own Lean function (tested against real Go, not proved from fmt's source: count such statements apart). THE CARD IS WHAT COUNTS. Prove the row's statement (the work); the ties are given (YtglbbklikojffaaDoorTie.lean); close each card by the builder's one call (the guide's Derived/Test/ToyasCard.lean, 'card_holds'). Laid BY PROGRAM, IN A SANDBOX (cutbox-door.mjs). By AI agents, Wed Nov 11 2026. No macro, syntax, notation, axiom, sorry.
-/
import Derived.Test.YtglbbklikojffaaDoorRows
import GoSem.ClaimSeven
namespace Go.Proofs.YtglbbklikojffaaDoor
namespace Rows

/-- THE TIED CARD OF 'laws.FnExactProfilesOk'. -/
def fnExactProfilesOkCard : Claim7 := { stood := { row := fnExactProfilesOkRow, standIns := [], harness := (true, "ebc284c66cb8e044f2acee6c0985e5e456332dd1ca4259cc221befaed359652a"), looks := false }, kinds := [], alts := [], laidByText := true, laidKinds := [.data], laidTests := true, laidLooks := .later }
def FnExactProfilesOkCardSaid : Prop := Claim7.holds Tryd.pinned (.plain (OpenSpec.ofChange fnExactProfilesOkSpec)) fnExactProfilesOkCard

/-- THE TIED CARD OF 'laws.FnExactSwitch'. -/
def fnExactSwitchCard : Claim7 := { stood := { row := fnExactSwitchRow, standIns := [], harness := (true, "ebc284c66cb8e044f2acee6c0985e5e456332dd1ca4259cc221befaed359652a"), looks := false }, kinds := [], alts := [], laidByText := true, laidKinds := [.data], laidTests := true, laidLooks := .later }
def FnExactSwitchCardSaid : Prop := Claim7.holds Tryd.pinned (.plain (OpenSpec.ofChange fnExactSwitchSpec)) fnExactSwitchCard

/-- THE TIED CARD OF 'laws.FnExactRollback'. -/
def fnExactRollbackCard : Claim7 := { stood := { row := fnExactRollbackRow, standIns := [], harness := (true, "ebc284c66cb8e044f2acee6c0985e5e456332dd1ca4259cc221befaed359652a"), looks := false }, kinds := [], alts := [], laidByText := true, laidKinds := [.data], laidTests := true, laidLooks := .later }
def FnExactRollbackCardSaid : Prop := Claim7.holds Tryd.pinned (.plain (OpenSpec.ofChange fnExactRollbackSpec)) fnExactRollbackCard

/-- THE TIED CARD OF 'laws.FnExactPrune'. -/
def fnExactPruneCard : Claim7 := { stood := { row := fnExactPruneRow, standIns := [], harness := (true, "ebc284c66cb8e044f2acee6c0985e5e456332dd1ca4259cc221befaed359652a"), looks := false }, kinds := [], alts := [], laidByText := true, laidKinds := [.data], laidTests := true, laidLooks := .later }
def FnExactPruneCardSaid : Prop := Claim7.holds Tryd.pinned (.plain (OpenSpec.ofChange fnExactPruneSpec)) fnExactPruneCard

/-- THE TIED CARD OF 'laws.FnExactCurrent'. -/
def fnExactCurrentCard : Claim7 := { stood := { row := fnExactCurrentRow, standIns := [], harness := (true, "ebc284c66cb8e044f2acee6c0985e5e456332dd1ca4259cc221befaed359652a"), looks := false }, kinds := [], alts := [], laidByText := true, laidKinds := [.data], laidTests := true, laidLooks := .later }
def FnExactCurrentCardSaid : Prop := Claim7.holds Tryd.pinned (.plain (OpenSpec.ofChange fnExactCurrentSpec)) fnExactCurrentCard

/-- THE TIED CARD OF 'laws.FnExactRoots'. -/
def fnExactRootsCard : Claim7 := { stood := { row := fnExactRootsRow, standIns := [], harness := (true, "ebc284c66cb8e044f2acee6c0985e5e456332dd1ca4259cc221befaed359652a"), looks := false }, kinds := [], alts := [], laidByText := true, laidKinds := [.data], laidTests := true, laidLooks := .later }
def FnExactRootsCardSaid : Prop := Claim7.holds Tryd.pinned (.plain (OpenSpec.ofChange fnExactRootsSpec)) fnExactRootsCard

/-- THE SECOND FORM's CARD OF 'laws.FnExactProfilesOk'. -/
def fnExactProfilesOkUptoCard : Claim7 := { stood := { row := fnExactProfilesOkUptoRow, standIns := [], harness := (true, "ebc284c66cb8e044f2acee6c0985e5e456332dd1ca4259cc221befaed359652a"), looks := false }, kinds := [], alts := [], laidByText := true, laidKinds := [.data], laidTests := true, laidLooks := .later }
def FnExactProfilesOkUptoCardSaid : Prop := Claim7.holds Tryd.pinned (.plain (OpenSpec.upto fnExactProfilesOkSpec)) fnExactProfilesOkUptoCard

/-- THE SECOND FORM's CARD OF 'laws.FnExactSwitch'. -/
def fnExactSwitchUptoCard : Claim7 := { stood := { row := fnExactSwitchUptoRow, standIns := [], harness := (true, "ebc284c66cb8e044f2acee6c0985e5e456332dd1ca4259cc221befaed359652a"), looks := false }, kinds := [], alts := [], laidByText := true, laidKinds := [.data], laidTests := true, laidLooks := .later }
def FnExactSwitchUptoCardSaid : Prop := Claim7.holds Tryd.pinned (.plain (OpenSpec.upto fnExactSwitchSpec)) fnExactSwitchUptoCard

/-- THE SECOND FORM's CARD OF 'laws.FnExactRollback'. -/
def fnExactRollbackUptoCard : Claim7 := { stood := { row := fnExactRollbackUptoRow, standIns := [], harness := (true, "ebc284c66cb8e044f2acee6c0985e5e456332dd1ca4259cc221befaed359652a"), looks := false }, kinds := [], alts := [], laidByText := true, laidKinds := [.data], laidTests := true, laidLooks := .later }
def FnExactRollbackUptoCardSaid : Prop := Claim7.holds Tryd.pinned (.plain (OpenSpec.upto fnExactRollbackSpec)) fnExactRollbackUptoCard

/-- THE SECOND FORM's CARD OF 'laws.FnExactPrune'. -/
def fnExactPruneUptoCard : Claim7 := { stood := { row := fnExactPruneUptoRow, standIns := [], harness := (true, "ebc284c66cb8e044f2acee6c0985e5e456332dd1ca4259cc221befaed359652a"), looks := false }, kinds := [], alts := [], laidByText := true, laidKinds := [.data], laidTests := true, laidLooks := .later }
def FnExactPruneUptoCardSaid : Prop := Claim7.holds Tryd.pinned (.plain (OpenSpec.upto fnExactPruneSpec)) fnExactPruneUptoCard

/-- THE SECOND FORM's CARD OF 'laws.FnExactCurrent'. -/
def fnExactCurrentUptoCard : Claim7 := { stood := { row := fnExactCurrentUptoRow, standIns := [], harness := (true, "ebc284c66cb8e044f2acee6c0985e5e456332dd1ca4259cc221befaed359652a"), looks := false }, kinds := [], alts := [], laidByText := true, laidKinds := [.data], laidTests := true, laidLooks := .later }
def FnExactCurrentUptoCardSaid : Prop := Claim7.holds Tryd.pinned (.plain (OpenSpec.upto fnExactCurrentSpec)) fnExactCurrentUptoCard

/-- THE SECOND FORM's CARD OF 'laws.FnExactRoots'. -/
def fnExactRootsUptoCard : Claim7 := { stood := { row := fnExactRootsUptoRow, standIns := [], harness := (true, "ebc284c66cb8e044f2acee6c0985e5e456332dd1ca4259cc221befaed359652a"), looks := false }, kinds := [], alts := [], laidByText := true, laidKinds := [.data], laidTests := true, laidLooks := .later }
def FnExactRootsUptoCardSaid : Prop := Claim7.holds Tryd.pinned (.plain (OpenSpec.upto fnExactRootsSpec)) fnExactRootsUptoCard
end Rows
end Go.Proofs.YtglbbklikojffaaDoor
