/-
  DERIVED. GIVEN WITH THE SEED: THE CARDS: each row of YtakkmkeipfjapaaGreatDoorRows.lean that lists a variable, with what it lists TIED to the program's text (the seventh form; the later family's looks); each row that meets fmt, with fmt's text TOLD by the authors' own Lean function (tested against real Go, not proved from fmt's source: count such statements apart). THE CARD IS WHAT COUNTS. Prove the row's statement (the work); the ties are given (YtakkmkeipfjapaaGreatDoorTie.lean); close each card by the builder's one call (the guide's Derived/Test/ToyasCard.lean, 'card_holds'). Laid BY PROGRAM, IN A SANDBOX (cutbox-door.mjs). By AI agents, Wed Nov 11 2026. No macro, syntax, notation, axiom, sorry.
-/
import Derived.Test.YtakkmkeipfjapaaGreatDoorRows
import GoSem.ClaimSeven
namespace Go.Proofs.YtakkmkeipfjapaaGreatDoor
namespace Rows

/-- THE TIED CARD OF 'laws.FnExactWithout'. -/
def fnExactWithoutCard : Claim7 := { stood := { row := fnExactWithoutRow, standIns := [], harness := (true, "7d709985a27e092ef65b34e0e62730399e74edee3538f083759519d350ef96b1"), looks := false }, kinds := [], alts := [], laidByText := true, laidKinds := [.data, .data, .pinned], laidTests := true, laidLooks := .later }
def FnExactWithoutCardSaid : Prop := Claim7.holds Tryz.pinned (.plain (OpenSpec.ofChange fnExactWithoutSpec)) fnExactWithoutCard

/-- THE TIED CARD OF 'laws.FnExactAddItem'. -/
def fnExactAddItemCard : Claim7 := { stood := { row := fnExactAddItemRow, standIns := [], harness := (true, "7d709985a27e092ef65b34e0e62730399e74edee3538f083759519d350ef96b1"), looks := false }, kinds := [], alts := [], laidByText := true, laidKinds := [.data, .data, .pinned], laidTests := true, laidLooks := .later }
def FnExactAddItemCardSaid : Prop := Claim7.holds Tryz.pinned (.plain (OpenSpec.ofChange fnExactAddItemSpec)) fnExactAddItemCard

/-- THE SECOND FORM's CARD OF 'laws.FnExactWithout'. -/
def fnExactWithoutUptoCard : Claim7 := { stood := { row := fnExactWithoutUptoRow, standIns := [], harness := (true, "7d709985a27e092ef65b34e0e62730399e74edee3538f083759519d350ef96b1"), looks := false }, kinds := [], alts := [], laidByText := true, laidKinds := [.data, .data, .pinned], laidTests := true, laidLooks := .later }
def FnExactWithoutUptoCardSaid : Prop := Claim7.holds Tryz.pinned (.plain (OpenSpec.upto fnExactWithoutSpec)) fnExactWithoutUptoCard

/-- THE SECOND FORM's CARD OF 'laws.FnExactAddItem'. -/
def fnExactAddItemUptoCard : Claim7 := { stood := { row := fnExactAddItemUptoRow, standIns := [], harness := (true, "7d709985a27e092ef65b34e0e62730399e74edee3538f083759519d350ef96b1"), looks := false }, kinds := [], alts := [], laidByText := true, laidKinds := [.data, .data, .pinned], laidTests := true, laidLooks := .later }
def FnExactAddItemUptoCardSaid : Prop := Claim7.holds Tryz.pinned (.plain (OpenSpec.upto fnExactAddItemSpec)) fnExactAddItemUptoCard
end Rows
end Go.Proofs.YtakkmkeipfjapaaGreatDoor
