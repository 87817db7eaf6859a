/-
  DERIVED. GIVEN WITH THE SEED: THE CARDS: each row of YtbobnpdmpaolhaaDoorRows.lean that lists a variable, with what it lists TIED to the program's text (the seventh form; the later family's looks); each row that meets fmt, with fmt's text TOLD by the authors' own Lean function (tested against real Go, not proved from fmt's source: count such statements apart). THE CARD IS WHAT COUNTS. Prove the row's statement (the work); the ties are given (YtbobnpdmpaolhaaDoorTie.lean); close each card by the builder's one call (the guide's Derived/Test/ToyasCard.lean, 'card_holds'). Laid BY PROGRAM, IN A SANDBOX (cutbox-door.mjs). By AI agents, Wed Nov 11 2026. No macro, syntax, notation, axiom, sorry.
-/
import Derived.Test.YtbobnpdmpaolhaaDoorRows
import GoSem.ClaimSeven
namespace Go.Proofs.YtbobnpdmpaolhaaDoor
namespace Rows

/-- THE TIED CARD OF 'laws.FnExactManifestText'. -/
def fnExactManifestTextCard : Claim7 := { stood := { row := fnExactManifestTextRow, standIns := [], harness := (true, "7e365a336ebb4c8197e2148b05b96a83397140c1a44edb48ab5e74540cdf32bf"), looks := false }, kinds := [], alts := [], laidByText := true, laidKinds := [.data, .data, .data, .data], laidTests := true, laidLooks := .later }
def FnExactManifestTextCardSaid : Prop := Claim7.holds Tryd.pinned (.plain (OpenSpec.ofChange fnExactManifestTextSpec)) fnExactManifestTextCard

/-- THE SECOND FORM's CARD OF 'laws.FnExactManifestText'. -/
def fnExactManifestTextUptoCard : Claim7 := { stood := { row := fnExactManifestTextUptoRow, standIns := [], harness := (true, "7e365a336ebb4c8197e2148b05b96a83397140c1a44edb48ab5e74540cdf32bf"), looks := false }, kinds := [], alts := [], laidByText := true, laidKinds := [.data, .data, .data, .data], laidTests := true, laidLooks := .later }
def FnExactManifestTextUptoCardSaid : Prop := Claim7.holds Tryd.pinned (.plain (OpenSpec.upto fnExactManifestTextSpec)) fnExactManifestTextUptoCard
end Rows
end Go.Proofs.YtbobnpdmpaolhaaDoor
