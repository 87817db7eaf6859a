/-
  DERIVED. GIVEN WITH THE SEED: THE CARDS: each row of YtafdnkikdpgkfaaDoorRows.lean that lists a variable, with what it lists TIED to the program's text (the seventh form; the later family's looks); each row that meets fmt, with fmt's text TOLD by the authors' own Lean function (tested against real Go, not proved from fmt's source: count such statements apart). THE CARD IS WHAT COUNTS. Prove the row's statement (the work); the ties are given (YtafdnkikdpgkfaaDoorTie.lean); close each card by the builder's one call (the guide's Derived/Test/ToyasCard.lean, 'card_holds'). Laid BY PROGRAM, IN A SANDBOX (cutbox-door.mjs). By AI agents, Wed Nov 11 2026. No macro, syntax, notation, axiom, sorry.
-/
import Derived.Test.YtafdnkikdpgkfaaDoorRows
import GoSem.ClaimSeven
namespace Go.Proofs.YtafdnkikdpgkfaaDoor
namespace Rows

/-- THE TIED CARD OF 'laws.FnExactFindEntry'. -/
def fnExactFindEntryCard : Claim7 := { stood := { row := fnExactFindEntryRow, standIns := [], harness := (true, "e59b8bfadfce7e880a6481bdb42975f2c58fc1c1f57cd19e7e45cedd2cf009d3"), looks := false }, kinds := [], alts := [], laidByText := true, laidKinds := [.data, .pinned], laidTests := true, laidLooks := .later }
def FnExactFindEntryCardSaid : Prop := Claim7.holds Tryd.pinned (.plain (OpenSpec.ofChange fnExactFindEntrySpec)) fnExactFindEntryCard

/-- THE TIED CARD OF 'laws.FnExactPackTree'. -/
def fnExactPackTreeCard : Claim7 := { stood := { row := fnExactPackTreeRow, standIns := [], harness := (true, "e59b8bfadfce7e880a6481bdb42975f2c58fc1c1f57cd19e7e45cedd2cf009d3"), looks := false }, kinds := [], alts := [], laidByText := true, laidKinds := [.data, .pinned], laidTests := true, laidLooks := .later }
def FnExactPackTreeCardSaid : Prop := Claim7.holds Tryd.pinned (.plain (OpenSpec.ofChange fnExactPackTreeSpec)) fnExactPackTreeCard

/-- THE TIED CARD OF 'laws.FnExactTreeSum'. -/
def fnExactTreeSumCard : Claim7 := { stood := { row := fnExactTreeSumRow, standIns := [], harness := (true, "e59b8bfadfce7e880a6481bdb42975f2c58fc1c1f57cd19e7e45cedd2cf009d3"), looks := false }, kinds := [], alts := [], laidByText := true, laidKinds := [.data, .data, .pinned], laidTests := true, laidLooks := .later }
def FnExactTreeSumCardSaid : Prop := Claim7.holds Tryd.pinned (.plain (OpenSpec.ofChange fnExactTreeSumSpec)) fnExactTreeSumCard

/-- THE SECOND FORM's CARD OF 'laws.FnExactFindEntry'. -/
def fnExactFindEntryUptoCard : Claim7 := { stood := { row := fnExactFindEntryUptoRow, standIns := [], harness := (true, "e59b8bfadfce7e880a6481bdb42975f2c58fc1c1f57cd19e7e45cedd2cf009d3"), looks := false }, kinds := [], alts := [], laidByText := true, laidKinds := [.data, .pinned], laidTests := true, laidLooks := .later }
def FnExactFindEntryUptoCardSaid : Prop := Claim7.holds Tryd.pinned (.plain (OpenSpec.upto fnExactFindEntrySpec)) fnExactFindEntryUptoCard

/-- THE SECOND FORM's CARD OF 'laws.FnExactPackTree'. -/
def fnExactPackTreeUptoCard : Claim7 := { stood := { row := fnExactPackTreeUptoRow, standIns := [], harness := (true, "e59b8bfadfce7e880a6481bdb42975f2c58fc1c1f57cd19e7e45cedd2cf009d3"), looks := false }, kinds := [], alts := [], laidByText := true, laidKinds := [.data, .pinned], laidTests := true, laidLooks := .later }
def FnExactPackTreeUptoCardSaid : Prop := Claim7.holds Tryd.pinned (.plain (OpenSpec.upto fnExactPackTreeSpec)) fnExactPackTreeUptoCard

/-- THE SECOND FORM's CARD OF 'laws.FnExactTreeSum'. -/
def fnExactTreeSumUptoCard : Claim7 := { stood := { row := fnExactTreeSumUptoRow, standIns := [], harness := (true, "e59b8bfadfce7e880a6481bdb42975f2c58fc1c1f57cd19e7e45cedd2cf009d3"), looks := false }, kinds := [], alts := [], laidByText := true, laidKinds := [.data, .data, .pinned], laidTests := true, laidLooks := .later }
def FnExactTreeSumUptoCardSaid : Prop := Claim7.holds Tryd.pinned (.plain (OpenSpec.upto fnExactTreeSumSpec)) fnExactTreeSumUptoCard
end Rows
end Go.Proofs.YtafdnkikdpgkfaaDoor
