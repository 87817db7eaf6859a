/-
  DERIVED. GIVEN WITH THE SEED: THE CARDS: each row of YthpgjamnekcjfaaDoorRows.lean that lists a variable, with what it lists TIED to the program's text (the seventh form; the later family's looks); each row that meets fmt, with fmt's text TOLD by the authors' own Lean function (tested against real Go, not proved from fmt's source: count such statements apart). THE CARD IS WHAT COUNTS. Prove the row's statement (the work); the ties are given (YthpgjamnekcjfaaDoorTie.lean); close each card by the builder's one call (the guide's Derived/Test/ToyasCard.lean, 'card_holds'). Laid BY PROGRAM, IN A SANDBOX (cutbox-door.mjs). By AI agents, Wed Nov 11 2026. No macro, syntax, notation, axiom, sorry.
-/
import Derived.Test.YthpgjamnekcjfaaDoorRows
import GoSem.ClaimSeven
namespace Go.Proofs.YthpgjamnekcjfaaDoor
namespace Rows

/-- THE TIED CARD OF 'laws.FnExactFindEntry'. -/
def fnExactFindEntryCard : Claim7 := { stood := { row := fnExactFindEntryRow, standIns := [], harness := (true, "adfa41f64683e3d81c8c72b8c8d7521e52417f6d4c652a65882c63fc8d1ccfbd"), looks := false }, kinds := [], alts := [], laidByText := true, laidKinds := [.data, .pinned], laidTests := true, laidLooks := .later }
def FnExactFindEntryCardSaid : Prop := Claim7.holds Tryd.pinned (.plain (OpenSpec.ofChange fnExactFindEntrySpec)) fnExactFindEntryCard

/-- THE TIED CARD OF 'laws.FnExactPackTree'. -/
def fnExactPackTreeCard : Claim7 := { stood := { row := fnExactPackTreeRow, standIns := [], harness := (true, "adfa41f64683e3d81c8c72b8c8d7521e52417f6d4c652a65882c63fc8d1ccfbd"), looks := false }, kinds := [], alts := [], laidByText := true, laidKinds := [.data, .pinned], laidTests := true, laidLooks := .later }
def FnExactPackTreeCardSaid : Prop := Claim7.holds Tryd.pinned (.plain (OpenSpec.ofChange fnExactPackTreeSpec)) fnExactPackTreeCard

/-- THE TIED CARD OF 'laws.FnExactTreeSum'. -/
def fnExactTreeSumCard : Claim7 := { stood := { row := fnExactTreeSumRow, standIns := [], harness := (true, "adfa41f64683e3d81c8c72b8c8d7521e52417f6d4c652a65882c63fc8d1ccfbd"), looks := false }, kinds := [], alts := [], laidByText := true, laidKinds := [.data, .data, .pinned], laidTests := true, laidLooks := .later }
def FnExactTreeSumCardSaid : Prop := Claim7.holds Tryd.pinned (.plain (OpenSpec.ofChange fnExactTreeSumSpec)) fnExactTreeSumCard

/-- THE TIED CARD OF 'laws.FnExactReplace'. -/
def fnExactReplaceCard : Claim7 := { stood := { row := fnExactReplaceRow, standIns := [], harness := (true, "adfa41f64683e3d81c8c72b8c8d7521e52417f6d4c652a65882c63fc8d1ccfbd"), looks := false }, kinds := [], alts := [], laidByText := true, laidKinds := [.data, .data, .pinned], laidTests := true, laidLooks := .later }
def FnExactReplaceCardSaid : Prop := Claim7.holds Tryd.pinned (.plain (OpenSpec.ofChange fnExactReplaceSpec)) fnExactReplaceCard

/-- THE TIED CARD OF 'laws.FnExactRefsIn'. -/
def fnExactRefsInCard : Claim7 := { stood := { row := fnExactRefsInRow, standIns := [], harness := (true, "adfa41f64683e3d81c8c72b8c8d7521e52417f6d4c652a65882c63fc8d1ccfbd"), looks := false }, kinds := [], alts := [], laidByText := true, laidKinds := [.data, .data, .pinned], laidTests := true, laidLooks := .later }
def FnExactRefsInCardSaid : Prop := Claim7.holds Tryd.pinned (.plain (OpenSpec.ofChange fnExactRefsInSpec)) fnExactRefsInCard

/-- THE TIED CARD OF 'laws.FnExactPutEntry'. -/
def fnExactPutEntryCard : Claim7 := { stood := { row := fnExactPutEntryRow, standIns := [], harness := (true, "adfa41f64683e3d81c8c72b8c8d7521e52417f6d4c652a65882c63fc8d1ccfbd"), looks := false }, kinds := [], alts := [], laidByText := true, laidKinds := [.data, .pinned], laidTests := true, laidLooks := .later }
def FnExactPutEntryCardSaid : Prop := Claim7.holds Tryd.pinned (.plain (OpenSpec.ofChange fnExactPutEntrySpec)) fnExactPutEntryCard

/-- THE SECOND FORM's CARD OF 'laws.FnExactFindEntry'. -/
def fnExactFindEntryUptoCard : Claim7 := { stood := { row := fnExactFindEntryUptoRow, standIns := [], harness := (true, "adfa41f64683e3d81c8c72b8c8d7521e52417f6d4c652a65882c63fc8d1ccfbd"), looks := false }, kinds := [], alts := [], laidByText := true, laidKinds := [.data, .pinned], laidTests := true, laidLooks := .later }
def FnExactFindEntryUptoCardSaid : Prop := Claim7.holds Tryd.pinned (.plain (OpenSpec.upto fnExactFindEntrySpec)) fnExactFindEntryUptoCard

/-- THE SECOND FORM's CARD OF 'laws.FnExactPackTree'. -/
def fnExactPackTreeUptoCard : Claim7 := { stood := { row := fnExactPackTreeUptoRow, standIns := [], harness := (true, "adfa41f64683e3d81c8c72b8c8d7521e52417f6d4c652a65882c63fc8d1ccfbd"), looks := false }, kinds := [], alts := [], laidByText := true, laidKinds := [.data, .pinned], laidTests := true, laidLooks := .later }
def FnExactPackTreeUptoCardSaid : Prop := Claim7.holds Tryd.pinned (.plain (OpenSpec.upto fnExactPackTreeSpec)) fnExactPackTreeUptoCard

/-- THE SECOND FORM's CARD OF 'laws.FnExactTreeSum'. -/
def fnExactTreeSumUptoCard : Claim7 := { stood := { row := fnExactTreeSumUptoRow, standIns := [], harness := (true, "adfa41f64683e3d81c8c72b8c8d7521e52417f6d4c652a65882c63fc8d1ccfbd"), looks := false }, kinds := [], alts := [], laidByText := true, laidKinds := [.data, .data, .pinned], laidTests := true, laidLooks := .later }
def FnExactTreeSumUptoCardSaid : Prop := Claim7.holds Tryd.pinned (.plain (OpenSpec.upto fnExactTreeSumSpec)) fnExactTreeSumUptoCard

/-- THE SECOND FORM's CARD OF 'laws.FnExactReplace'. -/
def fnExactReplaceUptoCard : Claim7 := { stood := { row := fnExactReplaceUptoRow, standIns := [], harness := (true, "adfa41f64683e3d81c8c72b8c8d7521e52417f6d4c652a65882c63fc8d1ccfbd"), looks := false }, kinds := [], alts := [], laidByText := true, laidKinds := [.data, .data, .pinned], laidTests := true, laidLooks := .later }
def FnExactReplaceUptoCardSaid : Prop := Claim7.holds Tryd.pinned (.plain (OpenSpec.upto fnExactReplaceSpec)) fnExactReplaceUptoCard

/-- THE SECOND FORM's CARD OF 'laws.FnExactRefsIn'. -/
def fnExactRefsInUptoCard : Claim7 := { stood := { row := fnExactRefsInUptoRow, standIns := [], harness := (true, "adfa41f64683e3d81c8c72b8c8d7521e52417f6d4c652a65882c63fc8d1ccfbd"), looks := false }, kinds := [], alts := [], laidByText := true, laidKinds := [.data, .data, .pinned], laidTests := true, laidLooks := .later }
def FnExactRefsInUptoCardSaid : Prop := Claim7.holds Tryd.pinned (.plain (OpenSpec.upto fnExactRefsInSpec)) fnExactRefsInUptoCard

/-- THE SECOND FORM's CARD OF 'laws.FnExactPutEntry'. -/
def fnExactPutEntryUptoCard : Claim7 := { stood := { row := fnExactPutEntryUptoRow, standIns := [], harness := (true, "adfa41f64683e3d81c8c72b8c8d7521e52417f6d4c652a65882c63fc8d1ccfbd"), looks := false }, kinds := [], alts := [], laidByText := true, laidKinds := [.data, .pinned], laidTests := true, laidLooks := .later }
def FnExactPutEntryUptoCardSaid : Prop := Claim7.holds Tryd.pinned (.plain (OpenSpec.upto fnExactPutEntrySpec)) fnExactPutEntryUptoCard
end Rows
end Go.Proofs.YthpgjamnekcjfaaDoor
