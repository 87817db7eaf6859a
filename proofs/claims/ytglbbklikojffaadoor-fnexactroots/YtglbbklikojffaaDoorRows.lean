/-
  NARROWER THAN 'FOR EVERY INPUT', by the rows' own cells (each row's printed sentence says how): FnExactProfilesOk: laid · FnExactSwitch: laid · FnExactRollback: laid · FnExactPrune: laid · FnExactCurrent: laid · FnExactRoots: laid.
  DERIVED. THE GIVEN ROWS OF THIS SEAT. 6 by the template 'for every input the law returns true; each argument reads behind the call as it read before'; 0 by the template 'total and deterministic' (their statements: YtglbbklikojffaaDoorTotals.lean).
  GIVEN WITH THE SEED: the statements are not yours to turn. If you find one false, say at which input.
  Laid BY PROGRAM, IN A SANDBOX (cutbox-rows.mjs): the forced cells as the released guide's own fill.sh prints them over the translation b3eac8ce53acc9a1… (all of the seat's roots in one cut). By AI agents, Wed Nov 11 2026. No macro, syntax, notation, axiom, sorry.
-/
import Derived.Test.YtglbbklikojffaaDoorChecked
import GoSem.Claim
import GoSem.ClaimJoined
import GoSem.ClaimMapViews
import Derived.JoinedTies
import Derived.KernelRfl
namespace Go.Proofs.YtglbbklikojffaaDoor
/- THE CELL 'sum', in the pinned program and in every row, IS THE sha256 OF THE DUMP (.gsa) THAT YtglbbklikojffaaDoorProg.lean LOADS. Nothing in Lean hashes anything: it is a label: what it is worth is what the hold of that sum in a sandbox is worth. -/
noncomputable def Tryd.pinned : Pinned := { name := "ytglbbklikojffaadoor", sum := "b3eac8ce53acc9a18d0af92376f6ac446cec94bc7bf16bfdab2cc20fdbd5be8a", checked := Tryd.checked }
namespace Rows
def none {H : Type} : Left H := { results := [], args := [] }

/- WHAT THE LISTED PACKAGE-LEVEL VARIABLES READ AS WHEN THE CALL BEGINS. Each datum BY PROGRAM (the guide's laid-datum.mjs) off the statement by which the dump's own 'gosem.cut.vars' lays the variable. In a bare row this is a premise. The card (YtglbbklikojffaaDoorCards.lean) ties it to the program's text. -/
def laid_loop_example_g00023_impl_wordLetters {H : Type} : DataW H := .agg [.lit (.int .u8 48), .lit (.int .u8 49), .lit (.int .u8 50), .lit (.int .u8 51), .lit (.int .u8 52), .lit (.int .u8 53), .lit (.int .u8 54), .lit (.int .u8 55), .lit (.int .u8 56), .lit (.int .u8 57), .lit (.int .u8 97), .lit (.int .u8 98), .lit (.int .u8 99), .lit (.int .u8 100), .lit (.int .u8 102), .lit (.int .u8 103), .lit (.int .u8 104), .lit (.int .u8 105), .lit (.int .u8 106), .lit (.int .u8 107), .lit (.int .u8 108), .lit (.int .u8 109), .lit (.int .u8 110), .lit (.int .u8 112), .lit (.int .u8 113), .lit (.int .u8 114), .lit (.int .u8 115), .lit (.int .u8 118), .lit (.int .u8 119), .lit (.int .u8 120), .lit (.int .u8 121), .lit (.int .u8 122)]

/-- 'laws.FnExactProfilesOk': WHATEVER THE INPUT: true; the input reads as it did. -/
def fnExactProfilesOkSpec : ChangeSpec := { name := "fnExactProfilesOk", vars := ["loop.example/g00023/impl.wordLetters"], fn := fun _ => fun
  | [d, g1] => { results := [.lit (.bool true)], args := [d], vars := [g1] }
  | _ => none }
def fnExactProfilesOkRow : OpenClaim := { program := "ytglbbklikojffaadoor", sum := "b3eac8ce53acc9a18d0af92376f6ac446cec94bc7bf16bfdab2cc20fdbd5be8a", func := "loop.example/g00023/laws.FnExactProfilesOk", spec := "fnExactProfilesOk", unfollowed := true, recurses := true, named := ["loop.example/g00023/impl.wordLetters"], apart := false, laid := [("loop.example/g00023/impl.wordLetters", laid_loop_example_g00023_impl_wordLetters)] }
def FnExactProfilesOkSaid : Prop := fnExactProfilesOkRow.holds Tryd.pinned (OpenSpec.ofChange fnExactProfilesOkSpec)

/-- ITS FALSE NEIGHBOUR: 'it returns false'. Refute it at one input. -/
def fnExactProfilesOkWrong : ChangeSpec := { name := "fnExactProfilesOk", vars := ["loop.example/g00023/impl.wordLetters"], fn := fun _ => fun
  | [d, g1] => { results := [.lit (.bool false)], args := [d], vars := [g1] }
  | _ => none }
def FnExactProfilesOkWrongFalsely : Prop := fnExactProfilesOkRow.holds Tryd.pinned (OpenSpec.ofChange fnExactProfilesOkWrong)

/-- 'laws.FnExactSwitch': WHATEVER THE INPUT: true; the input reads as it did. -/
def fnExactSwitchSpec : ChangeSpec := { name := "fnExactSwitch", vars := ["loop.example/g00023/impl.wordLetters"], fn := fun _ => fun
  | [d1, d2, d3, g1] => { results := [.lit (.bool true)], args := [d1, d2, d3], vars := [g1] }
  | _ => none }
def fnExactSwitchRow : OpenClaim := { program := "ytglbbklikojffaadoor", sum := "b3eac8ce53acc9a18d0af92376f6ac446cec94bc7bf16bfdab2cc20fdbd5be8a", func := "loop.example/g00023/laws.FnExactSwitch", spec := "fnExactSwitch", inPlace := ["slices.overlaps[loop.example/g00023/impl.Profile]"], unfollowed := true, recurses := true, named := ["loop.example/g00023/impl.wordLetters"], apart := false, laid := [("loop.example/g00023/impl.wordLetters", laid_loop_example_g00023_impl_wordLetters)] }
def FnExactSwitchSaid : Prop := fnExactSwitchRow.holds Tryd.pinned (OpenSpec.ofChange fnExactSwitchSpec)

/-- ITS FALSE NEIGHBOUR: 'it returns false'. Refute it at one input. -/
def fnExactSwitchWrong : ChangeSpec := { name := "fnExactSwitch", vars := ["loop.example/g00023/impl.wordLetters"], fn := fun _ => fun
  | [d1, d2, d3, g1] => { results := [.lit (.bool false)], args := [d1, d2, d3], vars := [g1] }
  | _ => none }
def FnExactSwitchWrongFalsely : Prop := fnExactSwitchRow.holds Tryd.pinned (OpenSpec.ofChange fnExactSwitchWrong)

/-- 'laws.FnExactRollback': WHATEVER THE INPUT: true; the input reads as it did. -/
def fnExactRollbackSpec : ChangeSpec := { name := "fnExactRollback", vars := ["loop.example/g00023/impl.wordLetters"], fn := fun _ => fun
  | [d1, d2, g1] => { results := [.lit (.bool true)], args := [d1, d2], vars := [g1] }
  | _ => none }
def fnExactRollbackRow : OpenClaim := { program := "ytglbbklikojffaadoor", sum := "b3eac8ce53acc9a18d0af92376f6ac446cec94bc7bf16bfdab2cc20fdbd5be8a", func := "loop.example/g00023/laws.FnExactRollback", spec := "fnExactRollback", unfollowed := true, recurses := true, named := ["loop.example/g00023/impl.wordLetters"], apart := false, laid := [("loop.example/g00023/impl.wordLetters", laid_loop_example_g00023_impl_wordLetters)] }
def FnExactRollbackSaid : Prop := fnExactRollbackRow.holds Tryd.pinned (OpenSpec.ofChange fnExactRollbackSpec)

/-- ITS FALSE NEIGHBOUR: 'it returns false'. Refute it at one input. -/
def fnExactRollbackWrong : ChangeSpec := { name := "fnExactRollback", vars := ["loop.example/g00023/impl.wordLetters"], fn := fun _ => fun
  | [d1, d2, g1] => { results := [.lit (.bool false)], args := [d1, d2], vars := [g1] }
  | _ => none }
def FnExactRollbackWrongFalsely : Prop := fnExactRollbackRow.holds Tryd.pinned (OpenSpec.ofChange fnExactRollbackWrong)

/-- 'laws.FnExactPrune': WHATEVER THE INPUT: true; the input reads as it did. -/
def fnExactPruneSpec : ChangeSpec := { name := "fnExactPrune", vars := ["loop.example/g00023/impl.wordLetters"], fn := fun _ => fun
  | [d1, d2, d3, g1] => { results := [.lit (.bool true)], args := [d1, d2, d3], vars := [g1] }
  | _ => none }
def fnExactPruneRow : OpenClaim := { program := "ytglbbklikojffaadoor", sum := "b3eac8ce53acc9a18d0af92376f6ac446cec94bc7bf16bfdab2cc20fdbd5be8a", func := "loop.example/g00023/laws.FnExactPrune", spec := "fnExactPrune", unfollowed := true, recurses := true, named := ["loop.example/g00023/impl.wordLetters"], apart := false, laid := [("loop.example/g00023/impl.wordLetters", laid_loop_example_g00023_impl_wordLetters)] }
def FnExactPruneSaid : Prop := fnExactPruneRow.holds Tryd.pinned (OpenSpec.ofChange fnExactPruneSpec)

/-- ITS FALSE NEIGHBOUR: 'it returns false'. Refute it at one input. -/
def fnExactPruneWrong : ChangeSpec := { name := "fnExactPrune", vars := ["loop.example/g00023/impl.wordLetters"], fn := fun _ => fun
  | [d1, d2, d3, g1] => { results := [.lit (.bool false)], args := [d1, d2, d3], vars := [g1] }
  | _ => none }
def FnExactPruneWrongFalsely : Prop := fnExactPruneRow.holds Tryd.pinned (OpenSpec.ofChange fnExactPruneWrong)

/-- 'laws.FnExactCurrent': WHATEVER THE INPUT: true; the input reads as it did. -/
def fnExactCurrentSpec : ChangeSpec := { name := "fnExactCurrent", vars := ["loop.example/g00023/impl.wordLetters"], fn := fun _ => fun
  | [d1, d2, g1] => { results := [.lit (.bool true)], args := [d1, d2], vars := [g1] }
  | _ => none }
def fnExactCurrentRow : OpenClaim := { program := "ytglbbklikojffaadoor", sum := "b3eac8ce53acc9a18d0af92376f6ac446cec94bc7bf16bfdab2cc20fdbd5be8a", func := "loop.example/g00023/laws.FnExactCurrent", spec := "fnExactCurrent", unfollowed := true, recurses := true, named := ["loop.example/g00023/impl.wordLetters"], apart := false, laid := [("loop.example/g00023/impl.wordLetters", laid_loop_example_g00023_impl_wordLetters)] }
def FnExactCurrentSaid : Prop := fnExactCurrentRow.holds Tryd.pinned (OpenSpec.ofChange fnExactCurrentSpec)

/-- ITS FALSE NEIGHBOUR: 'it returns false'. Refute it at one input. -/
def fnExactCurrentWrong : ChangeSpec := { name := "fnExactCurrent", vars := ["loop.example/g00023/impl.wordLetters"], fn := fun _ => fun
  | [d1, d2, g1] => { results := [.lit (.bool false)], args := [d1, d2], vars := [g1] }
  | _ => none }
def FnExactCurrentWrongFalsely : Prop := fnExactCurrentRow.holds Tryd.pinned (OpenSpec.ofChange fnExactCurrentWrong)

/-- 'laws.FnExactRoots': WHATEVER THE INPUT: true; the input reads as it did. -/
def fnExactRootsSpec : ChangeSpec := { name := "fnExactRoots", vars := ["loop.example/g00023/impl.wordLetters"], fn := fun _ => fun
  | [d1, d2, g1] => { results := [.lit (.bool true)], args := [d1, d2], vars := [g1] }
  | _ => none }
def fnExactRootsRow : OpenClaim := { program := "ytglbbklikojffaadoor", sum := "b3eac8ce53acc9a18d0af92376f6ac446cec94bc7bf16bfdab2cc20fdbd5be8a", func := "loop.example/g00023/laws.FnExactRoots", spec := "fnExactRoots", unfollowed := true, recurses := true, named := ["loop.example/g00023/impl.wordLetters"], apart := false, laid := [("loop.example/g00023/impl.wordLetters", laid_loop_example_g00023_impl_wordLetters)] }
def FnExactRootsSaid : Prop := fnExactRootsRow.holds Tryd.pinned (OpenSpec.ofChange fnExactRootsSpec)

/-- ITS FALSE NEIGHBOUR: 'it returns false'. Refute it at one input. -/
def fnExactRootsWrong : ChangeSpec := { name := "fnExactRoots", vars := ["loop.example/g00023/impl.wordLetters"], fn := fun _ => fun
  | [d1, d2, g1] => { results := [.lit (.bool false)], args := [d1, d2], vars := [g1] }
  | _ => none }
def FnExactRootsWrongFalsely : Prop := fnExactRootsRow.holds Tryd.pinned (OpenSpec.ofChange fnExactRootsWrong)

/- THE SECOND FORM. 'bulk': how many values and letters a reading holds, each counted each time it is reached (what is shared counts as often as it is met; a slice's spare places count too). A statement '..UptoSaid' is the law's where the arguments, and the package variables that the reading takes, are together of bulk at most 1048576: NARROWER than '..Said'. Prove '..Said' where nothing that the law and all that it calls make is longer than what came in: it says more and counts as full. Else prove '..UptoSaid'. A law counts once. -/
mutual
def uptoBulk {H : Type} : DataW H → Nat
  | .lit (.string bytes) => bytes.length + 1
  | .lit _ => 1
  | .nil => 1
  | .ptr d => uptoBulk d + 1
  | .slice elems spare => uptoBulkAll elems + uptoBulkAll spare + 1
  | .agg parts => uptoBulkAll parts + 1
  | .iface _ d => uptoBulk d + 1
  | .map entries => uptoBulkEntries entries + 1
  | .held _ => 1
def uptoBulkAll {H : Type} : List (DataW H) → Nat
  | [] => 0
  | d :: r => uptoBulk d + uptoBulkAll r
def uptoBulkEntries {H : Type} : List (Lit × DataW H) → Nat
  | [] => 0
  | x :: r => uptoBulkEntry x + uptoBulkEntries r
def uptoBulkEntry {H : Type} : Lit × DataW H → Nat
  | (.string bytes, d) => bytes.length + uptoBulk d + 1
  | (_, d) => uptoBulk d + 1
 end
def uptoSmall : (H : Type) → List (DataW H) → Bool := fun _ ds => decide (uptoBulkAll ds ≤ 1048576)
def OpenSpec.upto (s : _root_.Go.ChangeSpec) : _root_.Go.OpenSpec := { _root_.Go.OpenSpec.ofChange s with cond := some uptoSmall }

/-- 'laws.FnExactProfilesOk', WHERE WHAT IT READS IS OF BULK AT MOST 1048576: true; the input reads as it did. -/
def fnExactProfilesOkUptoRow : OpenClaim := { program := "ytglbbklikojffaadoor", sum := "b3eac8ce53acc9a18d0af92376f6ac446cec94bc7bf16bfdab2cc20fdbd5be8a", func := "loop.example/g00023/laws.FnExactProfilesOk", spec := "fnExactProfilesOk", unfollowed := true, recurses := true, named := ["loop.example/g00023/impl.wordLetters"], apart := false, laid := [("loop.example/g00023/impl.wordLetters", laid_loop_example_g00023_impl_wordLetters)], narrowed := true }
def FnExactProfilesOkUptoSaid : Prop := fnExactProfilesOkUptoRow.holds Tryd.pinned (OpenSpec.upto fnExactProfilesOkSpec)

/-- 'laws.FnExactSwitch', WHERE WHAT IT READS IS OF BULK AT MOST 1048576: true; the input reads as it did. -/
def fnExactSwitchUptoRow : OpenClaim := { program := "ytglbbklikojffaadoor", sum := "b3eac8ce53acc9a18d0af92376f6ac446cec94bc7bf16bfdab2cc20fdbd5be8a", func := "loop.example/g00023/laws.FnExactSwitch", spec := "fnExactSwitch", inPlace := ["slices.overlaps[loop.example/g00023/impl.Profile]"], unfollowed := true, recurses := true, named := ["loop.example/g00023/impl.wordLetters"], apart := false, laid := [("loop.example/g00023/impl.wordLetters", laid_loop_example_g00023_impl_wordLetters)], narrowed := true }
def FnExactSwitchUptoSaid : Prop := fnExactSwitchUptoRow.holds Tryd.pinned (OpenSpec.upto fnExactSwitchSpec)

/-- 'laws.FnExactRollback', WHERE WHAT IT READS IS OF BULK AT MOST 1048576: true; the input reads as it did. -/
def fnExactRollbackUptoRow : OpenClaim := { program := "ytglbbklikojffaadoor", sum := "b3eac8ce53acc9a18d0af92376f6ac446cec94bc7bf16bfdab2cc20fdbd5be8a", func := "loop.example/g00023/laws.FnExactRollback", spec := "fnExactRollback", unfollowed := true, recurses := true, named := ["loop.example/g00023/impl.wordLetters"], apart := false, laid := [("loop.example/g00023/impl.wordLetters", laid_loop_example_g00023_impl_wordLetters)], narrowed := true }
def FnExactRollbackUptoSaid : Prop := fnExactRollbackUptoRow.holds Tryd.pinned (OpenSpec.upto fnExactRollbackSpec)

/-- 'laws.FnExactPrune', WHERE WHAT IT READS IS OF BULK AT MOST 1048576: true; the input reads as it did. -/
def fnExactPruneUptoRow : OpenClaim := { program := "ytglbbklikojffaadoor", sum := "b3eac8ce53acc9a18d0af92376f6ac446cec94bc7bf16bfdab2cc20fdbd5be8a", func := "loop.example/g00023/laws.FnExactPrune", spec := "fnExactPrune", unfollowed := true, recurses := true, named := ["loop.example/g00023/impl.wordLetters"], apart := false, laid := [("loop.example/g00023/impl.wordLetters", laid_loop_example_g00023_impl_wordLetters)], narrowed := true }
def FnExactPruneUptoSaid : Prop := fnExactPruneUptoRow.holds Tryd.pinned (OpenSpec.upto fnExactPruneSpec)

/-- 'laws.FnExactCurrent', WHERE WHAT IT READS IS OF BULK AT MOST 1048576: true; the input reads as it did. -/
def fnExactCurrentUptoRow : OpenClaim := { program := "ytglbbklikojffaadoor", sum := "b3eac8ce53acc9a18d0af92376f6ac446cec94bc7bf16bfdab2cc20fdbd5be8a", func := "loop.example/g00023/laws.FnExactCurrent", spec := "fnExactCurrent", unfollowed := true, recurses := true, named := ["loop.example/g00023/impl.wordLetters"], apart := false, laid := [("loop.example/g00023/impl.wordLetters", laid_loop_example_g00023_impl_wordLetters)], narrowed := true }
def FnExactCurrentUptoSaid : Prop := fnExactCurrentUptoRow.holds Tryd.pinned (OpenSpec.upto fnExactCurrentSpec)

/-- 'laws.FnExactRoots', WHERE WHAT IT READS IS OF BULK AT MOST 1048576: true; the input reads as it did. -/
def fnExactRootsUptoRow : OpenClaim := { program := "ytglbbklikojffaadoor", sum := "b3eac8ce53acc9a18d0af92376f6ac446cec94bc7bf16bfdab2cc20fdbd5be8a", func := "loop.example/g00023/laws.FnExactRoots", spec := "fnExactRoots", unfollowed := true, recurses := true, named := ["loop.example/g00023/impl.wordLetters"], apart := false, laid := [("loop.example/g00023/impl.wordLetters", laid_loop_example_g00023_impl_wordLetters)], narrowed := true }
def FnExactRootsUptoSaid : Prop := fnExactRootsUptoRow.holds Tryd.pinned (OpenSpec.upto fnExactRootsSpec)

end Rows
end Go.Proofs.YtglbbklikojffaaDoor
