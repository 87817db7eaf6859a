/-
  NARROWER THAN 'FOR EVERY INPUT', by the rows' own cells (each row's printed sentence says how): FnFreeBound: laid.
  DERIVED. THE GIVEN ROWS OF THIS SEAT. 1 by the template 'for every input the law returns true; each argument reads behind the call as it read before'; 0 by the template 'total and deterministic' (their statements: YtifgaaemdojmpaaGreatDoorTotals.lean).
  GIVEN WITH THE SEED: the statements are not yours to turn. If you find one false, say at which input.
  Laid BY PROGRAM, IN A SANDBOX (cutbox-rows.mjs): the forced cells as the released guide's own fill.sh prints them over the translation 49b03676f459edc9… (all of the seat's roots in one cut). By AI agents, Wed Nov 11 2026. No macro, syntax, notation, axiom, sorry.
-/
import Derived.Test.YtifgaaemdojmpaaGreatDoorChecked
import GoSem.Claim
import GoSem.ClaimJoined
import GoSem.ClaimMapViews
import Derived.JoinedTies
import Derived.KernelRfl
namespace Go.Proofs.YtifgaaemdojmpaaGreatDoor
/- THE CELL 'sum', in the pinned program and in every row, IS THE sha256 OF THE DUMP (.gsa) THAT YtifgaaemdojmpaaGreatDoorProg.lean LOADS. Nothing in Lean hashes anything: it is a label: what it is worth is what the hold of that sum in a sandbox is worth. -/
noncomputable def Tryz.pinned : Pinned := { name := "ytifgaaemdojmpaagreatdoor", sum := "49b03676f459edc9bd197d64b18a6107115948597b416dcfd9c716d126d3faaf", checked := Tryz.checked }
namespace Rows
def none {H : Type} : Left H := { results := [], args := [] }

/- WHAT THE LISTED PACKAGE-LEVEL VARIABLES READ AS WHEN THE CALL BEGINS. Each datum BY PROGRAM (the guide's laid-datum.mjs) off the statement by which the dump's own 'gosem.cut.vars' lays the variable. In a bare row this is a premise. The card (YtifgaaemdojmpaaGreatDoorCards.lean) ties it to the program's text. -/
def laid_loop_example_g00023_impl_escapes {H : Type} : DataW H := .agg [.agg [.lit (.int .u8 110), .lit (.int .u8 10)], .agg [.lit (.int .u8 116), .lit (.int .u8 9)], .agg [.lit (.int .u8 34), .lit (.int .u8 34)], .agg [.lit (.int .u8 92), .lit (.int .u8 92)]]
def laid_loop_example_g00023_impl_shapes {H : Type} : DataW H := .agg [.agg [.lit (.int .i64 0), .lit (.int .i64 0), .lit (.int .i64 0), .lit (.int .i64 0), .lit (.int .i64 0)], .agg [.lit (.int .i64 0), .lit (.int .i64 0), .lit (.int .i64 0), .lit (.int .i64 0), .lit (.int .i64 9007199254740992)], .agg [.lit (.int .i64 0), .lit (.int .i64 0), .lit (.int .i64 0), .lit (.int .i64 1), .lit (.int .i64 0)], .agg [.lit (.int .i64 0), .lit (.int .i64 0), .lit (.int .i64 0), .lit (.int .i64 2), .lit (.int .i64 0)], .agg [.lit (.int .i64 0), .lit (.int .i64 0), .lit (.int .i64 3000), .lit (.int .i64 0), .lit (.int .i64 0)], .agg [.lit (.int .i64 6), .lit (.int .i64 0), .lit (.int .i64 0), .lit (.int .i64 0), .lit (.int .i64 1)], .agg [.lit (.int .i64 0), .lit (.int .i64 1), .lit (.int .i64 1), .lit (.int .i64 2), .lit (.int .i64 0)], .agg [.lit (.int .i64 0), .lit (.int .i64 0), .lit (.int .i64 0), .lit (.int .i64 2), .lit (.int .i64 0)], .agg [.lit (.int .i64 6), .lit (.int .i64 1), .lit (.int .i64 1), .lit (.int .i64 0), .lit (.int .i64 0)], .agg [.lit (.int .i64 0), .lit (.int .i64 2), .lit (.int .i64 2), .lit (.int .i64 0), .lit (.int .i64 0)], .agg [.lit (.int .i64 0), .lit (.int .i64 2), .lit (.int .i64 2), .lit (.int .i64 0), .lit (.int .i64 0)], .agg [.lit (.int .i64 0), .lit (.int .i64 2), .lit (.int .i64 2), .lit (.int .i64 0), .lit (.int .i64 0)], .agg [.lit (.int .i64 0), .lit (.int .i64 3), .lit (.int .i64 3), .lit (.int .i64 0), .lit (.int .i64 0)], .agg [.lit (.int .i64 0), .lit (.int .i64 1), .lit (.int .i64 1), .lit (.int .i64 2), .lit (.int .i64 0)], .agg [.lit (.int .i64 15), .lit (.int .i64 1), .lit (.int .i64 1), .lit (.int .i64 0), .lit (.int .i64 1)], .agg [.lit (.int .i64 0), .lit (.int .i64 0), .lit (.int .i64 1), .lit (.int .i64 2), .lit (.int .i64 0)], .agg [.lit (.int .i64 0), .lit (.int .i64 1), .lit (.int .i64 2), .lit (.int .i64 2), .lit (.int .i64 0)], .agg [.lit (.int .i64 0), .lit (.int .i64 1), .lit (.int .i64 1), .lit (.int .i64 2), .lit (.int .i64 0)], .agg [.lit (.int .i64 0), .lit (.int .i64 2), .lit (.int .i64 2), .lit (.int .i64 3), .lit (.int .i64 0)], .agg [.lit (.int .i64 0), .lit (.int .i64 1), .lit (.int .i64 1), .lit (.int .i64 0), .lit (.int .i64 0)], .agg [.lit (.int .i64 0), .lit (.int .i64 1), .lit (.int .i64 1), .lit (.int .i64 0), .lit (.int .i64 0)]]
def laid_loop_example_g00023_impl_signsBetween {H : Type} : DataW H := .agg [.agg [.lit (.string [45, 62]), .lit (.int .i64 2)], .agg [.lit (.string [124, 124]), .lit (.int .i64 3)], .agg [.lit (.string [38, 38]), .lit (.int .i64 4)], .agg [.lit (.string [61, 61]), .lit (.int .i64 5)], .agg [.lit (.string [33, 61]), .lit (.int .i64 5)], .agg [.lit (.string [60]), .lit (.int .i64 6)], .agg [.lit (.string [60, 61]), .lit (.int .i64 6)], .agg [.lit (.string [62]), .lit (.int .i64 6)], .agg [.lit (.string [62, 61]), .lit (.int .i64 6)], .agg [.lit (.string [47, 47]), .lit (.int .i64 7)], .agg [.lit (.string [43]), .lit (.int .i64 9)], .agg [.lit (.string [45]), .lit (.int .i64 9)], .agg [.lit (.string [42]), .lit (.int .i64 10)], .agg [.lit (.string [47]), .lit (.int .i64 10)], .agg [.lit (.string [43, 43]), .lit (.int .i64 11)]]

/-- 'laws.FnFreeBound': WHATEVER THE INPUT: true; the input reads as it did. -/
def fnFreeBoundSpec : ChangeSpec := { name := "fnFreeBound", vars := ["loop.example/g00023/impl.shapes", "loop.example/g00023/impl.escapes", "loop.example/g00023/impl.signsBetween"], fn := fun _ => fun
  | [d, g1, g2, g3] => { results := [.lit (.bool true)], args := [d], vars := [g1, g2, g3] }
  | _ => none }
def fnFreeBoundRow : OpenClaim := { program := "ytifgaaemdojmpaagreatdoor", sum := "49b03676f459edc9bd197d64b18a6107115948597b416dcfd9c716d126d3faaf", func := "loop.example/g00023/laws.FnFreeBound", spec := "fnFreeBound", unfollowed := true, recurses := true, named := ["loop.example/g00023/impl.shapes", "loop.example/g00023/impl.escapes", "loop.example/g00023/impl.signsBetween"], apart := false, laid := [("loop.example/g00023/impl.escapes", laid_loop_example_g00023_impl_escapes), ("loop.example/g00023/impl.shapes", laid_loop_example_g00023_impl_shapes), ("loop.example/g00023/impl.signsBetween", laid_loop_example_g00023_impl_signsBetween)] }
def FnFreeBoundSaid : Prop := fnFreeBoundRow.holds Tryz.pinned (OpenSpec.ofChange fnFreeBoundSpec)

/-- ITS FALSE NEIGHBOUR: 'it returns false'. Refute it at one input. -/
def fnFreeBoundWrong : ChangeSpec := { name := "fnFreeBound", vars := ["loop.example/g00023/impl.shapes", "loop.example/g00023/impl.escapes", "loop.example/g00023/impl.signsBetween"], fn := fun _ => fun
  | [d, g1, g2, g3] => { results := [.lit (.bool false)], args := [d], vars := [g1, g2, g3] }
  | _ => none }
def FnFreeBoundWrongFalsely : Prop := fnFreeBoundRow.holds Tryz.pinned (OpenSpec.ofChange fnFreeBoundWrong)

/- THE SECOND FORM. 'bulk': how many values and letters a reading holds, each counted each time it is reached (what is shared counts as often as it is met; a slice's spare places count too). A statement '..UptoSaid' is the law's where the arguments, and the package variables that the reading takes, are together of bulk at most 1048576: NARROWER than '..Said'. Prove '..Said' where nothing that the law and all that it calls make is longer than what came in: it says more and counts as full. Else prove '..UptoSaid'. A law counts once. -/
mutual
def uptoBulk {H : Type} : DataW H → Nat
  | .lit (.string bytes) => bytes.length + 1
  | .lit _ => 1
  | .nil => 1
  | .ptr d => uptoBulk d + 1
  | .slice elems spare => uptoBulkAll elems + uptoBulkAll spare + 1
  | .agg parts => uptoBulkAll parts + 1
  | .iface _ d => uptoBulk d + 1
  | .map entries => uptoBulkEntries entries + 1
  | .held _ => 1
def uptoBulkAll {H : Type} : List (DataW H) → Nat
  | [] => 0
  | d :: r => uptoBulk d + uptoBulkAll r
def uptoBulkEntries {H : Type} : List (Lit × DataW H) → Nat
  | [] => 0
  | x :: r => uptoBulkEntry x + uptoBulkEntries r
def uptoBulkEntry {H : Type} : Lit × DataW H → Nat
  | (.string bytes, d) => bytes.length + uptoBulk d + 1
  | (_, d) => uptoBulk d + 1
 end
def uptoSmall : (H : Type) → List (DataW H) → Bool := fun _ ds => decide (uptoBulkAll ds ≤ 1048576)
def OpenSpec.upto (s : _root_.Go.ChangeSpec) : _root_.Go.OpenSpec := { _root_.Go.OpenSpec.ofChange s with cond := some uptoSmall }

/-- 'laws.FnFreeBound', WHERE WHAT IT READS IS OF BULK AT MOST 1048576: true; the input reads as it did. -/
def fnFreeBoundUptoRow : OpenClaim := { program := "ytifgaaemdojmpaagreatdoor", sum := "49b03676f459edc9bd197d64b18a6107115948597b416dcfd9c716d126d3faaf", func := "loop.example/g00023/laws.FnFreeBound", spec := "fnFreeBound", unfollowed := true, recurses := true, named := ["loop.example/g00023/impl.shapes", "loop.example/g00023/impl.escapes", "loop.example/g00023/impl.signsBetween"], apart := false, laid := [("loop.example/g00023/impl.escapes", laid_loop_example_g00023_impl_escapes), ("loop.example/g00023/impl.shapes", laid_loop_example_g00023_impl_shapes), ("loop.example/g00023/impl.signsBetween", laid_loop_example_g00023_impl_signsBetween)], narrowed := true }
def FnFreeBoundUptoSaid : Prop := fnFreeBoundUptoRow.holds Tryz.pinned (OpenSpec.upto fnFreeBoundSpec)

end Rows
end Go.Proofs.YtifgaaemdojmpaaGreatDoor
