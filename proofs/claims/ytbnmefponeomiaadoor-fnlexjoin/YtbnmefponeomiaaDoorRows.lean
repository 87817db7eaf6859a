/-
  NARROWER THAN 'FOR EVERY INPUT', by the rows' own cells (each row's printed sentence says how): FnWordBack: laid · FnLexJoin: laid.
  DERIVED. THE GIVEN ROWS OF THIS SEAT. 2 by the template 'for every input the law returns true; each argument reads behind the call as it read before'; 0 by the template 'total and deterministic' (their statements: YtbnmefponeomiaaDoorTotals.lean).
  GIVEN WITH THE SEED: the statements are not yours to turn. If you find one false, say at which input.
  Laid BY PROGRAM, IN A SANDBOX (cutbox-rows.mjs): the forced cells as the released guide's own fill.sh prints them over the translation 8f71997f00b170a2… (all of the seat's roots in one cut). By AI agents, Wed Nov 11 2026. No macro, syntax, notation, axiom, sorry.
-/
import Derived.Test.YtbnmefponeomiaaDoorChecked
import GoSem.Claim
import GoSem.ClaimJoined
import GoSem.ClaimMapViews
import Derived.JoinedTies
import Derived.KernelRfl
namespace Go.Proofs.YtbnmefponeomiaaDoor
/- THE CELL 'sum', in the pinned program and in every row, IS THE sha256 OF THE DUMP (.gsa) THAT YtbnmefponeomiaaDoorProg.lean LOADS. Nothing in Lean hashes anything: it is a label: what it is worth is what the hold of that sum in a sandbox is worth. -/
noncomputable def Tryd.pinned : Pinned := { name := "ytbnmefponeomiaadoor", sum := "8f71997f00b170a2e4fed7ec3dd585efd644c77aefbb51da14841a865c3144e4", checked := Tryd.checked }
namespace Rows
def none {H : Type} : Left H := { results := [], args := [] }

/- WHAT THE LISTED PACKAGE-LEVEL VARIABLES READ AS WHEN THE CALL BEGINS. Each datum BY PROGRAM (the guide's laid-datum.mjs) off the statement by which the dump's own 'gosem.cut.vars' lays the variable. In a bare row this is a premise. The card (YtbnmefponeomiaaDoorCards.lean) ties it to the program's text. -/
def laid_loop_example_g00023_impl_wordLetters {H : Type} : DataW H := .agg [.lit (.int .u8 48), .lit (.int .u8 49), .lit (.int .u8 50), .lit (.int .u8 51), .lit (.int .u8 52), .lit (.int .u8 53), .lit (.int .u8 54), .lit (.int .u8 55), .lit (.int .u8 56), .lit (.int .u8 57), .lit (.int .u8 97), .lit (.int .u8 98), .lit (.int .u8 99), .lit (.int .u8 100), .lit (.int .u8 102), .lit (.int .u8 103), .lit (.int .u8 104), .lit (.int .u8 105), .lit (.int .u8 106), .lit (.int .u8 107), .lit (.int .u8 108), .lit (.int .u8 109), .lit (.int .u8 110), .lit (.int .u8 112), .lit (.int .u8 113), .lit (.int .u8 114), .lit (.int .u8 115), .lit (.int .u8 118), .lit (.int .u8 119), .lit (.int .u8 120), .lit (.int .u8 121), .lit (.int .u8 122)]
def laid_loop_example_g00023_impl_signs {H : Type} : DataW H := .agg [.lit (.string [46, 46, 46]), .lit (.string [45, 62]), .lit (.string [47, 47]), .lit (.string [43, 43]), .lit (.string [38, 38]), .lit (.string [124, 124]), .lit (.string [61, 61]), .lit (.string [33, 61]), .lit (.string [60, 61]), .lit (.string [62, 61]), .lit (.string [123]), .lit (.string [125]), .lit (.string [91]), .lit (.string [93]), .lit (.string [40]), .lit (.string [41]), .lit (.string [59]), .lit (.string [58]), .lit (.string [44]), .lit (.string [46]), .lit (.string [63]), .lit (.string [61]), .lit (.string [60]), .lit (.string [62]), .lit (.string [43]), .lit (.string [45]), .lit (.string [42]), .lit (.string [47]), .lit (.string [33])]
def laid_loop_example_g00023_impl_escapes {H : Type} : DataW H := .agg [.agg [.lit (.int .u8 110), .lit (.int .u8 10)], .agg [.lit (.int .u8 116), .lit (.int .u8 9)], .agg [.lit (.int .u8 34), .lit (.int .u8 34)], .agg [.lit (.int .u8 92), .lit (.int .u8 92)]]

/-- 'laws.FnWordBack': WHATEVER THE INPUT: true; the input reads as it did. -/
def fnWordBackSpec : ChangeSpec := { name := "fnWordBack", vars := ["loop.example/g00023/impl.wordLetters"], fn := fun _ => fun
  | [d, g1] => { results := [.lit (.bool true)], args := [d], vars := [g1] }
  | _ => none }
def fnWordBackRow : OpenClaim := { program := "ytbnmefponeomiaadoor", sum := "8f71997f00b170a2e4fed7ec3dd585efd644c77aefbb51da14841a865c3144e4", func := "loop.example/g00023/laws.FnWordBack", spec := "fnWordBack", named := ["loop.example/g00023/impl.wordLetters"], apart := false, laid := [("loop.example/g00023/impl.wordLetters", laid_loop_example_g00023_impl_wordLetters)] }
def FnWordBackSaid : Prop := fnWordBackRow.holds Tryd.pinned (OpenSpec.ofChange fnWordBackSpec)

/-- ITS FALSE NEIGHBOUR: 'it returns false'. Refute it at one input. -/
def fnWordBackWrong : ChangeSpec := { name := "fnWordBack", vars := ["loop.example/g00023/impl.wordLetters"], fn := fun _ => fun
  | [d, g1] => { results := [.lit (.bool false)], args := [d], vars := [g1] }
  | _ => none }
def FnWordBackWrongFalsely : Prop := fnWordBackRow.holds Tryd.pinned (OpenSpec.ofChange fnWordBackWrong)

/-- 'laws.FnLexJoin': WHATEVER THE INPUT: true; the input reads as it did. -/
def fnLexJoinSpec : ChangeSpec := { name := "fnLexJoin", vars := ["loop.example/g00023/impl.escapes", "loop.example/g00023/impl.signs"], fn := fun _ => fun
  | [d, g1, g2] => { results := [.lit (.bool true)], args := [d], vars := [g1, g2] }
  | _ => none }
def fnLexJoinRow : OpenClaim := { program := "ytbnmefponeomiaadoor", sum := "8f71997f00b170a2e4fed7ec3dd585efd644c77aefbb51da14841a865c3144e4", func := "loop.example/g00023/laws.FnLexJoin", spec := "fnLexJoin", unfollowed := true, recurses := true, named := ["loop.example/g00023/impl.escapes", "loop.example/g00023/impl.signs"], apart := false, laid := [("loop.example/g00023/impl.signs", laid_loop_example_g00023_impl_signs), ("loop.example/g00023/impl.escapes", laid_loop_example_g00023_impl_escapes)] }
def FnLexJoinSaid : Prop := fnLexJoinRow.holds Tryd.pinned (OpenSpec.ofChange fnLexJoinSpec)

/-- ITS FALSE NEIGHBOUR: 'it returns false'. Refute it at one input. -/
def fnLexJoinWrong : ChangeSpec := { name := "fnLexJoin", vars := ["loop.example/g00023/impl.escapes", "loop.example/g00023/impl.signs"], fn := fun _ => fun
  | [d, g1, g2] => { results := [.lit (.bool false)], args := [d], vars := [g1, g2] }
  | _ => none }
def FnLexJoinWrongFalsely : Prop := fnLexJoinRow.holds Tryd.pinned (OpenSpec.ofChange fnLexJoinWrong)

/- THE SECOND FORM. 'bulk': how many values and letters a reading holds, each counted each time it is reached (what is shared counts as often as it is met; a slice's spare places count too). A statement '..UptoSaid' is the law's where the arguments, and the package variables that the reading takes, are together of bulk at most 1048576: NARROWER than '..Said'. Prove '..Said' where nothing that the law and all that it calls make is longer than what came in: it says more and counts as full. Else prove '..UptoSaid'. A law counts once. -/
mutual
def uptoBulk {H : Type} : DataW H → Nat
  | .lit (.string bytes) => bytes.length + 1
  | .lit _ => 1
  | .nil => 1
  | .ptr d => uptoBulk d + 1
  | .slice elems spare => uptoBulkAll elems + uptoBulkAll spare + 1
  | .agg parts => uptoBulkAll parts + 1
  | .iface _ d => uptoBulk d + 1
  | .map entries => uptoBulkEntries entries + 1
  | .held _ => 1
def uptoBulkAll {H : Type} : List (DataW H) → Nat
  | [] => 0
  | d :: r => uptoBulk d + uptoBulkAll r
def uptoBulkEntries {H : Type} : List (Lit × DataW H) → Nat
  | [] => 0
  | x :: r => uptoBulkEntry x + uptoBulkEntries r
def uptoBulkEntry {H : Type} : Lit × DataW H → Nat
  | (.string bytes, d) => bytes.length + uptoBulk d + 1
  | (_, d) => uptoBulk d + 1
 end
def uptoSmall : (H : Type) → List (DataW H) → Bool := fun _ ds => decide (uptoBulkAll ds ≤ 1048576)
def OpenSpec.upto (s : _root_.Go.ChangeSpec) : _root_.Go.OpenSpec := { _root_.Go.OpenSpec.ofChange s with cond := some uptoSmall }

/-- 'laws.FnWordBack', WHERE WHAT IT READS IS OF BULK AT MOST 1048576: true; the input reads as it did. -/
def fnWordBackUptoRow : OpenClaim := { program := "ytbnmefponeomiaadoor", sum := "8f71997f00b170a2e4fed7ec3dd585efd644c77aefbb51da14841a865c3144e4", func := "loop.example/g00023/laws.FnWordBack", spec := "fnWordBack", named := ["loop.example/g00023/impl.wordLetters"], apart := false, laid := [("loop.example/g00023/impl.wordLetters", laid_loop_example_g00023_impl_wordLetters)], narrowed := true }
def FnWordBackUptoSaid : Prop := fnWordBackUptoRow.holds Tryd.pinned (OpenSpec.upto fnWordBackSpec)

/-- 'laws.FnLexJoin', WHERE WHAT IT READS IS OF BULK AT MOST 1048576: true; the input reads as it did. -/
def fnLexJoinUptoRow : OpenClaim := { program := "ytbnmefponeomiaadoor", sum := "8f71997f00b170a2e4fed7ec3dd585efd644c77aefbb51da14841a865c3144e4", func := "loop.example/g00023/laws.FnLexJoin", spec := "fnLexJoin", unfollowed := true, recurses := true, named := ["loop.example/g00023/impl.escapes", "loop.example/g00023/impl.signs"], apart := false, laid := [("loop.example/g00023/impl.signs", laid_loop_example_g00023_impl_signs), ("loop.example/g00023/impl.escapes", laid_loop_example_g00023_impl_escapes)], narrowed := true }
def FnLexJoinUptoSaid : Prop := fnLexJoinUptoRow.holds Tryd.pinned (OpenSpec.upto fnLexJoinSpec)

end Rows
end Go.Proofs.YtbnmefponeomiaaDoor
