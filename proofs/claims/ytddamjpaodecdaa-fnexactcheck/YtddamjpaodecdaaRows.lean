/-
  No cell of these rows narrows 'for every input' (looked for: loops, veiled, ifaces, maps, wideKeys, modest, calm, conditions, laid).
  DERIVED. THE GIVEN ROWS OF THIS SEAT. 5 by the template 'for every input the law returns true; each argument reads behind the call as it read before'; 0 by the template 'total and deterministic' (their statements: YtddamjpaodecdaaTotals.lean).
  GIVEN WITH THE SEED: the statements are not yours to turn. If you find one false, say at which input.
  Laid BY PROGRAM, IN A SANDBOX (cutbox-rows.mjs): the forced cells as the released guide's own fill.sh prints them over the translation 19ddb70a00dda337… (all of the seat's roots in one cut). By AI agents, Wed Nov 11 2026. No macro, syntax, notation, axiom, sorry.
-/
import Derived.Test.YtddamjpaodecdaaChecked
import GoSem.Claim
import GoSem.ClaimJoined
import GoSem.ClaimMapViews
import Derived.JoinedTies
import Derived.KernelRfl
namespace Go.Proofs.Ytddamjpaodecdaa
/- THE CELL 'sum', in the pinned program and in every row, IS THE sha256 OF THE DUMP (.gsa) THAT YtddamjpaodecdaaProg.lean LOADS. Nothing in Lean hashes anything: it is a label: what it is worth is what the hold of that sum in a sandbox is worth. -/
noncomputable def Try.pinned : Pinned := { name := "ytddamjpaodecdaa", sum := "19ddb70a00dda3376e8e83d7e2f8b7d48a9ddef5b36b503fc55469673d85d0c5", checked := Try.checked }
namespace Rows
def none {H : Type} : Left H := { results := [], args := [] }

/-- 'laws.FnExactPrimeOk': WHATEVER THE INPUT: true; the input reads as it did. -/
def fnExactPrimeOkSpec : ChangeSpec := { name := "fnExactPrimeOk", fn := fun _ => fun
  | [d] => { results := [.lit (.bool true)], args := [d] }
  | _ => none }
def fnExactPrimeOkRow : OpenClaim := { program := "ytddamjpaodecdaa", sum := "19ddb70a00dda3376e8e83d7e2f8b7d48a9ddef5b36b503fc55469673d85d0c5", func := "loop.example/g00023/laws.FnExactPrimeOk", spec := "fnExactPrimeOk", apart := false }
def FnExactPrimeOkSaid : Prop := fnExactPrimeOkRow.holds Try.pinned (OpenSpec.ofChange fnExactPrimeOkSpec)

/-- ITS FALSE NEIGHBOUR: 'it returns false'. Refute it at one input. -/
def fnExactPrimeOkWrong : ChangeSpec := { name := "fnExactPrimeOk", fn := fun _ => fun
  | [d] => { results := [.lit (.bool false)], args := [d] }
  | _ => none }
def FnExactPrimeOkWrongFalsely : Prop := fnExactPrimeOkRow.holds Try.pinned (OpenSpec.ofChange fnExactPrimeOkWrong)

/-- 'laws.FnExactMakeKey': WHATEVER THE INPUT: true; the input reads as it did. -/
def fnExactMakeKeySpec : ChangeSpec := { name := "fnExactMakeKey", fn := fun _ => fun
  | [d1, d2, d3] => { results := [.lit (.bool true)], args := [d1, d2, d3] }
  | _ => none }
def fnExactMakeKeyRow : OpenClaim := { program := "ytddamjpaodecdaa", sum := "19ddb70a00dda3376e8e83d7e2f8b7d48a9ddef5b36b503fc55469673d85d0c5", func := "loop.example/g00023/laws.FnExactMakeKey", spec := "fnExactMakeKey", apart := false }
def FnExactMakeKeySaid : Prop := fnExactMakeKeyRow.holds Try.pinned (OpenSpec.ofChange fnExactMakeKeySpec)

/-- ITS FALSE NEIGHBOUR: 'it returns false'. Refute it at one input. -/
def fnExactMakeKeyWrong : ChangeSpec := { name := "fnExactMakeKey", fn := fun _ => fun
  | [d1, d2, d3] => { results := [.lit (.bool false)], args := [d1, d2, d3] }
  | _ => none }
def FnExactMakeKeyWrongFalsely : Prop := fnExactMakeKeyRow.holds Try.pinned (OpenSpec.ofChange fnExactMakeKeyWrong)

/-- 'laws.FnExactPowMod': WHATEVER THE INPUT: true; the input reads as it did. -/
def fnExactPowModSpec : ChangeSpec := { name := "fnExactPowMod", fn := fun _ => fun
  | [d1, d2, d3] => { results := [.lit (.bool true)], args := [d1, d2, d3] }
  | _ => none }
def fnExactPowModRow : OpenClaim := { program := "ytddamjpaodecdaa", sum := "19ddb70a00dda3376e8e83d7e2f8b7d48a9ddef5b36b503fc55469673d85d0c5", func := "loop.example/g00023/laws.FnExactPowMod", spec := "fnExactPowMod", named := ["math/bits.divideError", "math/bits.overflowError"], apart := false }
def FnExactPowModSaid : Prop := fnExactPowModRow.holds Try.pinned (OpenSpec.ofChange fnExactPowModSpec)

/-- ITS FALSE NEIGHBOUR: 'it returns false'. Refute it at one input. -/
def fnExactPowModWrong : ChangeSpec := { name := "fnExactPowMod", fn := fun _ => fun
  | [d1, d2, d3] => { results := [.lit (.bool false)], args := [d1, d2, d3] }
  | _ => none }
def FnExactPowModWrongFalsely : Prop := fnExactPowModRow.holds Try.pinned (OpenSpec.ofChange fnExactPowModWrong)

/-- 'laws.FnExactSign': WHATEVER THE INPUT: true; the input reads as it did. -/
def fnExactSignSpec : ChangeSpec := { name := "fnExactSign", fn := fun _ => fun
  | [d1, d2] => { results := [.lit (.bool true)], args := [d1, d2] }
  | _ => none }
def fnExactSignRow : OpenClaim := { program := "ytddamjpaodecdaa", sum := "19ddb70a00dda3376e8e83d7e2f8b7d48a9ddef5b36b503fc55469673d85d0c5", func := "loop.example/g00023/laws.FnExactSign", spec := "fnExactSign", named := ["math/bits.divideError", "math/bits.overflowError"], apart := false }
def FnExactSignSaid : Prop := fnExactSignRow.holds Try.pinned (OpenSpec.ofChange fnExactSignSpec)

/-- ITS FALSE NEIGHBOUR: 'it returns false'. Refute it at one input. -/
def fnExactSignWrong : ChangeSpec := { name := "fnExactSign", fn := fun _ => fun
  | [d1, d2] => { results := [.lit (.bool false)], args := [d1, d2] }
  | _ => none }
def FnExactSignWrongFalsely : Prop := fnExactSignRow.holds Try.pinned (OpenSpec.ofChange fnExactSignWrong)

/-- 'laws.FnExactCheck': WHATEVER THE INPUT: true; the input reads as it did. -/
def fnExactCheckSpec : ChangeSpec := { name := "fnExactCheck", fn := fun _ => fun
  | [d1, d2, d3, d4] => { results := [.lit (.bool true)], args := [d1, d2, d3, d4] }
  | _ => none }
def fnExactCheckRow : OpenClaim := { program := "ytddamjpaodecdaa", sum := "19ddb70a00dda3376e8e83d7e2f8b7d48a9ddef5b36b503fc55469673d85d0c5", func := "loop.example/g00023/laws.FnExactCheck", spec := "fnExactCheck", named := ["math/bits.divideError", "math/bits.overflowError"], apart := false }
def FnExactCheckSaid : Prop := fnExactCheckRow.holds Try.pinned (OpenSpec.ofChange fnExactCheckSpec)

/-- ITS FALSE NEIGHBOUR: 'it returns false'. Refute it at one input. -/
def fnExactCheckWrong : ChangeSpec := { name := "fnExactCheck", fn := fun _ => fun
  | [d1, d2, d3, d4] => { results := [.lit (.bool false)], args := [d1, d2, d3, d4] }
  | _ => none }
def FnExactCheckWrongFalsely : Prop := fnExactCheckRow.holds Try.pinned (OpenSpec.ofChange fnExactCheckWrong)

/- THE SECOND FORM. 'bulk': how many values and letters a reading holds, each counted each time it is reached (what is shared counts as often as it is met; a slice's spare places count too). A statement '..UptoSaid' is the law's where the arguments, and the package variables that the reading takes, are together of bulk at most 1048576: NARROWER than '..Said'. Prove '..Said' where nothing that the law and all that it calls make is longer than what came in: it says more and counts as full. Else prove '..UptoSaid'. A law counts once. -/
mutual
def uptoBulk {H : Type} : DataW H → Nat
  | .lit (.string bytes) => bytes.length + 1
  | .lit _ => 1
  | .nil => 1
  | .ptr d => uptoBulk d + 1
  | .slice elems spare => uptoBulkAll elems + uptoBulkAll spare + 1
  | .agg parts => uptoBulkAll parts + 1
  | .iface _ d => uptoBulk d + 1
  | .map entries => uptoBulkEntries entries + 1
  | .held _ => 1
def uptoBulkAll {H : Type} : List (DataW H) → Nat
  | [] => 0
  | d :: r => uptoBulk d + uptoBulkAll r
def uptoBulkEntries {H : Type} : List (Lit × DataW H) → Nat
  | [] => 0
  | x :: r => uptoBulkEntry x + uptoBulkEntries r
def uptoBulkEntry {H : Type} : Lit × DataW H → Nat
  | (.string bytes, d) => bytes.length + uptoBulk d + 1
  | (_, d) => uptoBulk d + 1
 end
def uptoSmall : (H : Type) → List (DataW H) → Bool := fun _ ds => decide (uptoBulkAll ds ≤ 1048576)
def OpenSpec.upto (s : _root_.Go.ChangeSpec) : _root_.Go.OpenSpec := { _root_.Go.OpenSpec.ofChange s with cond := some uptoSmall }

/-- 'laws.FnExactPrimeOk', WHERE WHAT IT READS IS OF BULK AT MOST 1048576: true; the input reads as it did. -/
def fnExactPrimeOkUptoRow : OpenClaim := { program := "ytddamjpaodecdaa", sum := "19ddb70a00dda3376e8e83d7e2f8b7d48a9ddef5b36b503fc55469673d85d0c5", func := "loop.example/g00023/laws.FnExactPrimeOk", spec := "fnExactPrimeOk", apart := false, narrowed := true }
def FnExactPrimeOkUptoSaid : Prop := fnExactPrimeOkUptoRow.holds Try.pinned (OpenSpec.upto fnExactPrimeOkSpec)

/-- 'laws.FnExactMakeKey', WHERE WHAT IT READS IS OF BULK AT MOST 1048576: true; the input reads as it did. -/
def fnExactMakeKeyUptoRow : OpenClaim := { program := "ytddamjpaodecdaa", sum := "19ddb70a00dda3376e8e83d7e2f8b7d48a9ddef5b36b503fc55469673d85d0c5", func := "loop.example/g00023/laws.FnExactMakeKey", spec := "fnExactMakeKey", apart := false, narrowed := true }
def FnExactMakeKeyUptoSaid : Prop := fnExactMakeKeyUptoRow.holds Try.pinned (OpenSpec.upto fnExactMakeKeySpec)

/-- 'laws.FnExactPowMod', WHERE WHAT IT READS IS OF BULK AT MOST 1048576: true; the input reads as it did. -/
def fnExactPowModUptoRow : OpenClaim := { program := "ytddamjpaodecdaa", sum := "19ddb70a00dda3376e8e83d7e2f8b7d48a9ddef5b36b503fc55469673d85d0c5", func := "loop.example/g00023/laws.FnExactPowMod", spec := "fnExactPowMod", named := ["math/bits.divideError", "math/bits.overflowError"], apart := false, narrowed := true }
def FnExactPowModUptoSaid : Prop := fnExactPowModUptoRow.holds Try.pinned (OpenSpec.upto fnExactPowModSpec)

/-- 'laws.FnExactSign', WHERE WHAT IT READS IS OF BULK AT MOST 1048576: true; the input reads as it did. -/
def fnExactSignUptoRow : OpenClaim := { program := "ytddamjpaodecdaa", sum := "19ddb70a00dda3376e8e83d7e2f8b7d48a9ddef5b36b503fc55469673d85d0c5", func := "loop.example/g00023/laws.FnExactSign", spec := "fnExactSign", named := ["math/bits.divideError", "math/bits.overflowError"], apart := false, narrowed := true }
def FnExactSignUptoSaid : Prop := fnExactSignUptoRow.holds Try.pinned (OpenSpec.upto fnExactSignSpec)

/-- 'laws.FnExactCheck', WHERE WHAT IT READS IS OF BULK AT MOST 1048576: true; the input reads as it did. -/
def fnExactCheckUptoRow : OpenClaim := { program := "ytddamjpaodecdaa", sum := "19ddb70a00dda3376e8e83d7e2f8b7d48a9ddef5b36b503fc55469673d85d0c5", func := "loop.example/g00023/laws.FnExactCheck", spec := "fnExactCheck", named := ["math/bits.divideError", "math/bits.overflowError"], apart := false, narrowed := true }
def FnExactCheckUptoSaid : Prop := fnExactCheckUptoRow.holds Try.pinned (OpenSpec.upto fnExactCheckSpec)

end Rows
end Go.Proofs.Ytddamjpaodecdaa
