import Derived.Test.YtfcbneknikopkaaGreatDoorCards
import Derived.WalkKit
import Derived.ProofKit
import Derived.JoinedCond
namespace Go.Proofs.YtfcbneknikopkaaGreatDoor.sr

theorem named3 : Tryz.pinned.checked.prog.funcNamed Rows.fnExactBuiltinNamesRow.func = some 3 := by kernel_rfl

set_option maxRecDepth 100000 in
set_option maxHeartbeats 0 in
theorem closed3 : joinedFacts Tryz.pinned.checked.prog 3 Tryz.f3 (OpenSpec.ofChange Rows.fnExactBuiltinNamesSpec).bare Rows.fnExactBuiltinNamesRow = true := by
  unfold joinedFacts
  repeat' (with_reducible refine Bool.and_eq_true_iff.mpr ⟨?_, ?_⟩)
  all_goals as_aux_lemma => kernel_rfl

end Go.Proofs.YtfcbneknikopkaaGreatDoor.sr
