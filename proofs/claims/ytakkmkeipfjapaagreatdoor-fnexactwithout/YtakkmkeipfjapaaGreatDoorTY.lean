import Derived.Test.YtakkmkeipfjapaaGreatDoorTX
import Derived.Test.YtakkmkeipfjapaaGreatDoorTD
namespace Go.Proofs.YtakkmkeipfjapaaGreatDoor.tt
open Go.ChangeShapes Go.WideShapes Go.ChangeAt Go.RowKit Go.Deep Go.Maps
set_option linter.unusedVariables false
set_option linter.unusedSimpArgs false

/-! ### Trees of files: impl.TreeOk, out of what at is shown to do -/

set_option maxRecDepth 100000 in
theorem itree_any (E : Nat → En) (b o n cap : Nat) (w : World) (hR : EnR w b o n E) (hS : SmE n E) (hn : n ≤ 1048576) (hm : ML w) (hC : AtC E) :
    Calls Tryz.prog 45 #[.slice (some ⟨b, o, none⟩) n cap] w fun e w' => e = .returned (.bool (treeB E n)) ∧ Below w.heap.size w w' := by
  have HB := branchOf_any E b o n cap w hR hS hn hm hC
  clear hR hS hm hC
  go_enter Tryz.func45, Tryz.ntmps45
  go_wp2_with (go_at_call 68; refine HB.mono ?_; rintro e w1 ⟨⟨v, rfl, hv⟩, hb⟩; rcases v with _ | v)
  · go_ret
    exact ⟨ret_bool hv, hb⟩
  · go_ret
    exact ⟨ret_bool hv, hb⟩

end Go.Proofs.YtakkmkeipfjapaaGreatDoor.tt
