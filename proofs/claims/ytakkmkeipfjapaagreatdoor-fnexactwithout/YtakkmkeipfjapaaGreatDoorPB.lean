import Derived.Test.YtakkmkeipfjapaaGreatDoorWF2
import Derived.Maps.Own
namespace Go.Proofs.YtakkmkeipfjapaaGreatDoor.pf
open Go.ChangeShapes Go.WideShapes Go.ChangeAt Go.RowKit Go.Deep Go.Maps
set_option linter.unusedVariables false

/-! ### The values of letters (for a seat without profiles) -/

theorem grown_of {w w' : World} (hb : Below w.heap.size w w') : w.grownBy w' none := ⟨hb.os, hb.tape, hb.output, hb.size, fun k hk _ => hb.block k hk⟩

/-- The values of letters. -/
def LV (w : World) (mb : Nat) : Prop := w.ownsMap Tryz.prog 5 (plainElem Tryz.prog 77) mb 32 (wd.lvD 32)

theorem LV.below {w w' : World} {mb : Nat} (h : LV w mb) (hb : Below w.heap.size w w') : LV w' mb := World.ownsMap.kept h (grown_of hb) (by simp)

end Go.Proofs.YtakkmkeipfjapaaGreatDoor.pf
