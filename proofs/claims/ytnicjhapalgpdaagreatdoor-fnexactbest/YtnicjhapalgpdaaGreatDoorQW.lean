import Derived.Test.YtnicjhapalgpdaaGreatDoorQU
namespace Go.Proofs.YtnicjhapalgpdaaGreatDoor.rc
open Go.ChangeShapes Go.WideShapes Go.ChangeAt Go.RowKit Go.Deep Go.Lib Go.Shelf Go.Proofs.YtnicjhapalgpdaaGreatDoor.vr
set_option linter.unusedVariables false
set_option linter.unusedSimpArgs false

/-! ### The program: Matches, out of what boundsOf is shown to do -/

/-- What boundsOf does at a text. -/
def BO (c : ByteArray) : Prop := ∀ W, ML W → Calls Tryz.prog 12 #[.string c] W fun e w' => (∃ G cap ls, (rd c.data.toList = none ∧ ls = [] ∨ rd c.data.toList = some ls) ∧ e = .returned (.slice (some ⟨G, 0, none⟩) ls.length cap) ∧ BRR w' (.slice (some ⟨G, 0, none⟩) ls.length cap) ls) ∧ Below W.heap.size W w'

end Go.Proofs.YtnicjhapalgpdaaGreatDoor.rc
