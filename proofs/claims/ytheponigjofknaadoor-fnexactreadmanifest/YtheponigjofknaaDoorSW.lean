import Derived.Test.YtheponigjofknaaDoorWC
import Derived.Test.YtheponigjofknaaDoorNA
import Derived.Lib.Hide
namespace Go.Proofs.YtheponigjofknaaDoor.sg
open Go.ChangeShapes Go.WideShapes Go.ChangeAt Go.RowKit Go.Deep
set_option linter.unusedVariables false

theorem tab_block {w : World} (h : wd.TabB w) : wd.Tab w := fun i hi => by
  obtain ⟨t, fr, hb⟩ := h
  have hi' : i < wd.LET.length := hi
  simp only [World.cell?, hb]
  show wd.LETC[i]? = _
  simp [wd.LETC, wd.letU, List.getElem?_eq_getElem hi']

end Go.Proofs.YtheponigjofknaaDoor.sg
