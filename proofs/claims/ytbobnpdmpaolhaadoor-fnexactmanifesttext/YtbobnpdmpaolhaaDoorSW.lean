import Derived.Test.YtbobnpdmpaolhaaDoorWC
import Derived.Test.YtbobnpdmpaolhaaDoorNA
import Derived.Lib.Hide
namespace Go.Proofs.YtbobnpdmpaolhaaDoor.sg
open Go.ChangeShapes Go.WideShapes Go.ChangeAt Go.RowKit Go.Deep
set_option linter.unusedVariables false

theorem tab_block {w : World} (h : wd.TabB w) : wd.Tab w := fun i hi => by
  obtain ⟨t, fr, hb⟩ := h
  have hi' : i < wd.LET.length := hi
  simp only [World.cell?, hb]
  show wd.LETC[i]? = _
  simp [wd.LETC, wd.letU, List.getElem?_eq_getElem hi']

/-- A key's text. -/
def ktA (s : ByteArray) (n e : Nat) : ByteArray := if nm.nameB s then s ++ ⟨#[58]⟩ ++ wd.wordA n ++ ⟨#[58]⟩ ++ wd.wordA e else ⟨#[]⟩

end Go.Proofs.YtbobnpdmpaolhaaDoor.sg
