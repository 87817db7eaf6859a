import Derived.Test.YtheponigjofknaaDoorRMI
import Derived.Test.YtheponigjofknaaDoorLT
import Derived.Test.YtheponigjofknaaDoorMM
import Derived.LaidLaws
namespace Go.Proofs.YtheponigjofknaaDoor.mt
open Go.ChangeShapes Go.WideShapes Go.ChangeAt Go.RowKit Go.Deep
set_option linter.unusedVariables false

/-! ### The library's errors as they are laid -/
theorem err_of {P : Program} {W : World} {name nm : String} {d : DataW Unit} {rest : List (String × DataW Unit)} {ps : List MemPlace} {g : Nat} {ti : TypeId} {ms : Array (String × TypeId)}
    (hg : P.globalNamed name = some g) (hty : (P.globals[g]?).map (·.type) = some ti) (hi : P.underlying ti = some (.interface ms)) (h : DataW.LaidVars P W ((name, .iface nm d) :: rest) ps) : ∃ ev, W.cell? ⟨g, 0, none⟩ = some ev ∧ (ev = .nilIface ∨ ∃ te pe, ev = .iface te pe) := by
  obtain ⟨g', t', cs, fuel, p, q, hg', ht', hvar, hd, _, _⟩ := h
  obtain rfl := Option.some.inj (hg.symm.trans hg')
  obtain rfl := Option.some.inj (hty.symm.trans ht')
  obtain ⟨f1, u, v, hcs, _, _⟩ := iface_of_trod hi hd
  have h0 := World.var?_cell hg' hvar 0
  obtain ⟨cl⟩ := cs
  subst hcs
  exact ⟨.iface u v, by simpa using h0, .inr ⟨u, v, rfl⟩⟩
theorem gSyn : Tryd.prog.globalNamed "strconv.ErrSyntax" = some (Tryd.rmPI_ren.g 15) := by kernel_rfl
theorem gSynT : (Tryd.prog.globals[Tryd.rmPI_ren.g 15]?).map (·.type) = some 82 := by kernel_rfl
theorem gRan : Tryd.prog.globalNamed "strconv.ErrRange" = some (Tryd.rmPI_ren.g 16) := by kernel_rfl
theorem gRanT : (Tryd.prog.globals[Tryd.rmPI_ren.g 16]?).map (·.type) = some 82 := by kernel_rfl

end Go.Proofs.YtheponigjofknaaDoor.mt
