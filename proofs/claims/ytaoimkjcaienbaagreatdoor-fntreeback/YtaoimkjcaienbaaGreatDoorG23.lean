import Derived.Test.YtaoimkjcaienbaaGreatDoorG02
import Derived.Lib.LaidTab
namespace Go.Proofs.YtaoimkjcaienbaaGreatDoor.lt
open Go.ChangeShapes Go.WideShapes Go.ChangeAt Go.RowKit Go.Deep
set_option linter.unusedVariables false

/-! the table as it is laid -/
theorem laid_skip {P : Program} {W : World} {x : String × DataW Unit} {rest : List (String × DataW Unit)} {ps : List MemPlace} (h : DataW.LaidVars P W (x :: rest) ps) : ∃ q, DataW.LaidVars P W rest q := by
  obtain ⟨g, t, cs, fuel, p, q, _, _, _, _, hr, _⟩ := h
  exact ⟨q, hr⟩
theorem laid_tab {P : Program} {W : World} {name : String} {k : IntKind} {zs : List Int} {rest : List (String × DataW Unit)} {ps : List MemPlace} {g : Nat} {t e : TypeId} {n : Nat}
    (hg : P.globalNamed name = some g) (hty : (P.globals[g]?).map (·.type) = some t) (ht : P.underlying t = some (.array n e)) (he : P.underlying e = some (.int k)) (hce : P.cellsOf e = 1) (hct : P.cellsOf t = n)
    (h : DataW.LaidVars P W ((name, Lib.tabData k zs) :: rest) ps) : Lib.TabIs P W name k zs := by
  obtain ⟨g', t', cs, fuel, p, q, hg', ht', hvar, hd, _, _⟩ := h
  obtain rfl := Option.some.inj (hg.symm.trans hg')
  obtain rfl := Option.some.inj (hty.symm.trans ht')
  unfold Lib.TabIs
  rw [hvar, ← Lib.cells_of_tab ht he hce hct hd]
def letZ : List Int := [48, 49, 50, 51, 52, 53, 54, 55, 56, 57, 97, 98, 99, 100, 102, 103, 104, 105, 106, 107, 108, 109, 110, 112, 113, 114, 115, 118, 119, 120, 121, 122]
theorem gLet : Tryz.prog.globalNamed "loop.example/g00023/impl.wordLetters" = some 0 := by kernel_rfl
theorem gLetType : (Tryz.prog.globals[0]?).map (·.type) = some 67 := by kernel_rfl
theorem cLet : Tryz.prog.cellsOf 67 = 32 := by kernel_rfl
theorem cLetE : Tryz.prog.cellsOf 5 = 1 := by kernel_rfl
theorem let_of {W : World} {ps : List MemPlace} {rest : List (String × DataW Unit)} (h : DataW.LaidVars Tryz.prog W (("loop.example/g00023/impl.wordLetters", Lib.tabData .u8 letZ) :: rest) ps) : Lib.TabIs Tryz.prog W "loop.example/g00023/impl.wordLetters" .u8 letZ :=
  laid_tab gLet gLetType Tryz.underlying67 Tryz.underlying5 cLetE cLet h
theorem tabB_of {W : World} (h : Lib.TabIs Tryz.prog W "loop.example/g00023/impl.wordLetters" .u8 letZ) : wd.TabB W := by
  unfold Lib.TabIs World.var? at h
  rw [gLet] at h
  simp only [Option.bind_some] at h
  split at h
  · rename_i cs t fr hb
    rw [Option.some.injEq] at h
    subst h
    exact ⟨t, fr, hb⟩
  · cases h

end Go.Proofs.YtaoimkjcaienbaaGreatDoor.lt
