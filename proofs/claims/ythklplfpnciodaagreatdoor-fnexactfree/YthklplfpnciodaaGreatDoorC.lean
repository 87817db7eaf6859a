import Derived.Test.YthklplfpnciodaaGreatDoorA
import Derived.LaidLaws
import Derived.ChangeArms
import Derived.ChangeSame
namespace Go.Proofs.YthklplfpnciodaaGreatDoor.es
open Go.ChangeShapes Go.WideShapes Go.ChangeAt Go.RowKit Go.Deep
set_option linter.unusedVariables false

theorem cellsE : Tryz.prog.cellsOf 168 = 2 := by kernel_rfl
theorem cellsT : Tryz.prog.cellsOf 169 = 8 := by kernel_rfl
theorem cells5 : Tryz.prog.cellsOf 5 = 1 := by kernel_rfl

theorem pair_cells {H : Type} {enc : TypeId × Value → H} {w : World} {base : Nat} {sp : Nat → Bool} {held : Bool} {fuel : Nat} {c0 c1 : Value} {x : DataW H × List MemPlace} {a b : Int}
    (h : DataW.trod enc Tryz.prog w base sp held fuel 168 [c0, c1] = some x) (hx : x.1 = .agg [.lit (.int .u8 a), .lit (.int .u8 b)]) : c0 = .int .u8 a ∧ c1 = .int .u8 b := by
  obtain ⟨y0, y1, n, rfl, hl, h0, h1⟩ := trod_struct2 Tryz.underlying168 h
  simp only [cells5] at h0 h1
  obtain ⟨z0, e0, rfl, _⟩ := DataW.trod_int Tryz.underlying5 h0
  obtain ⟨z1, e1, rfl, _⟩ := DataW.trod_int Tryz.underlying5 h1
  simp at e0 e1 hx
  exact ⟨by rw [e0, hx.1], by rw [e1, hx.2]⟩

set_option maxRecDepth 100000 in
theorem esc_cells {H : Type} {enc : TypeId × Value → H} {w : World} {base : Nat} {sp : Nat → Bool} {held : Bool} {fuel : Nat} {cs : List Value} {p : List MemPlace}
    (h : DataW.trod enc Tryz.prog w base sp held fuel 169 cs = some (.agg [.agg [.lit (.int .u8 110), .lit (.int .u8 10)], .agg [.lit (.int .u8 116), .lit (.int .u8 9)], .agg [.lit (.int .u8 34), .lit (.int .u8 34)], .agg [.lit (.int .u8 92), .lit (.int .u8 92)]], p)) : cs = ESC.toList := by
  obtain ⟨xs, m, rfl, hx, hl, hxl, he⟩ := DataW.trod_array Tryz.underlying169 h
  rw [cellsT] at hl
  match xs, hxl with
  | [x0, x1, x2, x3], _ =>
    match cs, hl with
    | [c0, c1, c2, c3, c4, c5, c6, c7], _ =>
      simp only [cellsE] at he
      have g0 := he 0 (by omega)
      have g1 := he 1 (by omega)
      have g2 := he 2 (by omega)
      have g3 := he 3 (by omega)
      simp at g0 g1 g2 g3 hx
      obtain ⟨⟨a0, a1, a2, a3⟩, _⟩ := hx
      obtain ⟨rfl, rfl⟩ := pair_cells g0 a0.symm
      obtain ⟨rfl, rfl⟩ := pair_cells g1 a1.symm
      obtain ⟨rfl, rfl⟩ := pair_cells g2 a2.symm
      obtain ⟨rfl, rfl⟩ := pair_cells g3 a3.symm
      rfl

theorem gEsc : Tryz.prog.globalNamed "loop.example/g00023/impl.escapes" = some 2 := by kernel_rfl
theorem gEscType : (Tryz.prog.globals[2]?).map (·.type) = some 169 := by kernel_rfl

theorem esc_of {W : World} {ps : List MemPlace} {rest : List (String × DataW Unit)}
    (h : DataW.LaidVars Tryz.prog W (("loop.example/g00023/impl.escapes", .agg [.agg [.lit (.int .u8 110), .lit (.int .u8 10)], .agg [.lit (.int .u8 116), .lit (.int .u8 9)], .agg [.lit (.int .u8 34), .lit (.int .u8 34)], .agg [.lit (.int .u8 92), .lit (.int .u8 92)]]) :: rest) ps) : EscB W := by
  obtain ⟨g', t', cs, fuel, p, q, hg', ht', hvar, hd, _, _⟩ := h
  obtain rfl := Option.some.inj (gEsc.symm.trans hg')
  obtain rfl := Option.some.inj (gEscType.symm.trans ht')
  have hcs : cs = ESC := by
    have := esc_cells hd
    exact Array.toList_inj.1 this
  subst hcs
  unfold World.var? at hvar
  rw [gEsc] at hvar
  simp only [Option.bind_some] at hvar
  split at hvar
  · rename_i c t fr hb
    rw [Option.some.injEq] at hvar
    subst hvar
    exact ⟨t, fr, hb⟩
  · cases hvar

end Go.Proofs.YthklplfpnciodaaGreatDoor.es
