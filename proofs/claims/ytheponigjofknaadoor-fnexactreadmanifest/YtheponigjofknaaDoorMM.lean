import Derived.Test.YtheponigjofknaaDoorML
import Derived.Test.YtheponigjofknaaDoorLT
import Derived.Test.YtheponigjofknaaDoorSL
import Derived.SliceStrings
namespace Go.Proofs.YtheponigjofknaaDoor.mt
open Go.ChangeShapes Go.WideShapes Go.ChangeAt Go.RowKit Go.Deep
set_option linter.unusedVariables false

/-! ### A manifest that came in, and the tables as they are laid -/

theorem gPowType : (Tryd.prog.globals[2]?).map (·.type) = some 115 := by kernel_rfl
theorem cPow : Tryd.prog.cellsOf 115 = 20 := by kernel_rfl
theorem cPowE : Tryd.prog.cellsOf 23 = 1 := by kernel_rfl
theorem pow_of {W : World} {ps : List MemPlace} {rest : List (String × DataW Unit)} (h : DataW.LaidVars Tryd.prog W (("internal/strconv.uint64pow10", Lib.tabData .u64 Lib.pow10Tab) :: rest) ps) : PwT W :=
  lt.laid_tab gPow gPowType Tryd.underlying115 Tryd.underlying23 cPowE cPow h

theorem cells9 : Tryd.prog.cellsOf 9 = 1 := by kernel_rfl
theorem cellsI : Tryd.prog.cellsOf 2 = 1 := by kernel_rfl
theorem cellsS : Tryd.prog.cellsOf 22 = 1 := by kernel_rfl
theorem cellsM : Tryd.prog.cellsOf 25 = 6 := by kernel_rfl

/-- What a manifest that came in holds. -/
def SrcM (w : World) (path sum key : ByteArray) (sig : Nat) (l : List ByteArray) (a : Option Addr) (n : Nat) : Prop :=
  st.Ss w a n l ∧ n ≤ maxLen ∧ (∀ i, i < n → (st.atS l i).size ≤ maxLen) ∧ path.size ≤ maxLen ∧ sum.size ≤ maxLen ∧ key.size ≤ maxLen ∧ sig < 18446744073709551616

set_option maxRecDepth 100000 in
theorem man_cells {H : Type} {enc : TypeId × Value → H} {w : World} {held : Bool} {fuel : Nat} {cs : List Value} {x : DataW H × List MemPlace}
    (h : DataW.trod enc Tryd.prog w 0 (fun _ => true) held fuel 25 cs = some x) : ∃ (path sum key : ByteArray) (z : Int) (sig : Nat) (l : List ByteArray) (a : Option Addr) (n cap : Nat), cs = [.string path, .string sum, .int .i64 z, .slice a n cap, .string key, .int .u64 (sig : Int)] ∧ SrcM w path sum key sig l a n := by
  obtain ⟨xs, n, _, rfl, hl, hlen, hf⟩ := DataW.trod_struct Tryd.underlying25 h
  rw [cellsM] at hl
  match xs, hlen, cs, hl with
  | [y0, y1, y2, y3, y4, y5], _, [c0, c1, c2, c3, c4, c5], _ =>
    have g0 := hf 0 _ rfl
    have g1 := hf 1 _ rfl
    have g2 := hf 2 _ rfl
    have g3 := hf 3 _ rfl
    have g4 := hf 4 _ rfl
    have g5 := hf 5 _ rfl
    simp [cells9, cellsI, cellsS, cPowE] at g0 g1 g2 g3 g4 g5
    obtain ⟨z0, e0, _, hz0⟩ := DataW.trod_string Tryd.underlying9 g0
    obtain ⟨z1, e1, _, hz1⟩ := DataW.trod_string Tryd.underlying9 g1
    obtain ⟨z2, e2, _, hz2⟩ := DataW.trod_int Tryd.underlying2 g2
    obtain ⟨z4, e4, _, hz4⟩ := DataW.trod_string Tryd.underlying9 g4
    obtain ⟨z5, e5, _, hz5⟩ := DataW.trod_int Tryd.underlying23 g5
    simp at e0 e1 e2 e4 e5
    subst e0 e1 e2 e4 e5
    obtain ⟨s, rfl, hs⟩ := sg.u64_nat hz5
    rcases open_strings Tryd.underlying22 Tryd.underlying9 cells9 g3 with ⟨hcs, _⟩ | ⟨x, l, c, zs, hcs, _, hl, hm, hz, _, hcell, hwz⟩
    · simp at hcs
      subst hcs
      exact ⟨z0, z1, z4, z2, s, [], none, 0, 0, rfl, .inl rfl, Nat.zero_le _, fun i hi => by omega, hz0, hz1, hz4, hs⟩
    · simp at hcs
      subst hcs
      simp at hz
      refine ⟨z0, z1, z4, z2, s, zs, some x, l, c, rfl, ?_, by omega, fun i hi => ?_, hz0, hz1, hz4, hs⟩
      · rcases Nat.eq_zero_or_pos l with h | h
        · exact .inl h
        · obtain ⟨b, off, spot⟩ := x
          have hspot : spot = none := by simpa [Addr.add] using World.cell?_spot (hcell 0 (by omega))
          subst hspot
          exact .inr ⟨b, off, rfl, fun i hi => by have := hcell i (by omega); rw [addr_add] at this; simpa [st.atS] using this⟩
      · have hi' : i < zs.length := by omega
        unfold st.atS
        rw [List.getElem?_eq_getElem hi']
        exact hwz _ (List.getElem_mem hi')

end Go.Proofs.YtheponigjofknaaDoor.mt
