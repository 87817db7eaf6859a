import Derived.Test.YtheponigjofknaaDoorSS
import Derived.Test.YtheponigjofknaaDoorSL
namespace Go.Proofs.YtheponigjofknaaDoor.sg
open Go.ChangeShapes Go.WideShapes Go.ChangeAt Go.RowKit Go.Deep
set_option linter.unusedVariables false

theorem ret_cell3 {fn : Func} {i : Tmp} (hf : fn.results = #[.cell i 35]) {tmps : Array Value} {W : World} {b : Nat} {v0 v1 v2 : Value} {R : Ending → World → Prop} (h4 : tmps.getD i undef = .pointer (some ⟨b, 0, none⟩))
    (k : W.cell? ⟨b, 0, none⟩ = some v0 ∧ W.cell? ⟨b, 1, none⟩ = some v1 ∧ W.cell? ⟨b, 2, none⟩ = some v2) (hR : R (.returned (.agg #[v0, v1, v2])) W) :
    bodyPost Tryd.prog fn R Exit.ret { tmps := tmps, defers := [] } W := by
  obtain ⟨k0, k1, k2⟩ := k
  have h4' : tmps[i]?.getD undef = .pointer (some ⟨b, 0, none⟩) := by simpa using h4
  exact bodyPost_ret (v := .agg #[v0, v1, v2]) (by simp [results, hf, go_sem, h4', k0, k1, k2]) rfl hR

theorem mid3 (w : World) (o o' : Obj) (a b c : Value) (t : TypeId) : (((w.alloc o).alloc (.cells #[a, b, c] t)).alloc o').cell? ⟨w.heap.size + 1, 0, none⟩ = some a ∧ (((w.alloc o).alloc (.cells #[a, b, c] t)).alloc o').cell? ⟨w.heap.size + 1, 1, none⟩ = some b ∧ (((w.alloc o).alloc (.cells #[a, b, c] t)).alloc o').cell? ⟨w.heap.size + 1, 2, none⟩ = some c := by
  obtain ⟨W, hW⟩ : ∃ W : World, W = (w.alloc o).alloc (.cells #[a, b, c] t) := ⟨_, rfl⟩
  have hB : Below W.heap.size W (W.alloc o') := (Below.refl _ _).alloc (Nat.le_refl _) _
  have hl : w.heap.size + 1 < W.heap.size := by rw [hW]; simp
  rw [← hW]
  refine ⟨((bcell hB).1 _ 0 hl).trans ?_, ((bcell hB).1 _ 1 hl).trans ?_, ((bcell hB).1 _ 2 hl).trans ?_⟩
  all_goals
    rw [hW, show w.heap.size + 1 = (w.alloc o).heap.size by simp]
    simp only [World.cell?_alloc_new]
    rfl

theorem toKey_any (x y z : Nat) (w : World) :
    Calls Tryd.prog 12 #[.agg #[.int .u64 (x : Int), .int .u64 (y : Int), .int .u64 (z : Int)]] w fun e w' => e = .returned (.agg #[.int .u64 (x : Int), .int .u64 (y : Int), .int .u64 (z : Int)]) ∧ Below w.heap.size w w' := by
  go_enter Tryd.func12, Tryd.ntmps12
  go_wp2
  exact ret_cell3 Tryd.results12 (b := w.heap.size + 1) rfl (mid3 _ _ _ _ _ _ _) ⟨rfl, (((Below.refl _ _).alloc (Nat.le_refl _) _).alloc (by simp) _).alloc (by simp; omega) _⟩

theorem cells22 : Tryd.prog.cellsOf 23 = 1 := by kernel_rfl
theorem cellsK : Tryd.prog.cellsOf 33 = 3 := by kernel_rfl

set_option maxRecDepth 100000 in
theorem key_cells {H : Type} {enc : TypeId × Value → H} {w : World} {base : Nat} {sp : Nat → Bool} {held : Bool} {fuel : Nat} {cs : List Value} {x : DataW H × List MemPlace}
    (h : DataW.trod enc Tryd.prog w base sp held fuel 33 cs = some x) : ∃ a b c : Nat, cs = [.int .u64 (a : Int), .int .u64 (b : Int), .int .u64 (c : Int)] ∧ a < 18446744073709551616 ∧ c < 18446744073709551616 := by
  obtain ⟨xs, n, _, rfl, hl, hlen, hf⟩ := DataW.trod_struct Tryd.underlying33 h
  rw [cellsK] at hl
  match xs, hlen, cs, hl with
  | [y0, y1, y2], _, [c0, c1, c2], _ =>
    have g0 := hf 0 _ rfl
    have g1 := hf 1 _ rfl
    have g2 := hf 2 _ rfl
    simp [cells22] at g0 g1 g2
    obtain ⟨z0, e0, _, hz0⟩ := DataW.trod_int Tryd.underlying23 g0
    obtain ⟨z1, e1, _, hz1⟩ := DataW.trod_int Tryd.underlying23 g1
    obtain ⟨z2, e2, _, hz2⟩ := DataW.trod_int Tryd.underlying23 g2
    simp at e0 e1 e2
    subst e0 e1 e2
    obtain ⟨a, rfl, ha⟩ := u64_nat hz0
    obtain ⟨b, rfl, hb⟩ := u64_nat hz1
    obtain ⟨c, rfl, hc⟩ := u64_nat hz2
    exact ⟨a, b, c, rfl, ha, hc⟩

end Go.Proofs.YtheponigjofknaaDoor.sg
