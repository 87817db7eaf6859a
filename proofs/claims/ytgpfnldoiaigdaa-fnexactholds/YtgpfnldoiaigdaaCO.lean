import Derived.Test.YtgpfnldoiaigdaaCN
import Derived.LaidLaws
import Derived.ChangeArms
import Derived.ChangeSame
import Derived.Deep.Slices
namespace Go.Proofs.Ytgpfnldoiaigdaa.cd
open Go.ChangeShapes Go.WideShapes Go.ChangeAt Go.RowKit Go.Deep
set_option linter.unusedVariables false
set_option linter.unusedSimpArgs false

theorem cells2 : Try.prog.cellsOf 2 = 1 := by kernel_rfl
theorem cells9 : Try.prog.cellsOf 9 = 1 := by kernel_rfl
theorem cellsL : Try.prog.cellsOf 35 = 3 := by kernel_rfl

/-! ### A list of nodes that came in -/

set_option maxRecDepth 100000 in
theorem node_cells {H : Type} {enc : TypeId × Value → H} {w : World} {base : Nat} {sp : Nat → Bool} {held : Bool} {fuel : Nat} {cs : List Value} {x : DataW H × List MemPlace}
    (h : DataW.trod enc Try.prog w base sp held fuel 35 cs = some x) : ∃ e : Cn, cs = [.int .i64 e.kind, .string e.name, .int .i64 e.size] ∧ e.name.size ≤ maxLen := by
  obtain ⟨xs, n, _, rfl, hl, hlen, hf⟩ := DataW.trod_struct Try.underlying35 h
  rw [cellsL] at hl
  match xs, hlen, cs, hl with
  | [y0, y1, y2], _, [c0, c1, c2], _ =>
    have g0 := hf 0 _ rfl
    have g1 := hf 1 _ rfl
    have g2 := hf 2 _ rfl
    simp [cells2, cells9] at g0 g1 g2
    obtain ⟨z0, e0, _, _⟩ := DataW.trod_int Try.underlying2 g0
    obtain ⟨z1, e1, _, hz⟩ := DataW.trod_string Try.underlying9 g1
    obtain ⟨z2, e2, _, _⟩ := DataW.trod_int Try.underlying2 g2
    simp at e0 e1 e2
    subst e0 e1 e2
    exact ⟨⟨z0, z1, z2⟩, rfl, hz⟩

instance : Inhabited Cn := ⟨⟨0, ⟨#[]⟩, 0⟩⟩

theorem open_conds {H : Type} {enc : TypeId × Value → H} {w : World} {base : Nat} {sp : Nat → Bool} {held : Bool} {fuel : Nat} {a : Option Addr} {len cap : Nat} {x : DataW H × List MemPlace}
    (h : DataW.trod enc Try.prog w base sp held fuel 22 [.slice a len cap] = some x) : ∃ E : Nat → Cn, SrcB w a len E ∧ len ≤ maxLen ∧ ∀ i, i < len → (E i).name.size ≤ maxLen := by
  rcases open_slice Try.underlying22 h with ⟨h0, _⟩ | ⟨a', len', cap', m, n, D, Pl, hcs, hb, hl, hm, hmm, _, hx⟩
  · simp at h0
    obtain ⟨rfl, rfl, rfl⟩ := h0
    exact ⟨fun _ => ⟨0, ⟨#[]⟩, 0⟩, .inl rfl, Nat.zero_le _, fun i hi => by omega⟩
  · simp at hcs
    obtain ⟨rfl, rfl, rfl⟩ := hcs
    have hlm : len ≤ m := by rw [hmm]; split <;> omega
    have each : ∀ i, i < len → ∃ e : Cn, (w.cell? (a'.add (i * 3)) = some (.int .i64 e.kind) ∧ w.cell? (a'.add (i * 3 + 1)) = some (.string e.name) ∧ w.cell? (a'.add (i * 3 + 2)) = some (.int .i64 e.size)) ∧ e.name.size ≤ maxLen := by
      intro i hi
      obtain ⟨cs', h1, h2⟩ := hx i (by omega)
      rw [cellsL] at h1
      obtain ⟨_, hlen, hcell⟩ := World.cells?_some h1
      obtain ⟨e, rfl, ht⟩ := node_cells h2
      have e0 := hcell 0 (by omega)
      have e1 := hcell 1 (by omega)
      have e2 := hcell 2 (by omega)
      rw [add_add] at e0 e1 e2
      exact ⟨e, ⟨by simpa using e0, by simpa using e1, by simpa using e2⟩, ht⟩
    obtain ⟨q, hq⟩ := choose_lt each
    refine ⟨q, ?_, by omega, fun i hi => (hq i hi).2⟩
    rcases Nat.eq_zero_or_pos len with h0 | h0
    · exact .inl h0
    · obtain ⟨bb, off, spot⟩ := a'
      have hspot : spot = none := by simpa [Addr.add] using World.cell?_spot (hq 0 h0).1.1
      subst hspot
      refine .inr ⟨bb, off, rfl, fun i hi => ?_⟩
      obtain ⟨⟨k0, k1, k2⟩, _⟩ := hq i hi
      rw [addr_add] at k0 k1 k2
      exact ⟨k0, k1, k2⟩

end Go.Proofs.Ytgpfnldoiaigdaa.cd
