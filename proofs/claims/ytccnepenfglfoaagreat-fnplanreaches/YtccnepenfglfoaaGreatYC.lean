import Derived.Test.YtccnepenfglfoaaGreatYA
import Derived.Lib.Hide
namespace Go.Proofs.YtccnepenfglfoaaGreat.ty
open Go.ChangeShapes Go.WideShapes Go.ChangeAt Go.RowKit Go.Deep
set_option linter.unusedVariables false
set_option linter.unusedSimpArgs false

/-! ### Copies of lists that came in -/

theorem makeN {P : Program} (t e : TypeId) (z : Value) (sz bytes : Nat) (ht : P.underlying t = some (.slice e)) (hinfo : (P.info? e).map (fun i => (i.zero, i.size, i.bytes)) = some (some z, sz, bytes))
    (kl kc : IntKind) (n : Nat) (hbytes : bytes * n ≤ 281474976710656) (h63 : n ≤ 9223372036854775807) (w : World) :
    (Instr.makeSlice t (.int kl (n : Int)) (.int kc (n : Int))).run P w = .ok (.slice (some ⟨w.heap.size, 0, none⟩) n n) (w.alloc (.cells (madeCells z.cells (n * sz)) e)) := by
  obtain ⟨i, hi, hzz⟩ := Option.map_eq_some_iff.1 hinfo
  simp only [Prod.mk.injEq] at hzz
  obtain ⟨hz, hs, hb⟩ := hzz
  have hb' : (i.bytes : Int) * (n : Int) ≤ 281474976710656 := by
    have h : ((i.bytes * n : Nat) : Int) ≤ 281474976710656 := by rw [hb]; omega
    rwa [Int.natCast_mul] at h
  have hr := run_make (P := P) w t e i z ht hi hz kl kc n n (by omega) (Int.le_refl _) hb' (by omega)
  simp only [Int.toNat_natCast, hs] at hr
  exact hr

theorem rowIs_madeN (w : World) (z : Array Value) (n sz : Nat) (t : TypeId) (hz : z.size = sz) (hs : 0 < sz) : (w.alloc (.cells (madeCells z (n * sz)) t)).rowIs w.heap.size t (n * sz) (fun j => z[j % sz]!) :=
  ⟨_, blk_alloc_new _ _, size_madeCells _ _, fun i hi => by simp [madeCells, hi, hz]⟩

theorem blk_oth {w : World} {b c i : Nat} {v : Value} (h : c ≠ b) : (w.setCell ⟨b, i, none⟩ v).heap[c]? = w.heap[c]? := by
  simp only [World.setCell]
  rw [Array.getElem?_modify, if_neg (fun e => h e.symm)]

theorem far {w : World} {b c i j : Nat} {v : Value} (h : b ≠ c) : (w.setCell ⟨b, i, none⟩ v).cell? ⟨c, j, none⟩ = w.cell? ⟨c, j, none⟩ := World.cell?_of_block (a := ⟨c, j, none⟩) (blk_oth (fun e => h e.symm))

theorem oth {w : World} {b i j : Nat} {v : Value} (h : i ≠ j) : (w.setCell ⟨b, i, none⟩ v).cell? ⟨b, j, none⟩ = w.cell? ⟨b, j, none⟩ := World.cell?_setCell_other w ⟨b, i, none⟩ ⟨b, j, none⟩ v (by simp [h])

theorem Kep.set {lo b i : Nat} {w w' : World} {v : Value} (h : Kep (some lo) w w') (hb : b < lo) : Kep (some lo) w (w'.setCell ⟨b, i, none⟩ v) := fun j hj hs => by
  have := hj lo rfl
  rw [blk_oth (by omega)]
  exact h j hj hs

theorem Kep.refl (md : Option Nat) (w : World) : Kep md w w := fun _ _ _ => rfl
theorem Kep.trans {md : Option Nat} {a b c : World} (h : Kep md a b) (h2 : Kep md b c) (hs : a.heap.size ≤ b.heap.size) : Kep md a c := fun j hj hl => (h2 j hj (by omega)).trans (h j hj hl)

theorem Okb.row {lo b : Nat} {w : World} {t : TypeId} {n : Nat} {f : Nat → Value} (hl : lo ≤ b) (h : w.rowIs b t n f) : Okb (some lo) w b := fun q hq => by
  cases hq
  obtain ⟨c, h1, _⟩ := h
  exact ⟨hl, c, t, h1⟩

theorem infoS : (Tryz.prog.info? 9).map (fun i => (i.zero, i.size, i.bytes)) = some (some (.string ⟨#[]⟩), 1, 16) := by kernel_rfl

theorem stored5o {W : World} {b o : Nat} {u0 u1 u2 u3 u4 v0 v1 v2 v3 v4 : Value} (h0 : W.cell? ⟨b, o, none⟩ = some u0) (h1 : W.cell? ⟨b, o + 1, none⟩ = some u1) (h2 : W.cell? ⟨b, o + 2, none⟩ = some u2) (h3 : W.cell? ⟨b, o + 3, none⟩ = some u3) (h4 : W.cell? ⟨b, o + 4, none⟩ = some u4) :
    (((((W.setCell ⟨b, o, none⟩ v0).setCell ⟨b, o + 1, none⟩ v1).setCell ⟨b, o + 2, none⟩ v2).setCell ⟨b, o + 3, none⟩ v3).setCell ⟨b, o + 4, none⟩ v4).cell? ⟨b, o, none⟩ = some v0 ∧ (((((W.setCell ⟨b, o, none⟩ v0).setCell ⟨b, o + 1, none⟩ v1).setCell ⟨b, o + 2, none⟩ v2).setCell ⟨b, o + 3, none⟩ v3).setCell ⟨b, o + 4, none⟩ v4).cell? ⟨b, o + 1, none⟩ = some v1 ∧ (((((W.setCell ⟨b, o, none⟩ v0).setCell ⟨b, o + 1, none⟩ v1).setCell ⟨b, o + 2, none⟩ v2).setCell ⟨b, o + 3, none⟩ v3).setCell ⟨b, o + 4, none⟩ v4).cell? ⟨b, o + 2, none⟩ = some v2 ∧ (((((W.setCell ⟨b, o, none⟩ v0).setCell ⟨b, o + 1, none⟩ v1).setCell ⟨b, o + 2, none⟩ v2).setCell ⟨b, o + 3, none⟩ v3).setCell ⟨b, o + 4, none⟩ v4).cell? ⟨b, o + 3, none⟩ = some v3 ∧ (((((W.setCell ⟨b, o, none⟩ v0).setCell ⟨b, o + 1, none⟩ v1).setCell ⟨b, o + 2, none⟩ v2).setCell ⟨b, o + 3, none⟩ v3).setCell ⟨b, o + 4, none⟩ v4).cell? ⟨b, o + 4, none⟩ = some v4 :=
  ⟨(oth (by omega)).trans ((oth (by omega)).trans ((oth (by omega)).trans ((oth (by omega)).trans (World.cell?_setCell_same _ _ _ (h0))))), (oth (by omega)).trans ((oth (by omega)).trans ((oth (by omega)).trans (World.cell?_setCell_same _ _ _ ((oth (by omega)).trans (h1))))), (oth (by omega)).trans ((oth (by omega)).trans (World.cell?_setCell_same _ _ _ ((oth (by omega)).trans ((oth (by omega)).trans (h2))))), (oth (by omega)).trans (World.cell?_setCell_same _ _ _ ((oth (by omega)).trans ((oth (by omega)).trans ((oth (by omega)).trans (h3))))), World.cell?_setCell_same _ _ _ ((oth (by omega)).trans ((oth (by omega)).trans ((oth (by omega)).trans ((oth (by omega)).trans (h4)))))⟩

theorem stored2o {W : World} {b o : Nat} {u0 u1 v0 v1 : Value} (h0 : W.cell? ⟨b, o, none⟩ = some u0) (h1 : W.cell? ⟨b, o + 1, none⟩ = some u1) :
    ((W.setCell ⟨b, o, none⟩ v0).setCell ⟨b, o + 1, none⟩ v1).cell? ⟨b, o, none⟩ = some v0 ∧ ((W.setCell ⟨b, o, none⟩ v0).setCell ⟨b, o + 1, none⟩ v1).cell? ⟨b, o + 1, none⟩ = some v1 :=
  ⟨(oth (by omega)).trans (World.cell?_setCell_same _ _ _ (h0)), World.cell?_setCell_same _ _ _ ((oth (by omega)).trans (h1))⟩

theorem infoUn : (Tryz.prog.info? 53).map (fun i => (i.zero, i.size, i.bytes)) = some (some (.agg #[.string ⟨#[]⟩, .slice none 0 0, .slice none 0 0, .string ⟨#[]⟩, .bool false]), 5, 88) := by kernel_rfl

/-- Cells stored one behind the other are there. -/
theorem stored5 {W : World} {b : Nat} {u0 u1 u2 u3 u4 v0 v1 v2 v3 v4 : Value} (h0 : W.cell? ⟨b, 0, none⟩ = some u0) (h1 : W.cell? ⟨b, 1, none⟩ = some u1) (h2 : W.cell? ⟨b, 2, none⟩ = some u2) (h3 : W.cell? ⟨b, 3, none⟩ = some u3) (h4 : W.cell? ⟨b, 4, none⟩ = some u4) :
    (((((W.setCell ⟨b, 0, none⟩ v0).setCell ⟨b, 1, none⟩ v1).setCell ⟨b, 2, none⟩ v2).setCell ⟨b, 3, none⟩ v3).setCell ⟨b, 4, none⟩ v4).cell? ⟨b, 0, none⟩ = some v0 ∧ (((((W.setCell ⟨b, 0, none⟩ v0).setCell ⟨b, 1, none⟩ v1).setCell ⟨b, 2, none⟩ v2).setCell ⟨b, 3, none⟩ v3).setCell ⟨b, 4, none⟩ v4).cell? ⟨b, 1, none⟩ = some v1 ∧ (((((W.setCell ⟨b, 0, none⟩ v0).setCell ⟨b, 1, none⟩ v1).setCell ⟨b, 2, none⟩ v2).setCell ⟨b, 3, none⟩ v3).setCell ⟨b, 4, none⟩ v4).cell? ⟨b, 2, none⟩ = some v2 ∧ (((((W.setCell ⟨b, 0, none⟩ v0).setCell ⟨b, 1, none⟩ v1).setCell ⟨b, 2, none⟩ v2).setCell ⟨b, 3, none⟩ v3).setCell ⟨b, 4, none⟩ v4).cell? ⟨b, 3, none⟩ = some v3 ∧ (((((W.setCell ⟨b, 0, none⟩ v0).setCell ⟨b, 1, none⟩ v1).setCell ⟨b, 2, none⟩ v2).setCell ⟨b, 3, none⟩ v3).setCell ⟨b, 4, none⟩ v4).cell? ⟨b, 4, none⟩ = some v4 :=
  ⟨(oth (by omega)).trans ((oth (by omega)).trans ((oth (by omega)).trans ((oth (by omega)).trans (World.cell?_setCell_same _ _ _ (h0))))), (oth (by omega)).trans ((oth (by omega)).trans ((oth (by omega)).trans (World.cell?_setCell_same _ _ _ ((oth (by omega)).trans (h1))))), (oth (by omega)).trans ((oth (by omega)).trans (World.cell?_setCell_same _ _ _ ((oth (by omega)).trans ((oth (by omega)).trans (h2))))), (oth (by omega)).trans (World.cell?_setCell_same _ _ _ ((oth (by omega)).trans ((oth (by omega)).trans ((oth (by omega)).trans (h3))))), World.cell?_setCell_same _ _ _ ((oth (by omega)).trans ((oth (by omega)).trans ((oth (by omega)).trans ((oth (by omega)).trans (h4)))))⟩


theorem retUn {fn : Func} {i : Tmp} (hf : fn.results = #[.cell i 53]) {tmps : Array Value} {W : World} {b : Nat} {v0 v1 v2 v3 v4 : Value} {R : Ending → World → Prop} (h4 : tmps.getD i undef = .pointer (some ⟨b, 0, none⟩))
    (k0 : W.cell? ⟨b, 0, none⟩ = some v0) (k1 : W.cell? ⟨b, 1, none⟩ = some v1) (k2 : W.cell? ⟨b, 2, none⟩ = some v2) (k3 : W.cell? ⟨b, 3, none⟩ = some v3) (k4 : W.cell? ⟨b, 4, none⟩ = some v4) (hR : R (.returned (.agg #[v0, v1, v2, v3, v4])) W) :
    bodyPost Tryz.prog fn R Exit.ret { tmps := tmps, defers := [] } W := by
  have h4' : tmps[i]?.getD undef = .pointer (some ⟨b, 0, none⟩) := by simpa using h4
  exact bodyPost_ret (v := .agg #[v0, v1, v2, v3, v4]) (by simp [results, hf, go_sem, h4', k0, k1, k2, k3, k4]) rfl hR

theorem infoAc : (Tryz.prog.info? 38).map (fun i => (i.zero, i.size, i.bytes)) = some (some (.agg #[.int .i64 0, .string ⟨#[]⟩]), 2, 24) := by kernel_rfl

/-- Cells stored one behind the other are there. -/
theorem stored2 {W : World} {b : Nat} {u0 u1 v0 v1 : Value} (h0 : W.cell? ⟨b, 0, none⟩ = some u0) (h1 : W.cell? ⟨b, 1, none⟩ = some u1) :
    ((W.setCell ⟨b, 0, none⟩ v0).setCell ⟨b, 1, none⟩ v1).cell? ⟨b, 0, none⟩ = some v0 ∧ ((W.setCell ⟨b, 0, none⟩ v0).setCell ⟨b, 1, none⟩ v1).cell? ⟨b, 1, none⟩ = some v1 :=
  ⟨(oth (by omega)).trans (World.cell?_setCell_same _ _ _ (h0)), World.cell?_setCell_same _ _ _ ((oth (by omega)).trans (h1))⟩


theorem retAc {fn : Func} {i : Tmp} (hf : fn.results = #[.cell i 38]) {tmps : Array Value} {W : World} {b : Nat} {v0 v1 : Value} {R : Ending → World → Prop} (h4 : tmps.getD i undef = .pointer (some ⟨b, 0, none⟩))
    (k0 : W.cell? ⟨b, 0, none⟩ = some v0) (k1 : W.cell? ⟨b, 1, none⟩ = some v1) (hR : R (.returned (.agg #[v0, v1])) W) :
    bodyPost Tryz.prog fn R Exit.ret { tmps := tmps, defers := [] } W := by
  have h4' : tmps[i]?.getD undef = .pointer (some ⟨b, 0, none⟩) := by simpa using h4
  exact bodyPost_ret (v := .agg #[v0, v1]) (by simp [results, hf, go_sem, h4', k0, k1]) rfl hR

end Go.Proofs.YtccnepenfglfoaaGreat.ty
