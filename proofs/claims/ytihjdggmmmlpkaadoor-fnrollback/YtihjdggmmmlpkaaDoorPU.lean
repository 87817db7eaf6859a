import Derived.Test.YtihjdggmmmlpkaaDoorPT
namespace Go.Proofs.YtihjdggmmmlpkaaDoor.pf
open Go.ChangeShapes Go.WideShapes Go.ChangeAt Go.RowKit Go.Deep Go.Maps
set_option linter.unusedVariables false
set_option linter.unusedSimpArgs false

/-! ### Profiles: what switchTo leaves behind -/

theorem sw_fin {lo hi b i g4 c4 m : Nat} {gs : Nat → Nat} {ps : List Pr} {x : Pr} {w w1 w3 w4 : World} {V : Int} {pa : ByteArray} {ob : Obj} (ho : OwP lo hi w b gs ps) (hx : ps[i]? = some x) (hm : x.gens.length = m) (hl1 : Below w.heap.size w w1)
    (hl3 : Below (w1.setCell ⟨b, i * 3 + 1, none⟩ (.int .i64 V)).drew.heap.size (w1.setCell ⟨b, i * 3 + 1, none⟩ (.int .i64 V)).drew w3)
    (hown : w4.ownsRow (w3.alloc ob).heap.size 59 2 (.slice (some ⟨g4, 0, none⟩) (m + 1) c4) (m + 1) (gnC x.gens ++ [.int .i64 V, .string pa])) (hg4 : (w3.alloc ob).grownBy w4 none) :
    (∃ gs', OwP lo (w4.setCell ⟨b, i * 3 + 2, none⟩ (.slice (some ⟨g4, 0, none⟩) (m + 1) c4)).heap.size (w4.setCell ⟨b, i * 3 + 2, none⟩ (.slice (some ⟨g4, 0, none⟩) (m + 1) c4)) b gs' (ps.set i ⟨x.name, V, x.gens ++ [⟨V, pa⟩]⟩)) ∧ Mid lo hi w (w4.setCell ⟨b, i * 3 + 2, none⟩ (.slice (some ⟨g4, 0, none⟩) (m + 1) c4)) := by
  obtain ⟨X0, hX0⟩ : ∃ X0, X0 = w1.setCell ⟨b, i * 3 + 1, none⟩ (.int .i64 V) := ⟨_, rfl⟩
  rw [← hX0] at hl3
  have hs0 : X0.heap.size = w1.heap.size := by rw [hX0]; simp
  have hsd : X0.drew.heap.size = X0.heap.size := rfl
  have h1 := hl1.size
  have h3 := hl3.size
  have h4 := hg4.size
  rw [World.size_alloc] at h4
  have hbw := ho.blk_lt
  have hhi := ho.hi_le
  have hk4 : ∀ j, j < X0.heap.size → w4.heap[j]? = X0.heap[j]? := fun j hj => (hg4.block j (by rw [World.size_alloc]; omega) (by simp)).trans ((blk_alloc_lt _ _ _ (by omega)).trans (hl3.block j (by omega)))
  have hb4 : w4.heap[b]? = X0.heap[b]? := hk4 b (by omega)
  have hall : ∀ j, j < w.heap.size → j ≠ b → (w4.setCell ⟨b, i * 3 + 2, none⟩ (.slice (some ⟨g4, 0, none⟩) (m + 1) c4)).heap[j]? = w.heap[j]? := fun j hj hjb => by
    rw [blk_oth hjb, hk4 j (by omega), hX0, blk_oth hjb]
    exact hl1.block j hj
  have hc4 : ∀ o, w4.cell? ⟨b, o, none⟩ = X0.cell? ⟨b, o, none⟩ := fun o => World.cell?_of_block (a := ⟨b, o, none⟩) hb4
  have hcw : ∀ o, o ≠ i * 3 + 1 → X0.cell? ⟨b, o, none⟩ = w.cell? ⟨b, o, none⟩ := fun o h => by
    rw [hX0, oth (Ne.symm h)]
    exact hl1.cell (p := ⟨b, o, none⟩) hbw
  obtain ⟨c0, e0, e1, e2, e3, e4⟩ := ho.ent i x hx
  obtain ⟨k1, k2, k3, k4⟩ := own_cells hown
  rw [World.size_alloc] at k3
  have hg : OwG w4 g4 (x.gens ++ [⟨V, pa⟩]) := own_owG (n := m + 1) (by rw [gnC_app]; exact hown) (by rw [List.length_append, hm]; rfl)
  have hgb : g4 ≠ b := by omega
  have hg4l : g4 < w4.heap.size := hg.lt
  obtain ⟨N, f, hN, hr⟩ := (ho.below hl1).row
  have r0 := hr.set (i * 3 + 1) (.int .i64 V)
  rw [← hX0] at r0
  have r2 := (r0.of_block hb4).set (i * 3 + 2) (.slice (some ⟨g4, 0, none⟩) (m + 1) c4)
  have hsz : (w4.setCell ⟨b, i * 3 + 2, none⟩ (.slice (some ⟨g4, 0, none⟩) (m + 1) c4)).heap.size = w4.heap.size := by simp
  refine ⟨⟨_, OwP.upd (g' := g4) (c' := c4) ho hx (by rw [hsz]; omega) (Nat.le_refl _) (fun j _ hj hjb _ => hall j (by omega) hjb) ⟨N, _, hN, r2⟩ (fun o ho3 => ?_) ?_ ?_ ?_ ?_ ?_ ?_ ?_ ?_⟩, ?_⟩
  · rw [oth (by omega), hc4, hcw o (by omega)]
  · rw [oth (by omega), hc4, hcw _ (by omega)]; exact e1
  · rw [oth (by omega), hc4, hX0]
    exact World.cell?_setCell_same _ _ _ ((hl1.cell (p := ⟨b, i * 3 + 1, none⟩) hbw).trans e2)
  · rw [List.length_append, hm]
    exact World.cell?_setCell_same _ _ _ ((hc4 _).trans ((hcw _ (by omega)).trans e3))
  · rw [List.length_append, hm]; exact (own_gc hown rfl).kept (blk_oth hgb)
  · exact hg.kept (blk_oth hgb)
  · have := ho.blo; omega
  · rw [hsz]; exact hg4l
  · intro j hj _ e
    have := (ho.rng j hj).2.1
    omega
  · exact ⟨hg4.os.trans ((show (w3.alloc ob).os = X0.drew.os from hl3.os).trans (by rw [hX0]; exact hl1.os)), hg4.tape.trans ((show (w3.alloc ob).tape = X0.drew.tape from hl3.tape).trans (by rw [hX0]; exact hl1.tape)), hg4.output.trans ((show (w3.alloc ob).output = X0.drew.output from hl3.output).trans (by rw [hX0]; exact hl1.output)), by rw [hsz]; omega, fun k hk hl => hall k hk (fun e => by have := ho.blo; have := ho.bhi; omega)⟩

end Go.Proofs.YtihjdggmmmlpkaaDoor.pf
