import Derived.Test.YtccnepenfglfoaaGreatAW
import Derived.Test.YtccnepenfglfoaaGreatFE
namespace Go.Proofs.YtccnepenfglfoaaGreat.fw
open Go.ChangeShapes Go.WideShapes Go.ChangeAt Go.RowKit Go.Deep Go.Maps
open fa (Us uNo nds aw aws aw_mem aw_len aw_le BhV Wb WbR)
set_option linter.unusedVariables false
set_option linter.unusedSimpArgs false

/-! ### The web of what is waited for -/

structure Ua (us : List ty.Un) : Prop extends Us us where
  aft : ∀ u ∈ us, u.fAfter.length ≤ 20
theorem ua_of {us : List ty.Un} (h : un.usB us = true) : Ua us := by
  refine ⟨fa.us_of h, fun u hu => ?_⟩
  unfold un.usB at h
  simp only [Bool.and_eq_true, decide_eq_true_eq, List.all_eq_true] at h
  have := h.2.2 u hu
  unfold un.unB at this
  simp only [Bool.and_eq_true, decide_eq_true_eq] at this
  exact this.2.2.1
theorem Ua.len {us : List ty.Un} (h : Ua us) (u : ty.Un) (hu : u ∈ us) : (aw us u).length ≤ 40 := by
  rw [aw_len, ← fa.awK_all]
  have := fa.awK_len us u u.fAfter.length
  have := h.aft u hu
  have := h.nds u hu
  omega
def ndA (us : List ty.Un) (y : Nat) : List Nat := (us[y]?.map (aw us)).getD []
theorem ndA_some {us : List ty.Un} {y : Nat} {u : ty.Un} (h : us[y]? = some u) : ndA us y = aw us u := by unfold ndA; rw [h]; rfl
def bhL (us : List ty.Un) (i x : Nat) : List Nat := (List.range i).flatMap fun y => ((ndA us y).filter fun z => decide (z = x)).map fun _ => y
def bhK (us : List ty.Un) (i : Nat) (l : List Nat) (j x : Nat) : List Nat := bhL us i x ++ ((l.take j).filter fun z => decide (z = x)).map fun _ => i
theorem bhL_zero (us : List ty.Un) (x : Nat) : bhL us 0 x = [] := by simp [bhL]
theorem bhK_zero (us : List ty.Un) (i : Nat) (l : List Nat) (x : Nat) : bhK us i l 0 x = bhL us i x := by simp [bhK]
theorem bhK_all {us : List ty.Un} {i : Nat} {u : ty.Un} (h : us[i]? = some u) (x : Nat) : bhK us i (aw us u) (aw us u).length x = bhL us (i + 1) x := by
  unfold bhK
  rw [List.take_length]
  unfold bhL
  rw [List.range_succ, List.flatMap_append, List.flatMap_singleton, ndA_some h]
theorem bhK_step {us : List ty.Un} {i j x : Nat} {l : List Nat} (h : l[j]? = some x) (z : Nat) : (if z = x then bhK us i l j x ++ [i] else bhK us i l j z) = bhK us i l (j + 1) z := by
  unfold bhK
  rw [List.take_add_one, h, Option.toList_some, List.filter_append, List.map_append]
  by_cases e : z = x
  · subst e
    rw [if_pos rfl, List.filter_cons_of_pos (by simp)]
    simp
  · rw [if_neg e, List.filter_cons_of_neg (by simpa using Ne.symm e)]
    simp
theorem bhL_len {us : List ty.Un} (hU : Ua us) (x : Nat) : ∀ i, (bhL us i x).length ≤ 40 * i
  | 0 => by rw [bhL_zero]; simp
  | i + 1 => by
    have h1 := bhL_len hU x i
    have h2 : ((ndA us i).filter fun z => decide (z = x)).length ≤ 40 := by
      refine Nat.le_trans (List.length_filter_le _ _) ?_
      cases hu : us[i]? with
      | none => unfold ndA; rw [hu]; simp
      | some u => rw [ndA_some hu]; exact hU.len u (List.mem_of_getElem? hu)
    have e : bhL us (i + 1) x = bhL us i x ++ ((ndA us i).filter fun z => decide (z = x)).map fun _ => i := by
      unfold bhL
      rw [List.range_succ, List.flatMap_append, List.flatMap_singleton]
    rw [e, List.length_append, List.length_map]
    omega
theorem bhK_len {us : List ty.Un} (hU : Ua us) {i j x : Nat} {l : List Nat} (hl : l.length ≤ 40) : (bhK us i l j x).length ≤ 40 * i + 40 := by
  have h1 := bhL_len hU x i
  have h2 : ((l.take j).filter fun z => decide (z = x)).length ≤ 40 := by
    refine Nat.le_trans (List.length_filter_le _ _) ?_
    rw [List.length_take]
    omega
  unfold bhK
  rw [List.length_append, List.length_map]
  omega
theorem bhL_mem (us : List ty.Un) (x y : Nat) : y ∈ bhL us us.length x ↔ ∃ u, us[y]? = some u ∧ x ∈ aw us u := by
  unfold bhL
  simp only [List.mem_flatMap, List.mem_range, List.mem_map, List.mem_filter, decide_eq_true_eq]
  constructor
  · rintro ⟨z, hz, q, ⟨hq, rfl⟩, rfl⟩
    refine ⟨us[z], List.getElem?_eq_getElem hz, ?_⟩
    rwa [ndA_some (List.getElem?_eq_getElem hz)] at hq
  · rintro ⟨u, hu, hx⟩
    exact ⟨y, (List.getElem?_eq_some_iff.1 hu).1, x, ⟨by rw [ndA_some hu]; exact hx, rfl⟩, rfl⟩

/-- What stands ahead of each unit, in rows of their own. -/
def Ah (us : List ty.Un) (i Bs A n : Nat) (V : Nat → Value) (w : World) : Prop := ∀ (k : Nat) (u : ty.Un), k < i → us[k]? = some u → ∃ g o cap, w.cell? ⟨A, k, none⟩ = some (.slice (some ⟨g, o, none⟩) (aw us u).length cap) ∧ fi.Ib Bs w g o cap (aw us u) ∧ ∀ j, j < n + 1 → (V j).ownBlock ≠ some g
theorem Ah.zero (us : List ty.Un) (Bs A n : Nat) (V : Nat → Value) (w : World) : Ah us 0 Bs A n V w := fun k u hk => absurd hk (Nat.not_lt_zero k)
theorem Ah.kept {us : List ty.Un} {i Bs A n : Nat} {V V' : Nat → Value} {w w' : World} (h : Ah us i Bs A n V w) (hs : w.heap.size ≤ w'.heap.size) (hA : w'.heap[A]? = w.heap[A]?) (hg : ∀ g, Bs ≤ g → g < w.heap.size → (∀ j, j < n + 1 → (V j).ownBlock ≠ some g) → w'.heap[g]? = w.heap[g]? ∧ ∀ j, j < n + 1 → (V' j).ownBlock ≠ some g) : Ah us i Bs A n V' w' := fun k u hk hu => by
  obtain ⟨g, o, cap, h1, h2, h3⟩ := h k u hk hu
  obtain ⟨h4, h5⟩ := hg g h2.new h2.lt h3
  exact ⟨g, o, cap, (World.cell?_of_block (a := ⟨A, k, none⟩) hA).trans h1, h2.kept hs h4, h5⟩
theorem Ah.below {us : List ty.Un} {i Bs A n : Nat} {V : Nat → Value} {w w' : World} (h : Ah us i Bs A n V w) (hA : A < w.heap.size) (hb : Below w.heap.size w w') : Ah us i Bs A n V w' := h.kept hb.size (hb.block A hA) fun g _ hl hn => ⟨hb.block g hl, hn⟩
theorem Ah.add {us : List ty.Un} {i Bs A n g o cap : Nat} {V : Nat → Value} {w : World} {u : ty.Un} (h : Ah us i Bs A n V w) (hu : us[i]? = some u) (hA : A < Bs) (hc : (w.setCell ⟨A, i, none⟩ (.slice (some ⟨g, o, none⟩) (aw us u).length cap)).cell? ⟨A, i, none⟩ = some (.slice (some ⟨g, o, none⟩) (aw us u).length cap)) (hi : fi.Ib Bs (w.setCell ⟨A, i, none⟩ (.slice (some ⟨g, o, none⟩) (aw us u).length cap)) g o cap (aw us u)) (hn : ∀ j, j < n + 1 → (V j).ownBlock ≠ some g) : Ah us (i + 1) Bs A n V (w.setCell ⟨A, i, none⟩ (.slice (some ⟨g, o, none⟩) (aw us u).length cap)) := fun k x hk hx => by
  rcases Nat.lt_or_ge k i with hki | hki
  · obtain ⟨g', o', cap', h1, h2, h3⟩ := h k x hki hx
    exact ⟨g', o', cap', (World.cell?_setCell_other w ⟨A, i, none⟩ ⟨A, k, none⟩ _ (fun e => by cases e; omega)).trans h1, h2.kept (by simp) (ty.blk_oth (by have := h2.new; omega)), h3⟩
  · obtain rfl : k = i := by omega
    rw [hu] at hx
    cases hx
    exact ⟨g, o, cap, hc, hi, hn⟩

end Go.Proofs.YtccnepenfglfoaaGreat.fw
