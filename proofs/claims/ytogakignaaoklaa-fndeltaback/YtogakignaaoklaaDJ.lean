import Derived.Test.YtogakignaaoklaaDI
import Derived.Test.YtogakignaaoklaaUG
namespace Go.Proofs.Ytogakignaaoklaa.dl
open Go.ChangeShapes Go.WideShapes Go.ChangeAt Go.RowKit Go.Deep
open bf (Bf Ap num)
open up (Sr SnR StR read_any rtext_any)
set_option linter.unusedVariables false
set_option linter.unusedSimpArgs false
variable {C : Nat}

/-! ### spec.ReadDelta -/

theorem same_any (g z c b N c' : Nat) (l1 l2 : List UInt8) (w : World) (h1 : up.By w g l1) (h2 : up.By w b l2) (hz : z = l1.length) (hN : N = l2.length) :
    Calls Try.prog 28 #[.slice (some ⟨g, 0, none⟩) z c, .slice (some ⟨b, 0, none⟩) N c'] w fun e w' => e = .returned (.bool (decide (l1 = l2))) ∧ w' = w := by
  have hc : ∀ (k cc : Nat) (m : List UInt8), up.By w k m → (convert 22 9 (.slice (some ⟨k, 0, none⟩) m.length cc)).run Try.prog w = .ok (.string ⟨m.toArray⟩) w := fun k cc m hk => by
    have hB : Lib.Bytes w k 0 ⟨m.toArray⟩ := fun i hi => by
      have hi' : i < m.length := by simpa [ByteArray.size] using hi
      rw [Nat.zero_add, hk i hi']
      rfl
    have := Lib.run_convert_whole (P := Try.prog) w 22 5 9 Try.underlying22 Try.underlying5 Try.underlying9 k 0 ⟨m.toArray⟩ hB cc
    simpa [ByteArray.size] using this
  subst hz hN
  have c1 := hc g c l1 h1
  have c2 := hc b c' l2 h2
  have he : ((⟨l1.toArray⟩ : ByteArray).toList == (⟨l2.toArray⟩ : ByteArray).toList) = decide (l1 = l2) := by
    rw [ByteArray.toList_eq, ByteArray.toList_eq, Bool.eq_iff_iff]
    simp
  clear hc
  obtain ⟨z1, hz1⟩ : ∃ z, l1.length = z := ⟨_, rfl⟩
  obtain ⟨z2, hz2⟩ : ∃ z, l2.length = z := ⟨_, rfl⟩
  obtain ⟨s1, hs1⟩ : ∃ s : ByteArray, ⟨l1.toArray⟩ = s := ⟨_, rfl⟩
  obtain ⟨s2, hs2⟩ : ∃ s : ByteArray, ⟨l2.toArray⟩ = s := ⟨_, rfl⟩
  rw [hs1] at c1 he
  rw [hs2] at c2 he
  rw [hz1] at c1 ⊢
  rw [hz2] at c2 ⊢
  obtain ⟨bb, hbb⟩ : ∃ bb, decide (l1 = l2) = bb := ⟨_, rfl⟩
  rw [hbb] at he ⊢
  clear hz1 hz2 hs1 hs2 hbb h1 h2
  go_enter Try.func28, Try.ntmps28
  go_wp2
  go_ret
  first | exact ⟨rfl, rfl⟩ | exact ⟨by rw [he], rfl⟩

theorem RdP.nobad {l : List UInt8} {i : Nat} {X : List Sp} {bad : Bool} (h : RdP l i X) (hi : i < l.length) (hq : ∀ y tail, okS y = true → lowS y = true → l.drop i = enc y ++ tail → bad = false) : ∀ ss, GoodD l ss → bad = false := fun ss hs => by
  obtain ⟨e1, e2⟩ := h.pr ss hs
  have hlt : X.length < ss.length := by
    apply Classical.byContradiction
    intro hn
    have hd : ss.drop X.length = [] := List.drop_eq_nil_of_le (by omega)
    rw [hd] at e2
    have := congrArg List.length e2
    rw [List.length_drop] at this
    unfold encT at this
    simp at this
    omega
  rw [List.drop_eq_getElem_cons hlt] at e2
  have hm := (good_iff.1 hs.1).2 ss[X.length] (List.getElem_mem hlt)
  exact hq ss[X.length] (encT (ss.drop (X.length + 1))) hm.1 hm.2 (by rw [e2]; unfold encT; rw [List.map_cons, List.flatten_cons])

theorem Sr.below {w w' : World} {p b N i : Nat} {bad : Bool} (h : Sr C w p b N i bad) (hb : Below w.heap.size w w') : Sr C w' p b N i bad := by
  have hp : p < w.heap.size := World.block_lt_of_cell? _ _ h.c0
  have e : ∀ j, w'.cell? ⟨p, j, none⟩ = w.cell? ⟨p, j, none⟩ := fun j => by unfold World.cell?; simp only [hb.block p hp]
  exact ⟨(e 0).trans h.c0, (e 1).trans h.c1, (e 2).trans h.c2, fun j => by rw [← h.fz j]; unfold World.frozen?; simp only [hb.block p hp], h.le⟩
theorem Sr.kept {w w' : World} {p b N i : Nat} {bad : Bool} (h : Sr C w p b N i bad) (hb : w'.heap[p]? = w.heap[p]?) : Sr C w' p b N i bad := by
  have e : ∀ j, w'.cell? ⟨p, j, none⟩ = w.cell? ⟨p, j, none⟩ := fun j => by unfold World.cell?; simp only [hb]
  exact ⟨(e 0).trans h.c0, (e 1).trans h.c1, (e 2).trans h.c2, fun j => by rw [← h.fz j]; unfold World.frozen?; simp only [hb], h.le⟩
theorem sr_new (w : World) (b N T : Nat) (hN : 4 ≤ N) : Sr C (w.alloc (.cells #[.slice (some ⟨b, 0, none⟩) N C, .int .i64 4, .bool false] T)) w.heap.size b N 4 false := by
  have hbk := heap_alloc_new w (.cells #[Value.slice (some ⟨b, 0, none⟩) N C, .int .i64 4, .bool false] T)
  refine ⟨?_, ?_, ?_, fun j => ?_, hN⟩
  · rw [World.cell?_alloc_new w _ T 0]; rfl
  · rw [World.cell?_alloc_new w _ T 1]; rfl
  · rw [World.cell?_alloc_new w _ T 2]; rfl
  · unfold World.frozen?; simp only [hbk]; simp

theorem rdR_none {w W : World} {l : List UInt8} (hr : RowS w.heap.size W (.slice (some ⟨w.heap.size, 0, none⟩) 0 0) []) (h : ∀ ss, ¬ GoodD l ss) : RdR w W l (.returned (.tuple #[.slice (some ⟨w.heap.size, 0, none⟩) 0 0, .bool false])) :=
  ⟨_, false, [], w.heap.size, rfl, Nat.le_refl _, hr, by simp [xs, wt, wtS], .inr ⟨rfl, rfl, h⟩⟩
theorem goodD_4 {l : List UInt8} {ss : List Sp} (h : GoodD l ss) : 4 ≤ l.length ∧ l.take 4 = [76, 68, 84, 49] := by
  have := goodD_l h
  rw [this]
  exact ⟨by rw [List.length_append, show ldt.length = 4 from rfl]; omega, List.take_left' rfl⟩

set_option maxRecDepth 100000 in
set_option maxHeartbeats 2000000 in
theorem srd_short (b N : Nat) (l : List UInt8) (hNl : N = l.length) (hN : l.length ≤ 1048576) (w : World) (h4 : N < 4) :
    Calls Try.prog 10 #[.slice (some ⟨b, 0, none⟩) N C] w fun e w' => RdR w w' l e ∧ Below w.heap.size w w' := by
  have h4' : (N : Int) < 4 := by omega
  have HNG : Hid (∀ ss, ¬ GoodD l ss) := fun ss hg => by have := (goodD_4 hg).1; omega
  have hN2 : N ≤ 1048576 := by omega
  have HRN : Hid (RowS w.heap.size (w.alloc (.cells #[] 41)) (.slice (some ⟨w.heap.size, 0, none⟩) 0 0) []) := RowS.nil _ w (Nat.le_refl _)
  clear hNl
  go_enter Try.func10, Try.ntmps10
  go_wp2
  go_ret2
  exact ⟨rdR_none HRN.out HNG.out, (Below.refl _ _).alloc (Nat.le_refl _) _⟩

theorem head_conv {b N : Nat} {l : List UInt8} (hNl : N = l.length) (h4 : ¬ N < 4) {W : World} (hB : up.By W b l) : ∃ X4 : ByteArray, X4.toList = l.take 4 ∧ (convert 22 9 (.slice (some ⟨b, 0, none⟩) 4 C)).run Try.prog W = .ok (.string X4) W := by
  obtain ⟨X4, hX4⟩ : ∃ X : ByteArray, X = ⟨(l.take 4).toArray⟩ := ⟨_, rfl⟩
  have hX4s : X4.size = 4 := by
    rw [hX4]
    show ((l.take 4).toArray).size = 4
    rw [List.size_toArray, List.length_take]
    omega
  refine ⟨X4, by rw [hX4]; simp [ByteArray.toList_eq], ?_⟩
  have hby : Lib.Bytes W b 0 X4 := fun j hj => by
    have hj4 : j < 4 := by omega
    have e1 := hB j (by omega)
    rw [Nat.zero_add, e1]
    congr 2
    have : X4[j] = l[j] := by
      subst hX4
      show ((l.take 4).toArray)[j] = _
      simp
    rw [this]
  have := Lib.run_convert_whole (P := Try.prog) W 22 5 9 Try.underlying22 Try.underlying5 Try.underlying9 b 0 X4 hby C
  rwa [hX4s] at this

set_option maxRecDepth 100000 in
set_option maxHeartbeats 2000000 in
theorem srd_head (b N : Nat) (l : List UInt8) (hNl : N = l.length) (hN : l.length ≤ 1048576) (w : World) (hB : up.By w b l) (hC : N ≤ C) (h4 : ¬ N < 4) (hh : ¬ l.take 4 = [76, 68, 84, 49]) :
    Calls Try.prog 10 #[.slice (some ⟨b, 0, none⟩) N C] w fun e w' => RdR w w' l e ∧ Below w.heap.size w w' := by
  have h4' : ¬ (N : Int) < 4 := by omega
  have h4c : (4 : Int) ≤ (C : Int) := by omega
  have HNG : Hid (∀ ss, ¬ GoodD l ss) := fun ss hg => hh (goodD_4 hg).2
  have hN2 : N ≤ 1048576 := by omega
  have HRN : Hid (RowS w.heap.size (w.alloc (.cells #[] 41)) (.slice (some ⟨w.heap.size, 0, none⟩) 0 0) []) := RowS.nil _ w (Nat.le_refl _)
  obtain ⟨X4, hX4l, hcv4⟩ := head_conv (C := C) hNl h4 (hB.below ((Below.refl w.heap.size w).alloc (Nat.le_refl _) (.cells #[] 41)))
  have hne : (X4.toList == [76, 68, 84, 49]) = false := by rw [hX4l, beq_eq_false_iff_ne]; exact hh
  clear hNl hB hX4l hh
  go_enter Try.func10, Try.ntmps10
  go_wp2
  go_ret2
  exact ⟨rdR_none HRN.out HNG.out, (Below.refl _ _).alloc (Nat.le_refl _) _⟩

end Go.Proofs.Ytogakignaaoklaa.dl
