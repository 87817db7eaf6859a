import Derived.Test.YtbpkekdapkkilaaDoorUG
import Derived.Test.YtbpkekdapkkilaaDoorUD
import Derived.Maps.AppendAt
namespace Go.Proofs.YtbpkekdapkkilaaDoor.up
open Go.ChangeShapes Go.WideShapes Go.ChangeAt Go.RowKit Go.Deep
set_option linter.unusedVariables false
set_option linter.unusedSimpArgs false

/-! ### spec.UnpackTree -/

theorem good_head {l : List UInt8} {E : Nat → tt.En} {n : Nat} (h : Good l E n) : l = [76, 65, 82, 49] ++ (bf.num n ++ tt.pkL E n) := by
  rw [h.2.2, tt.pkB_yes h.1]
  unfold tt.hd
  rw [List.append_assoc]
theorem good_4 {l : List UInt8} {E : Nat → tt.En} {n : Nat} (h : Good l E n) : 4 ≤ l.length ∧ l.take 4 = [76, 65, 82, 49] ∧ l.drop 4 = bf.num n ++ tt.pkL E n := by
  rw [good_head h]
  refine ⟨by simp, by simp, by simp⟩

/-- None, where no tree is there. -/
theorem unR_none {w W : World} {l : List UInt8} {g : Nat} (hr : tt.RowE w.heap.size W (.slice (some ⟨g, 0, none⟩) 0 0) 0 (fun _ => default)) (h : ∀ E n, ¬ Good l E n) : UnR w W l (.returned (.tuple #[.slice (some ⟨g, 0, none⟩) 0 0, .bool false])) :=
  ⟨_, false, 0, _, rfl, hr, by omega, .inr ⟨rfl, rfl, h⟩⟩

theorem Sr.below {w w' : World} {p b N i : Nat} {bad : Bool} (h : Sr w p b N i bad) (hb : Below w.heap.size w w') : Sr w' p b N i bad := by
  have hp : p < w.heap.size := World.block_lt_of_cell? _ _ h.c0
  have e : ∀ j, w'.cell? ⟨p, j, none⟩ = w.cell? ⟨p, j, none⟩ := fun j => by unfold World.cell?; simp only [hb.block p hp]
  exact ⟨(e 0).trans h.c0, (e 1).trans h.c1, (e 2).trans h.c2, fun j => by rw [← h.fz j]; unfold World.frozen?; simp only [hb.block p hp], h.le⟩
theorem Sr.kept {w w' : World} {p b N i : Nat} {bad : Bool} (h : Sr w p b N i bad) (hb : w'.heap[p]? = w.heap[p]?) : Sr w' p b N i bad := by
  have e : ∀ j, w'.cell? ⟨p, j, none⟩ = w.cell? ⟨p, j, none⟩ := fun j => by unfold World.cell?; simp only [hb]
  exact ⟨(e 0).trans h.c0, (e 1).trans h.c1, (e 2).trans h.c2, fun j => by rw [← h.fz j]; unfold World.frozen?; simp only [hb], h.le⟩

/-- Where the loop stands. -/
structure SpI (wr : World) (bs p b : Nat) (l : List UInt8) (v : Value) (m c i' : Nat) (bad : Bool) (X : Nat → tt.En) : Prop where
  own : wr.ownsRow bs 42 4 v c (tt.enC X c)
  nn : v ≠ .slice none 0 0
  sm : tt.SmE c X
  m5 : m ≤ 500
  cm : c ≤ m
  sr : Sr wr p b l.length i' bad
  pr : ∀ E n, Good l E n → m = n ∧ c ≤ n ∧ (∀ k, k < c → X k = E k) ∧ tt.pkL E n = tt.pkL E c ++ l.drop i' ∧ bad = false

theorem sr_new (w : World) (b N T : Nat) (hN : 4 ≤ N) : Sr (w.alloc (.cells #[.slice (some ⟨b, 0, none⟩) N N, .int .i64 4, .bool false] T)) w.heap.size b N 4 false := by
  have hbk := heap_alloc_new w (.cells #[Value.slice (some ⟨b, 0, none⟩) N N, .int .i64 4, .bool false] T)
  refine ⟨?_, ?_, ?_, fun j => ?_, hN⟩
  · rw [World.cell?_alloc_new w _ T 0]; rfl
  · rw [World.cell?_alloc_new w _ T 1]; rfl
  · rw [World.cell?_alloc_new w _ T 2]; rfl
  · unfold World.frozen?; simp only [hbk]; simp

set_option maxRecDepth 100000 in
set_option maxHeartbeats 2000000 in
theorem sunp_short (b N : Nat) (l : List UInt8) (hNl : N = l.length) (hN : l.length ≤ 1048576) (w : World) (hB : By w b l) (hbw : b < w.heap.size) (h4 : N < 4) :
    Calls Tryd.prog 5 #[.slice (some ⟨b, 0, none⟩) N N] w fun e w' => UnR w w' l e ∧ Below w.heap.size w w' := by
  have HNL : Hid (N = l.length) := hNl
  have HBY : Hid (∀ W, Below w.heap.size w W → By W b l) := fun W hW => hB.below hW
  have hN2 : N ≤ 1048576 := by omega
  clear hNl
  have HRN : Hid (∀ W, Below (w.heap.size + 1) (w.alloc (.cells #[] 42)) W → tt.RowE w.heap.size W (.slice (some ⟨w.heap.size, 0, none⟩) 0 0) 0 (fun _ => default)) := fun W hW =>
    ⟨w.heap.size, 0, fun _ => undef, rfl, Nat.le_refl _, Nat.le_refl _, Nat.zero_le _, ⟨#[], (hW.block w.heap.size (by omega)).trans (heap_alloc_new w _), rfl, fun i hi => by omega⟩, fun i hi => by omega⟩
  have HB0 : Hid (Below w.heap.size w (w.alloc (.cells #[] 42))) := (Below.refl _ _).alloc (Nat.le_refl _) _
  have h4' : (N : Int) < 4 := by omega
  have HNG : Hid (∀ E n, ¬ Good l E n) := fun E n hg => by have := (good_4 hg).1; have := HNL.out; omega
  go_enter Tryd.func5, Tryd.ntmps5
  go_wp2
  go_ret2
  exact ⟨unR_none (HRN.out _ (Below.refl _ _)) HNG.out, HB0.out⟩

set_option maxRecDepth 100000 in
set_option maxHeartbeats 2000000 in
theorem sunp_head (b N : Nat) (l : List UInt8) (hNl : N = l.length) (hN : l.length ≤ 1048576) (w : World) (hB : By w b l) (hbw : b < w.heap.size) (h4 : ¬ N < 4) (hh : ¬ l.take 4 = [76, 65, 82, 49]) :
    Calls Tryd.prog 5 #[.slice (some ⟨b, 0, none⟩) N N] w fun e w' => UnR w w' l e ∧ Below w.heap.size w w' := by
  have HNL : Hid (N = l.length) := hNl
  have HBY : Hid (∀ W, Below w.heap.size w W → By W b l) := fun W hW => hB.below hW
  have hN2 : N ≤ 1048576 := by omega
  clear hNl
  have HRN : Hid (∀ W, Below (w.heap.size + 1) (w.alloc (.cells #[] 42)) W → tt.RowE w.heap.size W (.slice (some ⟨w.heap.size, 0, none⟩) 0 0) 0 (fun _ => default)) := fun W hW =>
    ⟨w.heap.size, 0, fun _ => undef, rfl, Nat.le_refl _, Nat.le_refl _, Nat.zero_le _, ⟨#[], (hW.block w.heap.size (by omega)).trans (heap_alloc_new w _), rfl, fun i hi => by omega⟩, fun i hi => by omega⟩
  have HB0 : Hid (Below w.heap.size w (w.alloc (.cells #[] 42))) := (Below.refl _ _).alloc (Nat.le_refl _) _
  have h4' : ¬ (N : Int) < 4 := by omega
  obtain ⟨X4, hX4⟩ : ∃ X : ByteArray, X = ⟨(l.take 4).toArray⟩ := ⟨_, rfl⟩
  have hX4s : X4.size = 4 := by
    rw [hX4]
    show ((l.take 4).toArray).size = 4
    rw [List.size_toArray, List.length_take]
    have := HNL.out
    omega
  have hcv4 : (convert 22 9 (.slice (some ⟨b, 0, none⟩) 4 N)).run Tryd.prog (w.alloc (.cells #[] 42)) = .ok (.string X4) (w.alloc (.cells #[] 42)) := by
    have hby : Lib.Bytes (w.alloc (.cells #[] 42)) b 0 X4 := fun j hj => by
      have hj4 : j < 4 := by omega
      have hjl : j < l.length := by have := HNL.out; omega
      have e1 := HBY.out _ HB0.out j (by have := HNL.out; omega)
      rw [Nat.zero_add, e1]
      congr 2
      have : X4[j] = l[j] := by
        subst hX4
        show ((l.take 4).toArray)[j] = _
        simp
      rw [this]
    have := Lib.run_convert_whole (P := Tryd.prog) (w.alloc (.cells #[] 42)) 22 5 9 Tryd.underlying22 Tryd.underlying5 Tryd.underlying9 b 0 X4 hby N
    rwa [hX4s] at this
  have hX4l : X4.toList = l.take 4 := by rw [hX4]; simp [ByteArray.toList_eq]
  have hne : (X4.toList == [76, 65, 82, 49]) = false := by rw [hX4l, beq_eq_false_iff_ne]; exact hh
  have HNG : Hid (∀ E n, ¬ Good l E n) := fun E n hg => hh (good_4 hg).2.1
  clear hX4 hX4l hh
  go_enter Tryd.func5, Tryd.ntmps5
  go_wp2
  go_ret2
  exact ⟨unR_none (HRN.out _ (Below.refl _ _)) HNG.out, HB0.out⟩

end Go.Proofs.YtbpkekdapkkilaaDoor.up
