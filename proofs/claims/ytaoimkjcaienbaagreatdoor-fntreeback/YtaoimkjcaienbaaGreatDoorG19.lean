import Derived.Test.YtaoimkjcaienbaaGreatDoorG18
import Derived.Test.YtaoimkjcaienbaaGreatDoorG13
import Derived.Maps.AppendAt
import Derived.Test.YtaoimkjcaienbaaGreatDoorG15
import Derived.Test.YtaoimkjcaienbaaGreatDoorG17
import Derived.Test.YtaoimkjcaienbaaGreatDoorG10
import Derived.Test.YtaoimkjcaienbaaGreatDoorG03
import Derived.Test.YtaoimkjcaienbaaGreatDoorG04
import Derived.Test.YtaoimkjcaienbaaGreatDoorG05
import Derived.Test.YtaoimkjcaienbaaGreatDoorG06
import Derived.RangeFuncCalls
import Derived.RangeFuncLeaves
import Derived.Shelf.Abstract
import Derived.Shelf.RegionOpen
import Derived.WalkKit
import Derived.OwnWalkIn
import Derived.TacticsInMore
import Derived.LoopNIn
import Derived.LoopIn
import Derived.Test.YtaoimkjcaienbaaGreatDoorG16
namespace Go.Proofs.YtaoimkjcaienbaaGreatDoor.up
open Go.ChangeShapes Go.WideShapes Go.ChangeAt Go.RowKit Go.Deep
set_option linter.unusedVariables false
set_option linter.unusedSimpArgs false
variable {C : Nat}

/-! ### spec.UnpackTree -/

theorem good_head {l : List UInt8} {E : Nat → tt.En} {n : Nat} (h : Good l E n) : l = [76, 65, 82, 49] ++ (bf.num n ++ tt.pkL E n) := by
  rw [h.2.2, tt.pkB_yes h.1]
  unfold tt.hd
  rw [List.append_assoc]
theorem good_4 {l : List UInt8} {E : Nat → tt.En} {n : Nat} (h : Good l E n) : 4 ≤ l.length ∧ l.take 4 = [76, 65, 82, 49] ∧ l.drop 4 = bf.num n ++ tt.pkL E n := by
  rw [good_head h]
  refine ⟨by simp, by simp, by simp⟩

/-- None, where no tree is there. -/
theorem unR_none {w W : World} {l : List UInt8} {g : Nat} (hr : tt.RowE w.heap.size W (.slice (some ⟨g, 0, none⟩) 0 0) 0 (fun _ => default)) (h : ∀ E n, ¬ Good l E n) : UnR w W l (.returned (.tuple #[.slice (some ⟨g, 0, none⟩) 0 0, .bool false])) :=
  ⟨_, false, 0, _, rfl, hr, by omega, .inr ⟨rfl, rfl, h⟩⟩

theorem Sr.below {w w' : World} {p b N i : Nat} {bad : Bool} (h : Sr C w p b N i bad) (hb : Below w.heap.size w w') : Sr C w' p b N i bad := by
  have hp : p < w.heap.size := World.block_lt_of_cell? _ _ h.c0
  have e : ∀ j, w'.cell? ⟨p, j, none⟩ = w.cell? ⟨p, j, none⟩ := fun j => by unfold World.cell?; simp only [hb.block p hp]
  exact ⟨(e 0).trans h.c0, (e 1).trans h.c1, (e 2).trans h.c2, fun j => by rw [← h.fz j]; unfold World.frozen?; simp only [hb.block p hp], h.le⟩
theorem Sr.kept {w w' : World} {p b N i : Nat} {bad : Bool} (h : Sr C w p b N i bad) (hb : w'.heap[p]? = w.heap[p]?) : Sr C w' p b N i bad := by
  have e : ∀ j, w'.cell? ⟨p, j, none⟩ = w.cell? ⟨p, j, none⟩ := fun j => by unfold World.cell?; simp only [hb]
  exact ⟨(e 0).trans h.c0, (e 1).trans h.c1, (e 2).trans h.c2, fun j => by rw [← h.fz j]; unfold World.frozen?; simp only [hb], h.le⟩

/-- Where the loop stands. -/
structure SpI (C : Nat) (wr : World) (bs p b : Nat) (l : List UInt8) (v : Value) (m c i' : Nat) (bad : Bool) (X : Nat → tt.En) : Prop where
  own : wr.ownsRow bs 29 4 v c (tt.enC X c)
  nn : v ≠ .slice none 0 0
  sm : tt.SmE c X
  m5 : m ≤ 500
  cm : c ≤ m
  sr : Sr C wr p b l.length i' bad
  pr : ∀ E n, Good l E n → m = n ∧ c ≤ n ∧ (∀ k, k < c → X k = E k) ∧ tt.pkL E n = tt.pkL E c ++ l.drop i' ∧ bad = false

theorem sr_new (w : World) (b N T : Nat) (hN : 4 ≤ N) : Sr C (w.alloc (.cells #[.slice (some ⟨b, 0, none⟩) N C, .int .i64 4, .bool false] T)) w.heap.size b N 4 false := by
  have hbk := heap_alloc_new w (.cells #[Value.slice (some ⟨b, 0, none⟩) N C, .int .i64 4, .bool false] T)
  refine ⟨?_, ?_, ?_, fun j => ?_, hN⟩
  · rw [World.cell?_alloc_new w _ T 0]; rfl
  · rw [World.cell?_alloc_new w _ T 1]; rfl
  · rw [World.cell?_alloc_new w _ T 2]; rfl
  · unfold World.frozen?; simp only [hbk]; simp

set_option maxRecDepth 100000 in
set_option maxHeartbeats 2000000 in
theorem sunp_short (b N : Nat) (l : List UInt8) (hNl : N = l.length) (hN : l.length ≤ 1048576) (w : World) (hB : By w b l) (hbw : b < w.heap.size) (hNC : N ≤ C) (hCm : C ≤ 9223372036854775807) (h4 : N < 4) :
    Calls Tryz.prog 15 #[.slice (some ⟨b, 0, none⟩) N C] w fun e w' => UnR w w' l e ∧ Below w.heap.size w w' := by
  have HNL : Hid (N = l.length) := hNl
  have HBY : Hid (∀ W, Below w.heap.size w W → By W b l) := fun W hW => hB.below hW
  have hN2 : N ≤ 1048576 := by omega
  clear hNl
  have HRN : Hid (∀ W, Below (w.heap.size + 1) (w.alloc (.cells #[] 29)) W → tt.RowE w.heap.size W (.slice (some ⟨w.heap.size, 0, none⟩) 0 0) 0 (fun _ => default)) := fun W hW =>
    ⟨w.heap.size, 0, fun _ => undef, rfl, Nat.le_refl _, Nat.le_refl _, Nat.zero_le _, ⟨#[], (hW.block w.heap.size (by omega)).trans (heap_alloc_new w _), rfl, fun i hi => by omega⟩, fun i hi => by omega⟩
  have HB0 : Hid (Below w.heap.size w (w.alloc (.cells #[] 29))) := (Below.refl _ _).alloc (Nat.le_refl _) _
  have h4' : (N : Int) < 4 := by omega
  have HNG : Hid (∀ E n, ¬ Good l E n) := fun E n hg => by have := (good_4 hg).1; have := HNL.out; omega
  go_enter Tryz.func15, Tryz.ntmps15
  go_wp2
  go_ret2
  exact ⟨unR_none (HRN.out _ (Below.refl _ _)) HNG.out, HB0.out⟩

set_option maxRecDepth 100000 in
set_option maxHeartbeats 2000000 in
theorem sunp_head (b N : Nat) (l : List UInt8) (hNl : N = l.length) (hN : l.length ≤ 1048576) (w : World) (hB : By w b l) (hbw : b < w.heap.size) (hNC : N ≤ C) (hCm : C ≤ 9223372036854775807) (h4 : ¬ N < 4) (hh : ¬ l.take 4 = [76, 65, 82, 49]) :
    Calls Tryz.prog 15 #[.slice (some ⟨b, 0, none⟩) N C] w fun e w' => UnR w w' l e ∧ Below w.heap.size w w' := by
  have HNL : Hid (N = l.length) := hNl
  have HBY : Hid (∀ W, Below w.heap.size w W → By W b l) := fun W hW => hB.below hW
  have hN2 : N ≤ 1048576 := by omega
  clear hNl
  have HRN : Hid (∀ W, Below (w.heap.size + 1) (w.alloc (.cells #[] 29)) W → tt.RowE w.heap.size W (.slice (some ⟨w.heap.size, 0, none⟩) 0 0) 0 (fun _ => default)) := fun W hW =>
    ⟨w.heap.size, 0, fun _ => undef, rfl, Nat.le_refl _, Nat.le_refl _, Nat.zero_le _, ⟨#[], (hW.block w.heap.size (by omega)).trans (heap_alloc_new w _), rfl, fun i hi => by omega⟩, fun i hi => by omega⟩
  have HB0 : Hid (Below w.heap.size w (w.alloc (.cells #[] 29))) := (Below.refl _ _).alloc (Nat.le_refl _) _
  have h4' : ¬ (N : Int) < 4 := by omega
  have h4c : (4 : Int) ≤ (C : Int) := by omega
  obtain ⟨X4, hX4⟩ : ∃ X : ByteArray, X = ⟨(l.take 4).toArray⟩ := ⟨_, rfl⟩
  have hX4s : X4.size = 4 := by
    rw [hX4]
    show ((l.take 4).toArray).size = 4
    rw [List.size_toArray, List.length_take]
    have := HNL.out
    omega
  have hcv4 : (convert 22 9 (.slice (some ⟨b, 0, none⟩) 4 C)).run Tryz.prog (w.alloc (.cells #[] 29)) = .ok (.string X4) (w.alloc (.cells #[] 29)) := by
    have hby : Lib.Bytes (w.alloc (.cells #[] 29)) b 0 X4 := fun j hj => by
      have hj4 : j < 4 := by omega
      have hjl : j < l.length := by have := HNL.out; omega
      have e1 := HBY.out _ HB0.out j (by have := HNL.out; omega)
      rw [Nat.zero_add, e1]
      congr 2
      have : X4[j] = l[j] := by
        subst hX4
        show ((l.take 4).toArray)[j] = _
        simp
      rw [this]
    have := Lib.run_convert_whole (P := Tryz.prog) (w.alloc (.cells #[] 29)) 22 5 9 Tryz.underlying22 Tryz.underlying5 Tryz.underlying9 b 0 X4 hby C
    rwa [hX4s] at this
  have hX4l : X4.toList = l.take 4 := by rw [hX4]; simp [ByteArray.toList_eq]
  have hne : (X4.toList == [76, 65, 82, 49]) = false := by rw [hX4l, beq_eq_false_iff_ne]; exact hh
  have HNG : Hid (∀ E n, ¬ Good l E n) := fun E n hg => hh (good_4 hg).2.1
  clear hX4 hX4l hh
  go_enter Tryz.func15, Tryz.ntmps15
  go_wp2
  go_ret2
  exact ⟨unR_none (HRN.out _ (Below.refl _ _)) HNG.out, HB0.out⟩

end Go.Proofs.YtaoimkjcaienbaaGreatDoor.up

namespace Go.Proofs.YtaoimkjcaienbaaGreatDoor.up
open Go.ChangeShapes Go.WideShapes Go.ChangeAt Go.RowKit Go.Deep
set_option linter.unusedVariables false
set_option linter.unusedSimpArgs false
variable {C : Nat}

theorem kx2_of {z : tt.En} (h : 1 ≤ z.kind ∧ z.kind ≤ 3) : ((tt.kB z).toNat : Int) % 16 = z.kind ∧ (((tt.kB z).toNat : Int) / 16 == 1) = z.exec := by
  obtain ⟨k, hk⟩ : ∃ k : Nat, z.kind = (k : Int) := ⟨z.kind.toNat, by omega⟩
  unfold tt.kB
  rw [hk, show (k : Int).toNat = k from rfl]
  have h3 : k = 1 ∨ k = 2 ∨ k = 3 := by omega
  cases z.exec <;> rcases h3 with rfl | rfl | rfl <;> exact ⟨by decide +kernel, by decide +kernel⟩
theorem sr_i {w : World} {p b N i : Nat} {bad : Bool} (h : Sr C w p b N i bad) (hj : i + 1 ≤ N) : Sr C (w.setCell ⟨p, 1, none⟩ (.int .i64 ((i : Int) + 1))) p b N (i + 1) bad := h.setI hj
theorem size_set (w : World) (a : Addr) (x : Value) : (w.setCell a x).heap.size = w.heap.size := by simp [World.setCell]

theorem lne_of {l : List UInt8} {N : Nat} (h : N = l.length) (h4 : ¬ N < 4) : l ≠ [] := by
  rintro rfl
  simp at h
  omega

theorem same_any (g z c b N c' : Nat) (l1 l2 : List UInt8) (w : World) (h1 : By w g l1) (h2 : By w b l2) (hz : z = l1.length) (hN : N = l2.length) :
    Calls Tryz.prog 48 #[.slice (some ⟨g, 0, none⟩) z c, .slice (some ⟨b, 0, none⟩) N c'] w fun e w' => e = .returned (.bool (decide (l1 = l2))) ∧ w' = w := by
  have hc : ∀ (k cc : Nat) (m : List UInt8), By w k m → (convert 22 9 (.slice (some ⟨k, 0, none⟩) m.length cc)).run Tryz.prog w = .ok (.string ⟨m.toArray⟩) w := fun k cc m hk => by
    have hB : Lib.Bytes w k 0 ⟨m.toArray⟩ := fun i hi => by
      have hi' : i < m.length := by simpa [ByteArray.size] using hi
      rw [Nat.zero_add, hk i hi']
      rfl
    have := Lib.run_convert_whole (P := Tryz.prog) w 22 5 9 Tryz.underlying22 Tryz.underlying5 Tryz.underlying9 k 0 ⟨m.toArray⟩ hB cc
    simpa [ByteArray.size] using this
  subst hz hN
  have c1 := hc g c l1 h1
  have c2 := hc b c' l2 h2
  have he : ((⟨l1.toArray⟩ : ByteArray).toList == (⟨l2.toArray⟩ : ByteArray).toList) = decide (l1 = l2) := by
    rw [ByteArray.toList_eq, ByteArray.toList_eq, Bool.eq_iff_iff]
    simp
  clear hc
  obtain ⟨z1, hz1⟩ : ∃ z, l1.length = z := ⟨_, rfl⟩
  obtain ⟨z2, hz2⟩ : ∃ z, l2.length = z := ⟨_, rfl⟩
  obtain ⟨s1, hs1⟩ : ∃ s : ByteArray, ⟨l1.toArray⟩ = s := ⟨_, rfl⟩
  obtain ⟨s2, hs2⟩ : ∃ s : ByteArray, ⟨l2.toArray⟩ = s := ⟨_, rfl⟩
  rw [hs1] at c1 he
  rw [hs2] at c2 he
  rw [hz1] at c1 ⊢
  rw [hz2] at c2 ⊢
  obtain ⟨bb, hbb⟩ : ∃ bb, decide (l1 = l2) = bb := ⟨_, rfl⟩
  rw [hbb] at he ⊢
  clear hz1 hz2 hs1 hs2 hbb h1 h2
  go_enter Tryz.func48, Tryz.ntmps48
  go_wp2
  go_ret
  first | exact ⟨rfl, rfl⟩ | exact ⟨by rw [he], rfl⟩

set_option maxRecDepth 100000 in
set_option maxHeartbeats 2000000 in
theorem sunp_box (b N : Nat) (l : List UInt8) (hNl : N = l.length) (hN : l.length ≤ 1048576) (w : World) (hB : By w b l) (hbw : b < w.heap.size) (hNC : N ≤ C) (hCm : C ≤ 9223372036854775807) (h4 : ¬ N < 4) (hh : l.take 4 = [76, 65, 82, 49]) :
    Calls Tryz.prog 15 #[.slice (some ⟨b, 0, none⟩) N C] w fun e w' => UnR w w' l e ∧ Below w.heap.size w w' := by
  have HNL : Hid (N = l.length) := hNl
  have HBY : Hid (∀ W, Below w.heap.size w W → By W b l) := fun W hW => hB.below hW
  have hN2 : N ≤ 1048576 := by omega
  clear hNl
  have HRN : Hid (∀ W, Below (w.heap.size + 1) (w.alloc (.cells #[] 29)) W → tt.RowE w.heap.size W (.slice (some ⟨w.heap.size, 0, none⟩) 0 0) 0 (fun _ => default)) := fun W hW =>
    ⟨w.heap.size, 0, fun _ => undef, rfl, Nat.le_refl _, Nat.le_refl _, Nat.zero_le _, ⟨#[], (hW.block w.heap.size (by omega)).trans (heap_alloc_new w _), rfl, fun i hi => by omega⟩, fun i hi => by omega⟩
  have HB0 : Hid (Below w.heap.size w (w.alloc (.cells #[] 29))) := (Below.refl _ _).alloc (Nat.le_refl _) _
  have h4' : ¬ (N : Int) < 4 := by omega
  have h4c : (4 : Int) ≤ (C : Int) := by omega
  obtain ⟨X4, hX4⟩ : ∃ X : ByteArray, X = ⟨(l.take 4).toArray⟩ := ⟨_, rfl⟩
  have hX4s : X4.size = 4 := by
    rw [hX4]
    show ((l.take 4).toArray).size = 4
    rw [List.size_toArray, List.length_take]
    have := HNL.out
    omega
  have hcv4 : (convert 22 9 (.slice (some ⟨b, 0, none⟩) 4 C)).run Tryz.prog (w.alloc (.cells #[] 29)) = .ok (.string X4) (w.alloc (.cells #[] 29)) := by
    have hby : Lib.Bytes (w.alloc (.cells #[] 29)) b 0 X4 := fun j hj => by
      have hj4 : j < 4 := by omega
      have hjl : j < l.length := by have := HNL.out; omega
      have e1 := HBY.out _ HB0.out j (by have := HNL.out; omega)
      rw [Nat.zero_add, e1]
      congr 2
      have : X4[j] = l[j] := by
        subst hX4
        show ((l.take 4).toArray)[j] = _
        simp
      rw [this]
    have := Lib.run_convert_whole (P := Tryz.prog) (w.alloc (.cells #[] 29)) 22 5 9 Tryz.underlying22 Tryz.underlying5 Tryz.underlying9 b 0 X4 hby C
    rwa [hX4s] at this
  have hX4l : X4.toList = l.take 4 := by rw [hX4]; simp [ByteArray.toList_eq]
  have hee : (X4.toList == [76, 65, 82, 49]) = true := by rw [hX4l, hh]; rfl
  clear hX4 hX4l hX4s
  go_enter Tryz.func15, Tryz.ntmps15
  go_upto_region 4 with fail
  obtain ⟨w1, hw1⟩ : ∃ W, W = w.alloc (.cells #[] 29) := ⟨_, rfl⟩
  have hs1 : w1.heap.size = w.heap.size + 1 := by rw [hw1, World.size_alloc]
  rw [← hw1, ← hs1] at HRN
  rw [← hw1] at HB0 ⊢
  have hbp : b ≠ w1.heap.size := by omega
  clear hw1 hcv4 hee
  have HUP : Hid (∀ W, Below w1.heap.size w1 W → Below w.heap.size w W) := fun W hW => HB0.out.trans (hW.mono (by omega))
  have hs1l : w.heap.size < w1.heap.size := by omega
  clear hs1
  have HBY1 : Hid (∀ W, Below w1.heap.size w1 W → By W b l) := fun W hW => HBY.out W (HUP.out W hW)
  have HSR0 : Hid (∀ T, Sr C (w1.alloc (.cells #[.slice (some ⟨b, 0, none⟩) N C, .int .i64 4, .bool false] T)) w1.heap.size b l.length 4 false) := fun T => by have := sr_new (C := C) w1 b N T (by omega); rw [HNL.out] at this ⊢; exact this
  have HBA : Hid (∀ ob, Below w1.heap.size w1 (w1.alloc ob)) := fun ob => (Below.refl _ _).alloc (Nat.le_refl _) _
  have HNU : Hid (∀ W i bad, Below w1.heap.size w1 W → Sr C W w1.heap.size b l.length i bad → Calls Tryz.prog 46 #[.pointer (some ⟨w1.heap.size, 0, none⟩)] W fun e w' => SnR C W w' w1.heap.size b l i bad e) := fun W i bad hW hS => read_any b _ i bad l hbp hN W hS (HBY1.out W hW)
  have HTX : Hid (∀ W i bad, Below w1.heap.size w1 W → Sr C W w1.heap.size b l.length i bad → Calls Tryz.prog 47 #[.pointer (some ⟨w1.heap.size, 0, none⟩)] W fun e w' => StR C W w' w1.heap.size b l i bad e) := fun W i bad hW hS => rtext_any b _ i bad l hbp hN (by rw [← HNL.out]; exact hNC) hCm W hS (HBY1.out W hW)
  have HBG : Hid (∀ W W', Below w1.heap.size w1 W → W.grownBy W' (some w1.heap.size) → Below w1.heap.size w1 W') := fun W W' h1 h2 => h1.grown h2 h1.size (fun k hk => by cases hk; exact Nat.le_refl _)
  have HLN : Hid (l ≠ []) := lne_of HNL.out h4
  go_wp2_with (go_at_call 46; refine (HNU.out _ _ _ (HBA.out _) (HSR0.out _)).mono ?_; rintro e w2 ⟨m, i2, bad2, rfl, hm2, hi2, hs2, hb2, hg2, hp2⟩; refine Hid.out ?_)
  refine Lib.hid ?_
  have HB2 : Hid (Below w1.heap.size w1 w2) := HBG.out _ _ (HBA.out _) hg2
  have hs12 : w1.heap.size < w2.heap.size := by have := hg2.size; simp only [World.size_alloc] at this; omega
  have HP2 : Hid (∀ E n, Good l E n → n ≤ 500 ∧ m = n ∧ l.drop i2 = tt.pkL E n ∧ bad2 = false) := fun E n hg => by
    have hn5 := (tt.treeB_tr' hg.1).1
    obtain ⟨e1, e2, e3⟩ := hp2 n (tt.pkL E n) (good_4 hg).2.2 (by omega)
    exact ⟨hn5, e1, e2, e3⟩
  clear hp2 hb2 hg2
  by_cases hm5 : 500 < m
  · have hm5' : (500 : Int) < (m : Int) := by omega
    have HNG : Hid (∀ E n, ¬ Good l E n) := fun E n hg => by obtain ⟨e1, e2, _⟩ := HP2.out E n hg; omega
    clear hs2
    go_wp2
    go_ret2
    exact ⟨unR_none (HRN.out _ HB2.out) HNG.out, HUP.out _ HB2.out⟩
  have hm5' : ¬ (500 : Int) < (m : Int) := by omega
  go_upto_region 8 with fail
  obtain ⟨bs, hbs⟩ : ∃ bs, bs = w2.heap.size := ⟨_, rfl⟩
  have HO0 : Hid ((w2.alloc (.cells #[] 29)).ownsRow bs 29 4 (.slice (some ⟨w2.heap.size, 0, none⟩) 0 0) 0 []) := by rw [hbs]; exact tt.made_own w2 0 (by omega) #[] rfl
  have HI0 : Hid (SpI C (w2.alloc (.cells #[] 29)) bs w1.heap.size b l (.slice (some ⟨w2.heap.size, 0, none⟩) 0 0) m 0 i2 bad2 (fun _ => default)) := by
    refine ⟨HO0.out, (by intro e; cases e), fun i hi => by omega, by omega, by omega, hs2.below ((Below.refl _ _).alloc (Nat.le_refl _) _), fun E n hg => ?_⟩
    obtain ⟨e1, e2, e3, e4⟩ := HP2.out E n hg
    exact ⟨e2, by omega, fun k hk => by omega, by rw [e3]; rfl, e4⟩
  have HBI0 : Hid (Below w1.heap.size w1 (w2.alloc (.cells #[] 29))) := HB2.out.alloc HB2.out.size _
  have HS0 : Hid (bs ≤ (w2.alloc (.cells #[] 29)).heap.size) := by show _ ≤ _; rw [World.size_alloc]; omega
  have hpb : w1.heap.size < bs := by omega
  clear hs2 hbs
  go_wp2
  go_loopw [6, 7, 8, 9] (fun x v _ _ wr => ∃ (r c i' : Nat) (bad : Bool) (X : Nat → tt.En), x = .int .i64 (r : Int) ∧ c + r = m ∧ SpI C wr bs w1.heap.size b l v m c i' bad X ∧ Below w1.heap.size w1 wr ∧ bs ≤ wr.heap.size) (fun x _ _ _ _ => (intOf x).toNat)
  case atStart => exact ⟨m, 0, i2, bad2, _, rfl, by omega, HI0.out, HBI0.out, HS0.out⟩
  case round =>
    obtain ⟨r, c, i', bad, X, rfl, hrc, hI, hbel, hbsw⟩ := hrel
    have HII : Hid (SpI C wr bs w1.heap.size b l u7 m c i' bad X) := hI
    have HBE : Hid (Below w1.heap.size w1 wr) := hbel
    obtain ⟨c0, c1, c2, fz, hle⟩ := hI.sr
    have f1 := fz 1
    clear hI hbel c0 fz
    cases bad with
    | true =>
      have HNG : Hid (∀ E n, ¬ Good l E n) := fun E n hg => by have := (HII.out.pr E n hg).2.2.2.2; cases this
      by_cases hr0 : 0 < r
      · have hr' : (0 : Int) < (r : Int) := by omega
        go_wp2
        go_ret2
        exact ⟨unR_none (HRN.out _ HBE.out) HNG.out, HUP.out _ HBE.out⟩
      · obtain rfl : r = 0 := by omega
        go_wp2
        go_ret2
        exact ⟨unR_none (HRN.out _ HBE.out) HNG.out, HUP.out _ HBE.out⟩
    | false =>
      by_cases hr0 : 0 < r
      · have hr' : (0 : Int) < (r : Int) := by omega
        by_cases hil : i' < l.length
        · have hiN : ¬ (N : Int) ≤ (i' : Int) := by have := HNL.out; omega
          obtain ⟨y, hy⟩ : ∃ y, y = l[i'] := ⟨_, rfl⟩
          have hcell : wr.cell? ⟨b, i', none⟩ = some (.int .u8 (y.toNat : Int)) := by rw [hy]; exact HBY1.out _ HBE.out i' hil
          have hyb : (y.toNat : Int) < 256 := by have := y.toNat_lt; omega
          have HDR : Hid (l.drop i' = y :: l.drop (i' + 1)) := by show _ = _; rw [hy]; exact List.drop_eq_getElem_cons hil
          have hiN2 : (i' : Int) < (N : Int) := by omega
          have hiN3 : (i' : Int) + 1 < 4194304 := by omega
          obtain ⟨at7, cp7, hv7⟩ := own_shape HII.out.own
          subst hv7
          clear hy
          have HSR : Hid (Sr C wr w1.heap.size b l.length i' false) := HII.out.sr
          have HOW : Hid (wr.ownsRow bs 29 4 (.slice at7 c cp7) c (tt.enC X c)) := HII.out.own
          have HNN : Hid (Value.slice at7 c cp7 ≠ .slice none 0 0) := HII.out.nn
          have HSZ : Hid (∀ a x, (wr.setCell a x).heap.size = wr.heap.size) := fun a x => size_set _ _ _
          go_upto_region 16 with fail
          obtain ⟨vk, hvk⟩ : ∃ v, (y.toNat : Int) % 16 = v := ⟨_, rfl⟩
          obtain ⟨vx, hvx⟩ : ∃ v, ((y.toNat : Int) / 16 == 1) = v := ⟨_, rfl⟩
          rw [hvk, hvx]
          obtain ⟨W0, hW0⟩ : ∃ W, W = (wr.setCell ⟨w1.heap.size, 1, none⟩ (.int .i64 ((i' : Int) + 1))).alloc (.cells #[.string ⟨#[]⟩, .int .i64 vk, .string ⟨#[]⟩, .bool vx] 29) := ⟨_, rfl⟩
          rw [← hW0]
          obtain ⟨eb, heb⟩ : ∃ eb, eb = wr.heap.size := ⟨_, rfl⟩
          rw [← heb]
          have hpe : w1.heap.size ≠ eb := by omega
          have hwe : w1.heap.size ≤ eb := by omega
          have HG0 : Hid (wr.grownBy W0 (some w1.heap.size)) := by
            rw [hW0]
            exact grown_bel (grown_set (grown_refl _ _) _ _) ((Below.refl _ _).alloc (Nat.le_refl _) _)
          have HE0 : Hid (W0.heap[eb]? = some (.cells #[.string ⟨#[]⟩, .int .i64 vk, .string ⟨#[]⟩, .bool vx] 29 (0, 0))) := by
            show _ = _
            rw [hW0, heb, ← size_set wr ⟨w1.heap.size, 1, none⟩ (.int .i64 ((i' : Int) + 1))]
            exact heap_alloc_new _ _
          have HS0' : Hid (Sr C W0 w1.heap.size b l.length (i' + 1) false) := by rw [hW0]; exact (sr_i HSR.out (by omega)).below ((Below.refl _ _).alloc (Nat.le_refl _) _)
          have HBW0 : Hid (Below w1.heap.size w1 W0) := HBG.out _ _ HBE.out HG0.out
          have heW : eb < W0.heap.size := by rw [hW0, World.size_alloc, size_set]; omega
          have hbe : bs ≤ eb := by omega
          have hew : wr.heap.size ≤ eb := by omega
          clear hW0 heb c1 c2 f1 hcell
          go_wp2_with (go_at_call 47; refine (HTX.out _ _ _ HBW0.out HS0'.out).mono ?_; rintro e w3 ⟨S1, i3, bad3, rfl, hz1, hi3, hs3, hbb3, hg3, hp3⟩; have hk3 := hg3.block eb heW (fun e => hpe (Option.some.inj e).symm); obtain ⟨q0, q1, q2, q3, qf⟩ := c4 (hk3.trans HE0.out); have qf0 := qf 0; refine Hid.out ?_)
          refine Lib.hid ?_
          have HE3 : Hid (w3.heap[eb]? = some (.cells #[.string ⟨#[]⟩, .int .i64 vk, .string ⟨#[]⟩, .bool vx] 29 (0, 0))) := hk3.trans HE0.out
          have HP3 : Hid (∀ T tail, l.drop (i' + 1) = bf.num T.length ++ T ++ tail → T.length ≤ 1048576 → S1.data.toList = T ∧ l.drop i3 = tail ∧ bad3 = false) := fun T tail h1 h2 => hp3 T tail h1 h2 (by first | rfl | trivial)
          have HE3s : Hid ((w3.setCell ⟨eb, 0, none⟩ (.string S1)).heap[eb]? = some (.cells #[.string S1, .int .i64 vk, .string ⟨#[]⟩, .bool vx] 29 (0, 0))) := set4 HE3.out 0 _
          have HB3 : Hid (Below w1.heap.size w1 w3) := HBG.out _ _ HBW0.out hg3
          have HB3s : Hid (Below w1.heap.size w1 (w3.setCell ⟨eb, 0, none⟩ (.string S1))) := HB3.out.setCell hwe _
          have HS3s : Hid (Sr C (w3.setCell ⟨eb, 0, none⟩ (.string S1)) w1.heap.size b l.length i3 bad3) := hs3.kept (setO hpe _ _)
          have HG3 : Hid (wr.grownBy w3 (some w1.heap.size)) := HG0.out.trans hg3
          have heW3 : eb < (w3.setCell ⟨eb, 0, none⟩ (.string S1)).heap.size := by rw [size_set]; have := hg3.size; omega
          clear hp3 hs3 hk3 qf
          go_wp2_with (go_at_call 47; refine (HTX.out _ _ _ HB3s.out HS3s.out).mono ?_; rintro e w4 ⟨S2, i4, bad4, rfl, hz2, hi4, hs4, hbb4, hg4, hp4⟩; have hk4 := hg4.block eb heW3 (fun e => hpe (Option.some.inj e).symm); obtain ⟨r0, r1, r2, r3, rf⟩ := c4 (hk4.trans HE3s.out); have rf2 := rf 2; refine Hid.out ?_)
          refine Lib.hid ?_
          have HE4s : Hid ((w4.setCell ⟨eb, 2, none⟩ (.string S2)).heap[eb]? = some (.cells #[.string S1, .int .i64 vk, .string S2, .bool vx] 29 (0, 0))) := set4 (hk4.trans HE3s.out) 2 _
          have HB4 : Hid (Below w1.heap.size w1 w4) := HBG.out _ _ HB3s.out hg4
          have HB4s : Hid (Below w1.heap.size w1 (w4.setCell ⟨eb, 2, none⟩ (.string S2))) := HB4.out.setCell hwe _
          have HS4s : Hid (Sr C (w4.setCell ⟨eb, 2, none⟩ (.string S2)) w1.heap.size b l.length i4 bad4) := hs4.kept (setO hpe _ _)
          have HP4 : Hid (∀ T tail, l.drop i3 = bf.num T.length ++ T ++ tail → T.length ≤ 1048576 → bad3 = false → S2.data.toList = T ∧ l.drop i4 = tail ∧ bad4 = false) := hp4
          have HOB : Hid (∀ k, (Value.slice at7 c cp7).ownBlock = some k → k ≠ eb) := fun k hk => by have := (HOW.out.lt k hk).2; omega
          have HO3 : Hid (w3.ownsRow bs 29 4 (.slice at7 c cp7) c (tt.enC X c)) := own_grown HOW.out HG3.out hpb
          have HO3s : Hid ((w3.setCell ⟨eb, 0, none⟩ (.string S1)).ownsRow bs 29 4 (.slice at7 c cp7) c (tt.enC X c)) := HO3.out.kept (grown_set (grown_refl w3 (some eb)) _ _) (.inr fun e => HOB.out eb e rfl)
          have HO4 : Hid (w4.ownsRow bs 29 4 (.slice at7 c cp7) c (tt.enC X c)) := own_grown HO3s.out hg4 hpb
          have HO4s : Hid ((w4.setCell ⟨eb, 2, none⟩ (.string S2)).ownsRow bs 29 4 (.slice at7 c cp7) c (tt.enC X c)) := HO4.out.kept (grown_set (grown_refl w4 (some eb)) _ _) (.inr fun e => HOB.out eb e rfl)
          have HZ4 : Hid ((w4.setCell ⟨eb, 2, none⟩ (.string S2)).heap.size = w4.heap.size) := size_set _ _ _
          have hbs4 : bs ≤ w4.heap.size := by have h1 := hg4.size; rw [size_set] at h1; have h2 := HG3.out.size; omega
          have hbb34 : bad3 = true → bad4 = true := hbb4
          have HX1 : Hid (S1.size ≤ l.length) := hz1
          have HX2 : Hid (S2.size ≤ l.length) := hz2
          clear hp4 hs4 hk4 rf hg4 hg3 q0 q1 q2 q3 qf0 hbb4 hbb34 hbb3 hz1 hz2
          go_upto_region 18 with fail
          obtain ⟨W5, hW5⟩ : ∃ W, W = w4.setCell ⟨eb, 2, none⟩ (.string S2) := ⟨_, rfl⟩
          rw [← hW5] at HE4s HB4s HS4s HO4s HZ4 ⊢
          have hs5 : bs ≤ W5.heap.size := by rw [HZ4.out]; exact hbs4
          clear hW5 r0 r1 r2 r3 rf2 HZ4
          obtain ⟨t0, t1, t2, t3, tf⟩ := c4 HE4s.out
          have HO5 : Hid (∀ ob, (W5.alloc ob).ownsRow bs 29 4 (.slice at7 c cp7) c (tt.enC X c)) := fun ob => own_below HO4s.out ((Below.refl _ _).alloc (Nat.le_refl _) _)
          have HSB : Hid (∀ ob, bs ≤ (W5.alloc ob).heap.size) := fun ob => by rw [World.size_alloc]; omega
          have HS5 : Hid (∀ ob, Sr C (W5.alloc ob) w1.heap.size b l.length i4 bad4) := fun ob => HS4s.out.below ((Below.refl _ _).alloc (Nat.le_refl _) _)
          have HBA5 : Hid (∀ ob, Below w1.heap.size w1 (W5.alloc ob)) := fun ob => HB4s.out.alloc HB4s.out.size _
          have hc5 : c ≤ 500 := by have := HII.out.m5; have := HII.out.cm; omega
          have HC2 : Hid (c ≤ 2000000) := by show _ ≤ _; omega
          have HNX : Hid (tt.enC (setX X c ⟨S1, vk, S2, vx⟩) (c + 1) = tt.enC X c ++ [.string S1, .int .i64 vk, .string S2, .bool vx]) := by
            show _ = _
            rw [tt.enC_succ, setX_at, tt.enC_congr (fun i hi => setX_lt hi)]
          clear tf
          go_wp2_with (first
            | (at_builtin; refine tt.app_ent _ rfl _ _ rfl bs _ _ _ rfl (HO5.out _) HNN.out ⟨W5.heap.size, 0, none⟩ 1 (.string S1) (.int .i64 vk) (.string S2) (.bool vx) rfl (tt.four_at _ _ rfl _ _ _ _ _) (tt.four_one S1 vk S2 vx) HC2.out (HSB.out _) ?_; intro v6 w6 hown6 hv6 hg6; refine Hid.out ?_)
            | go_in)
          refine Lib.hid ?_
          have hob : ∀ k, (Value.slice at7 c cp7).ownBlock = some k → bs ≤ k := fun k hk => ((HO5.out (.cells #[.string S1, .int .i64 vk, .string S2, .bool vx] 29)).lt k hk).1
          have HB6 : Hid (Below w1.heap.size w1 w6) := (HBA5.out _).grown hg6 (HBA5.out _).size (fun k hk => by have := hob k hk; omega)
          have HS6 : Hid (bs ≤ w6.heap.size) := Nat.le_trans (HSB.out _) hg6.size
          have HNI : Hid (SpI C w6 bs w1.heap.size b l v6 m (c + 1) i4 bad4 (setX X c ⟨S1, vk, S2, vx⟩)) := by
            refine ⟨by rw [HNX.out]; exact hown6, hv6, fun k hk => ?_, HII.out.m5, by omega, (HS5.out _).kept (hg6.block _ (World.block_lt_of_cell? _ _ (HS5.out _).c0) (fun e => by have := hob _ e.symm; omega)), fun E n hg => ?_⟩
            · by_cases hkc : k < c
              · rw [setX_lt hkc]; exact HII.out.sm k hkc
              · obtain rfl : k = c := by omega
                rw [setX_at]
                exact ⟨by have := HX1.out; show S1.size ≤ _; omega, by have := HX2.out; show S2.size ≤ _; omega⟩
            · obtain ⟨e1, e2, e3, e4, _⟩ := HII.out.pr E n hg
              obtain ⟨q, hq⟩ := pkL_pre E (c + 1) n (by omega)
              have hdr : l.drop i' = tt.pkE (E c) ++ q := by
                rw [e4, tt.pkL, List.append_assoc] at hq
                exact List.append_cancel_left hq
              have hsm := hg.2.1 c (by omega)
              have hk := tt.kind_of (tt.treeB_tr' hg.1).2 (show c < n by omega)
              rw [HDR.out] at hdr
              have hz1 : y :: l.drop (i' + 1) = tt.kB (E c) :: (bf.num (E c).path.size ++ ((E c).path.data.toList ++ (bf.num (E c).data.size ++ ((E c).data.data.toList ++ q)))) := by
                rw [hdr]
                unfold tt.pkE
                simp only [List.append_assoc, List.cons_append, List.nil_append]
              have hyz : y = tt.kB (E c) := (List.cons.inj hz1).1
              have hz := (List.cons.inj hz1).2
              have hpl' : (E c).path.data.toList.length = (E c).path.size := by simp
              have hdl' : (E c).data.data.toList.length = (E c).data.size := by simp
              obtain ⟨g1, hz2, hb3⟩ := HP3.out (E c).path.data.toList (bf.num (E c).data.size ++ ((E c).data.data.toList ++ q)) (by rw [hz, hpl']; simp only [List.append_assoc]) (by have := hsm.1; omega)
              obtain ⟨g2, hz3, hb4⟩ := HP4.out (E c).data.data.toList q (by rw [hz2, hdl']; simp only [List.append_assoc]) (by have := hsm.2; omega) hb3
              have hkx := kx2_of hk
              rw [← hyz, hvk, hvx] at hkx
              have f1 : S1 = (E c).path := ByteArray.ext (Array.toList_inj.1 g1)
              have f2 : S2 = (E c).data := ByteArray.ext (Array.toList_inj.1 g2)
              refine ⟨e1, by omega, fun k hk' => ?_, by rw [hq, hz3], hb4⟩
              by_cases hkc : k < c
              · rw [setX_lt hkc]; exact e3 k hkc
              · obtain rfl : k = c := by omega
                rw [setX_at, f1, f2, hkx.1, hkx.2]
          clear hown6 hv6 hg6 hob t0 t1 t2 t3
          have hr1 : (r : Int) - 1 = ((r - 1 : Nat) : Int) := by omega
          go_wp2
          go_roundw
          case rel => exact ⟨r - 1, c + 1, i4, bad4, _, by first | rw [hr1] | go_num, by omega, HNI.out, HB6.out, HS6.out⟩
          case measure => simp [intOf]; omega
        · have hiN : (N : Int) ≤ (i' : Int) := by have := HNL.out; omega
          have HNG : Hid (∀ E n, ¬ Good l E n) := fun E n hg => by
            obtain ⟨e1, e2, e3, e4, _⟩ := HII.out.pr E n hg
            rw [List.drop_eq_nil_of_le (by omega), List.append_nil] at e4
            obtain ⟨q, hq⟩ := pkL_pre E (c + 1) n (by omega)
            rw [tt.pkL, e4, List.append_assoc] at hq
            have h2 : ([] : List UInt8) = tt.pkE (E c) ++ q := List.append_cancel_left ((List.append_nil (tt.pkL E c)).trans hq)
            exact pkE_ne (E c) (List.append_eq_nil_iff.1 h2.symm).1
          go_wp2
          go_ret2
          exact ⟨unR_none (HRN.out _ HBE.out) HNG.out, HUP.out _ HBE.out⟩
      · obtain rfl : r = 0 := by omega
        have HOUT : Hid (Out wr bs l u7 c X) := ⟨HII.out.own, HII.out.nn, HII.out.sm, by have := HII.out.m5; omega, fun h => absurd h HLN.out, fun E n hg => by obtain ⟨e1, e2, e3, _⟩ := HII.out.pr E n hg; exact ⟨by omega, fun k hk => e3 k (by omega)⟩⟩
        obtain ⟨gt, ct, ft, hveq, hgb, hnc, hcm2, hrowt, hEt⟩ := tt.own_rowE HOUT.out.own HOUT.out.nn
        subst hveq
        have hc5 : c ≤ 500 := HOUT.out.c5
        have HROW : Hid (tt.RowE w.heap.size wr (.slice (some ⟨gt, 0, none⟩) c ct) c X) := ⟨gt, ct, ft, rfl, by omega, hnc, hcm2, hrowt, hEt⟩
        have HST : Hid (Calls Tryz.prog 9 #[.slice (some ⟨gt, 0, none⟩) c ct] wr fun e w' => e = .returned (.bool (tt.treeB X c)) ∧ Below wr.heap.size wr w') := tt.stree_any X gt 0 c ct wr hEt HOUT.out.sm (by omega) hnc hcm2
        have HPK : Hid (∀ W, Below wr.heap.size wr W → Calls Tryz.prog 43 #[.slice (some ⟨gt, 0, none⟩) c ct] W fun e w' => (∃ g c' z, e = .returned (.slice (some ⟨g, 0, none⟩) z c') ∧ tt.Pkd W w' (tt.pkB X c) g c' z) ∧ Below W.heap.size W w') := fun W hW => tt.spack_any X gt 0 c ct W (hEt.below hW) HOUT.out.sm (by omega) hnc hcm2
        clear hgb hnc hcm2 hrowt hEt
        cases ht : tt.treeB X c with
        | false =>
          rw [ht] at HST
          have HNG : Hid (∀ E n, ¬ Good l E n) := fun E n hg => by
            obtain ⟨e1, e2⟩ := HOUT.out.pr E n hg
            subst e1
            rw [treeB_congr e2, hg.1] at ht
            cases ht
          clear ht
          go_wp2_with (go_at_call 9; refine HST.out.mono ?_; rintro e w5 ⟨rfl, hl5⟩)
          have HB5 : Hid (Below w1.heap.size w1 w5) := HBE.out.trans (hl5.mono HBE.out.size)
          go_ret2
          exact ⟨unR_none (HRN.out _ HB5.out) HNG.out, HUP.out _ HB5.out⟩
        | true =>
          rw [ht] at HST
          clear ht
          go_wp2_with (first
            | (go_at_call 9; refine HST.out.mono ?_; rintro e w5 ⟨rfl, hl5⟩)
            | (go_at_call 43; refine (HPK.out _ hl5).mono ?_; rintro e w6 ⟨⟨g6, c6, z6, rfl, hz6, hbf6⟩, hl6⟩; have HZ6 : Hid (z6 = (tt.pkB X c).length) := hz6; clear hz6; refine Hid.out ?_))
          refine Lib.hid ?_
          have HB5 : Hid (Below w1.heap.size w1 w5) := HBE.out.trans (hl5.mono HBE.out.size)
          have HB6 : Hid (Below w1.heap.size w1 w6) := HB5.out.trans (hl6.mono HB5.out.size)
          have HROW6 : Hid (tt.RowE w.heap.size w6 (.slice (some ⟨gt, 0, none⟩) c ct) c X) := rowE_below (rowE_below HROW.out hl5) hl6
          have HEQ : Hid (Calls Tryz.prog 48 #[.slice (some ⟨g6, 0, none⟩) z6 c6, .slice (some ⟨b, 0, none⟩) N C] w6 fun e w' => e = .returned (.bool (decide (tt.pkB X c = l))) ∧ w' = w6) := same_any g6 z6 c6 b N C _ _ w6 (bf_by hbf6) (HBY1.out w6 HB6.out) HZ6.out HNL.out
          clear hbf6
          by_cases hpk : tt.pkB X c = l
          · rw [decide_eq_true hpk] at HEQ
            have HR : Hid (UnR w w6 l (.returned (.tuple #[.slice (some ⟨gt, 0, none⟩) c ct, .bool true]))) := unR_yes HROW6.out HOUT.out hpk
            clear hpk
            go_wp2_with (go_at_call 48; refine HEQ.out.mono ?_; rintro e w7 ⟨rfl, hw7⟩; obtain rfl := hw7.symm)
            go_ret2
            exact ⟨HR.out, HUP.out _ HB6.out⟩
          · rw [decide_eq_false hpk] at HEQ
            have HNG : Hid (∀ E n, ¬ Good l E n) := HOUT.out.bad hpk
            clear hpk
            go_wp2_with (go_at_call 48; refine HEQ.out.mono ?_; rintro e w7 ⟨rfl, hw7⟩; obtain rfl := hw7.symm)
            go_ret2
            exact ⟨unR_none (HRN.out _ HB6.out) HNG.out, HUP.out _ HB6.out⟩

theorem sunp_any (b N : Nat) (l : List UInt8) (hNl : N = l.length) (hN : l.length ≤ 1048576) (w : World) (hB : By w b l) (hbw : b < w.heap.size) (hNC : N ≤ C) (hCm : C ≤ 9223372036854775807) :
    Calls Tryz.prog 15 #[.slice (some ⟨b, 0, none⟩) N C] w fun e w' => UnR w w' l e ∧ Below w.heap.size w w' := by
  by_cases h4 : N < 4
  · exact sunp_short b N l hNl hN w hB hbw hNC hCm h4
  by_cases hh : l.take 4 = [76, 65, 82, 49]
  · exact sunp_box b N l hNl hN w hB hbw hNC hCm h4 hh
  · exact sunp_head b N l hNl hN w hB hbw hNC hCm h4 hh

end Go.Proofs.YtaoimkjcaienbaaGreatDoor.up

namespace Go.Proofs.YtaoimkjcaienbaaGreatDoor.tt
open Go.ChangeShapes Go.WideShapes Go.ChangeAt Go.RowKit Go.Deep
set_option linter.unusedVariables false
set_option linter.unusedSimpArgs false

/-! ### FnTreeBack, plainly -/

theorem fnd_yes {E : Nat → En} {n j : Nat} {q : List UInt8} (hA : Asc E n) (hj : j < n) (hp : pth E j = q) : fnd E n q = (j : Int) := by
  unfold fnd
  rw [chd_yes hA hj hp]
  omega
theorem fnd_no {E : Nat → En} {n : Nat} {q : List UInt8} (h : ∀ j, j < n → pth E j ≠ q) : fnd E n q = -1 := by
  unfold fnd
  rw [chd_no h]
  rfl
theorem fnd_neg {E : Nat → En} {n : Nat} {q : List UInt8} (h : fnd E n q < 0) : ∀ j, j < n → pth E j ≠ q := by
  rcases chd_cases E (fun j => j) n q with ⟨j, hj, hp, e⟩ | ⟨h1, _⟩
  · unfold fnd at h
    rw [e] at h
    omega
  · exact h1
section
variable {E : Nat → En} {m a : Nat} {e : En}
theorem put_lt (hr : Rk E m e.path.data.toList a) : a < ptN E m e a := by
  have hle := hr.le
  unfold ptN
  by_cases hb : isB E m e.path.data.toList a = true
  · rw [if_pos hb]; exact (isB_iff.1 hb).1
  · rw [if_neg hb]; omega
theorem ptF_at (E : Nat → En) (m a : Nat) (e : En) : ptF E m e a a = e := by unfold ptF; rw [if_neg (by omega), if_pos rfl]
theorem put_tb (ht : treeB E m = true) (hr : Rk E m e.path.data.toList a) (hk : tkB E m e a = true) : treeB (ptF E m e a) (ptN E m e a) = true := by
  have h := put_treeB ht hr
  unfold puF at h
  rwa [if_pos hk, if_pos hk] at h
theorem put_fnd (ht : treeB E m = true) (hr : Rk E m e.path.data.toList a) (hk : tkB E m e a = true) : fnd (ptF E m e a) (ptN E m e a) e.path.data.toList = (a : Int) :=
  fnd_yes (treeB_is (put_tb ht hr hk)).2.asc (put_lt hr) (by unfold pth; rw [ptF_at])
theorem put_new (hno : ∀ j, j < m → pth E j ≠ e.path.data.toList) : isB E m e.path.data.toList a = false := by
  rw [Bool.eq_false_iff]
  exact fun h => hno a (isB_iff.1 h).1 (isB_iff.1 h).2
theorem put_more (hno : ∀ j, j < m → pth E j ≠ e.path.data.toList) : ptN E m e a = m + 1 := by
  unfold ptN
  rw [if_neg (by rw [put_new hno]; decide)]
theorem filter_ne {a m : Nat} (h : a ≤ m) : (List.range (m + 1)).filter (fun i => decide (i ≠ a)) = List.range a ++ (List.range (m - a)).map (fun x => x + (a + 1)) := by
  have e1 : m + 1 = a + (m - a + 1) := by omega
  rw [e1, List.range_add, List.filter_append, List.filter_eq_self.2 (fun x hx => by have := List.mem_range.1 hx; simp; omega), List.range_succ_eq_map, List.map_cons, Nat.add_zero, List.filter_cons_of_neg (by simp)]
  congr 1
  rw [List.filter_eq_self.2 (fun x hx => by
    simp only [List.mem_map] at hx
    obtain ⟨y, ⟨z, _, rfl⟩, rfl⟩ := hx
    simp), List.map_map]
  refine List.map_congr_left fun x _ => ?_
  show a + (x + 1) = x + (a + 1)
  omega
theorem put_cut (ht : treeB E m = true) (hr : Rk E m e.path.data.toList a) (hk : tkB E m e a = true) (hno : ∀ j, j < m → pth E j ≠ e.path.data.toList) :
    cuN (ptF E m e a) (ptN E m e a) e.path.data.toList = m ∧ ∀ k, k < m → cuF (ptF E m e a) (ptN E m e a) e.path.data.toList k = E k := by
  have hT := (treeB_is ht).2
  have hle := hr.le
  have hb := put_new (a := a) hno
  have hpe := path_ne (tkB_iff.1 hk).1
  have hpt : ∀ i, i < a → ptF E m e a i = E i := fun i hi => by unfold ptF; rw [if_pos hi]
  have hpt2 : ∀ i, a < i → ptF E m e a i = E (i - 1) := fun i hi => by unfold ptF; rw [if_neg (by omega), if_neg (by omega), if_neg (by rw [hb]; decide)]
  have hst : ∀ j, j < m → stayB E e.path.data.toList j = true := fun j hj => by
    have h1 := hno j hj
    have h2 : ¬ Und (pth E j) e.path.data.toList := fun hu => by
      obtain ⟨i, hi, hp, _⟩ := full_is hT hpe ⟨j, hj, hu⟩
      exact hno i hi hp
    unfold stayB
    rw [decide_eq_false h1, decide_eq_false h2]
    rfl
  have hL : stL (ptF E m e a) e.path.data.toList (m + 1) = List.range a ++ (List.range (m - a)).map (fun x => x + (a + 1)) := by
    rw [← filter_ne hle]
    unfold stL
    refine List.filter_congr fun i hi => ?_
    have him := List.mem_range.1 hi
    rcases Nat.lt_trichotomy i a with h | h | h
    · have := hst i (by omega)
      unfold stayB pth at this ⊢
      rw [hpt i h, this, decide_eq_true (by omega)]
    · subst h
      unfold stayB pth
      rw [ptF_at, decide_eq_true rfl, decide_eq_false (fun h : i ≠ i => h rfl)]
      rfl
    · have := hst (i - 1) (by omega)
      unfold stayB pth at this ⊢
      rw [hpt2 i h, this, decide_eq_true (by omega)]
  have hM := put_more (a := a) hno
  have h0 : 0 ≤ fnd (ptF E m e a) (ptN E m e a) e.path.data.toList := by rw [put_fnd ht hr hk]; omega
  refine ⟨?_, fun k hk' => ?_⟩
  · unfold cuN
    rw [if_pos (put_tb ht hr hk), if_pos h0, hM, hL]
    simp
    omega
  · unfold cuF
    rw [if_pos h0, hM, hL]
    unfold selE
    by_cases hka : k < a
    · have : (List.range a ++ (List.range (m - a)).map (fun x => x + (a + 1))).getD k 0 = k := by
        rw [List.getD_eq_getElem?_getD, List.getElem?_append_left (by simpa using hka)]
        simp [hka]
      rw [this, hpt k hka]
    · have : (List.range a ++ (List.range (m - a)).map (fun x => x + (a + 1))).getD k 0 = k + 1 := by
        rw [List.getD_eq_getElem?_getD, List.getElem?_append_right (by simp; omega)]
        simp only [List.length_range, List.getElem?_map]
        rw [List.getElem?_range (by omega)]
        simp
        omega
      rw [this, hpt2 (k + 1) (by omega)]
      rfl
end
theorem cut_gone {F : Nat → En} {M : Nat} {q : List UInt8} (hc : cuB F M q = true) : feB (cuF F M q) (cuN F M q) q < 0 := by
  unfold cuB at hc
  rw [Bool.and_eq_true, decide_eq_true_iff] at hc
  obtain ⟨ht, h0⟩ := hc
  have key : ∀ k, k < cuN F M q → pth (cuF F M q) k ≠ q := fun k hk => by
    unfold cuN at hk
    rw [if_pos ht, if_pos h0] at hk
    unfold cuF
    rw [if_pos h0]
    show pth F ((stL F q M).getD k 0) ≠ q
    have hm : (stL F q M).getD k 0 ∈ stL F q M := by rw [List.getD_eq_getElem?_getD, List.getElem?_eq_getElem hk]; exact List.getElem_mem hk
    unfold stL at hm
    have h1 := (List.mem_filter.1 hm).2
    unfold stayB at h1
    simp only [Bool.and_eq_true, Bool.not_eq_true', decide_eq_false_iff_not] at h1
    exact h1.1
  unfold feB
  split
  · rw [fnd_no key]; omega
  · omega
theorem unr_yes {w w' : World} {l : List UInt8} {r : Ending} {E : Nat → En} {m : Nat} (h : up.UnR w w' l r) (hg : up.Good l E m) : ∃ v X, r = .returned (.tuple #[v, .bool true]) ∧ RowE w.heap.size w' v m X ∧ ∀ k, k < m → X k = E k := by
  obtain ⟨v, ok, n, X, rfl, hr, hn, h | h⟩ := h
  · obtain ⟨rfl, h1, h2⟩ := h
    obtain ⟨rfl, h3⟩ := h2 E m hg
    exact ⟨v, X, rfl, hr, h3⟩
  · exact absurd hg (h.2.2 E m)
theorem unr_any {w w' : World} {l : List UInt8} {r : Ending} (h : up.UnR w w' l r) : ∃ v n X, r = .returned (.tuple #[v, .bool (@decide (∃ E m, up.Good l E m) (Classical.propDecidable _))]) ∧ RowE w.heap.size w' v n X ∧ n ≤ 500 ∧ (@decide (∃ E m, up.Good l E m) (Classical.propDecidable _) = true → up.Good l X n) := by
  obtain ⟨v, ok, n, X, rfl, hr, hn, h | h⟩ := h
  · obtain ⟨rfl, h1, h2⟩ := h
    rw [@decide_eq_true _ (Classical.propDecidable _) ⟨X, n, h1⟩]
    exact ⟨v, n, X, rfl, hr, hn, fun _ => h1⟩
  · obtain ⟨rfl, h1, h2⟩ := h
    have : ¬ ∃ E m, up.Good l E m := fun ⟨E, m, hg⟩ => h2 E m hg
    rw [@decide_eq_false _ (Classical.propDecidable _) this]
    exact ⟨v, n, X, rfl, hr, hn, fun h => by cases h⟩

end Go.Proofs.YtaoimkjcaienbaaGreatDoor.tt

namespace Go.Proofs.YtaoimkjcaienbaaGreatDoor.tt
open Go.ChangeShapes Go.WideShapes Go.ChangeAt Go.RowKit Go.Deep
set_option linter.unusedVariables false
set_option linter.unusedSimpArgs false

/-! ### laws.sameTree over equal lists -/

set_option maxRecDepth 100000 in
set_option maxHeartbeats 2000000 in
theorem same_any (b b' n c c' : Nat) (E : Nat → En) (w : World) (hb : EnR w b 0 n E) (hb' : EnR w b' 0 n E) (hn : n ≤ 1048576) :
    Calls Tryz.prog 10 #[.slice (some ⟨b, 0, none⟩) n c, .slice (some ⟨b', 0, none⟩) n c'] w fun e w' => e = .returned (.bool true) ∧ Below w.heap.size w w' := by
  have HB : Hid (EnR w b 0 n E) := hb
  have HB' : Hid (EnR w b' 0 n E) := hb'
  clear hb hb'
  go_enter Tryz.func10, Tryz.ntmps10
  go_wp2
  go_loopw [5] (fun i wr => ∃ k : Nat, k ≤ n ∧ i = .int .i64 (k : Int) ∧ Below w.heap.size w wr) (fun i _ => n - (intOf i).toNat)
  case atStart => exact ⟨0, Nat.zero_le _, rfl, Below.refl _ _⟩
  case round =>
    obtain ⟨k, hk, rfl, hbel⟩ := hrel
    have HBE : Hid (Below w.heap.size w wr) := hbel
    by_cases hlt : k < n
    · have hlt' : (k : Int) < (n : Int) := by omega
      have hk0 : (0 : Int) ≤ (k : Int) := by omega
      have HC : Hid (N4 wr.drew b (k * 4) (E k) ∧ N4 wr.drew b' (k * 4) (E k)) := by
        have h1 := (HB.out k hlt).below hbel.drew
        have h2 := (HB'.out k hlt).below hbel.drew
        rw [Nat.zero_add] at h1 h2
        exact ⟨h1, h2⟩
      unfold N4 at HC
      generalize (E k).path = p at *
      generalize (E k).kind = kd at *
      generalize (E k).data = d at *
      generalize (E k).exec = x at *
      clear hbel
      go_wp2_with fail
      refine wq 9 (S := fun W => (W.cell? ⟨b, k * 4, none⟩ = some (.string p) ∧ W.cell? ⟨b, k * 4 + 1, none⟩ = some (.int .i64 kd) ∧ W.cell? ⟨b, k * 4 + 2, none⟩ = some (.string d) ∧ W.cell? ⟨b, k * 4 + 3, none⟩ = some (.bool x)) ∧ W.cell? ⟨b', k * 4, none⟩ = some (.string p) ∧ W.cell? ⟨b', k * 4 + 1, none⟩ = some (.int .i64 kd) ∧ W.cell? ⟨b', k * 4 + 2, none⟩ = some (.string d) ∧ W.cell? ⟨b', k * 4 + 3, none⟩ = some (.bool x)) (by kernel_rfl) HC.out fun hHeld => ?_
      iterate 9 (refine un 9 rfl ?_;try simp only [aP])
      refine dq ?_
      go_wp2
      go_roundw
      case rel => exact ⟨k + 1, by omega, by go_num, HBE.out.drew⟩
      case measure => simp [intOf]; omega
    · have hlt' : ¬ (k : Int) < (n : Int) := by omega
      go_wp2
      go_ret
      exact ⟨rfl, hbel⟩

end Go.Proofs.YtaoimkjcaienbaaGreatDoor.tt

namespace Go.Proofs.YtaoimkjcaienbaaGreatDoor.tt
open Go.RowKit Go.Shelf Go.Proofs.YtaoimkjcaienbaaGreatDoor.rt
attribute [local go_sem] Oper.semAt_some
set_option linter.unusedVariables false
set_option linter.unusedSimpArgs false

end Go.Proofs.YtaoimkjcaienbaaGreatDoor.tt
namespace Go.Proofs
open Go.Shelf
def YtaoimkjcaienbaaGreatDoor.tt.laysIX_ren : Go.Shelf.Ren := ⟨fun | 143 => 126 | 219 => 163 | 217 => 180 | 225 => 181 | 224 => 182 | 267 => 183 | 266 => 185 | 314 => 186 | n => n, fun | 9 => 9 | 3 => 3 | 4 => 4 | 5 => 5 | 46 => 104 | 146 => 185 | 51 => 180 | n => n, fun | 1 => 1 | n => n⟩
theorem YtaoimkjcaienbaaGreatDoor.tt.laysIX : Go.Proofs.Lays.n143 Tryz.prog YtaoimkjcaienbaaGreatDoor.tt.laysIX_ren := {
  mixed := by kernel_rfl
  f143 := Tryz.func126.trans (congrArg some (by kernel_rfl))
  f217 := Tryz.func180.trans (congrArg some (by kernel_rfl))
  f219 := Tryz.func163.trans (congrArg some (by kernel_rfl))
  f224 := Tryz.func182.trans (congrArg some (by kernel_rfl))
  f225 := Tryz.func181.trans (congrArg some (by kernel_rfl))
  f266 := Tryz.func185.trans (congrArg some (by kernel_rfl))
  f267 := Tryz.func183.trans (congrArg some (by kernel_rfl))
  f314 := Tryz.func186.trans (congrArg some (by kernel_rfl))
  t3 := Tryz.underlying3
  a3 := Tryz.isAgg3
  z3 := Tryz.sizeOf3
  v3 := Tryz.zeroValue3
  t4 := Tryz.underlying4
  a4 := Tryz.isAgg4
  z4 := Tryz.sizeOf4
  v4 := Tryz.zeroValue4
  t5 := Tryz.underlying5
  a5 := Tryz.isAgg5
  z5 := Tryz.sizeOf5
  v5 := Tryz.zeroValue5
  t9 := Tryz.underlying9
  a9 := Tryz.isAgg9
  z9 := Tryz.sizeOf9
  v9 := Tryz.zeroValue9
  t46 := Tryz.underlying104
  a46 := Tryz.isAgg104
  z46 := Tryz.sizeOf104
  v46 := Tryz.zeroValue104
  t51 := Tryz.underlying180
  a51 := Tryz.isAgg180
  z51 := Tryz.sizeOf180
  v51 := Tryz.zeroValue180
  t146 := Tryz.underlying185
  a146 := Tryz.isAgg185
  z146 := Tryz.sizeOf185
  v146 := Tryz.zeroValue185
  g1 := by kernel_rfl }
end Go.Proofs
namespace Go.Proofs.YtaoimkjcaienbaaGreatDoor.tt
open Go.RowKit Go.Shelf Go.Proofs.YtaoimkjcaienbaaGreatDoor.rt
attribute [local go_sem] Oper.semAt_some
set_option linter.unusedVariables false
set_option linter.unusedSimpArgs false
theorem ix_ren : laysIX_ren.f 143 = 126 := by kernel_rfl

theorem seq_any (s : ByteArray) (w : World) :
    Calls Tryz.prog 106 #[.string s, .string ⟨#[47]⟩] w fun e w' => e = .returned (.func (.func 167) #[] #[.pointer (some ⟨w.heap.size + 1, 0, none⟩), .pointer (some ⟨w.heap.size, 0, none⟩), .pointer (some ⟨w.heap.size + 1 + 1, 0, none⟩)]) ∧ w' = ((w.alloc (.cells #[.string s] 9)).alloc (.cells #[.string ⟨#[47]⟩] 9)).alloc (.cells #[.int .i64 0] 3) := by
  have HS : Hid (Calls Tryz.prog 140 #[.string s, .string ⟨#[47]⟩, .int .i64 0] w fun e w' => e = .returned (.func (.func 167) #[] #[.pointer (some ⟨w.heap.size + 1, 0, none⟩), .pointer (some ⟨w.heap.size, 0, none⟩), .pointer (some ⟨w.heap.size + 1 + 1, 0, none⟩)]) ∧ w' = ((w.alloc (.cells #[.string s] 9)).alloc (.cells #[.string ⟨#[47]⟩] 9)).alloc (.cells #[.int .i64 0] 3)) := by
    unfold Hid
    go_enter Tryz.func140, Tryz.ntmps140
    go_wp2
    go_ret
    exact ⟨rfl, rfl⟩
  go_enter Tryz.func106, Tryz.ntmps106
  go_wp2_with (go_at_call 140; refine HS.out.mono ?_; rintro e w1 ⟨rfl, rfl⟩)
  go_ret
  exact ⟨rfl, rfl⟩

theorem index_any (u : ByteArray) (w : World) :
    Calls Tryz.prog 126 #[.string u, .string ⟨#[47]⟩] w fun e w' => e = .returned (.int .i64 (Lib.index u.data.toList sl)) ∧ w' = w := by
  have := Any.strings_Index_one laysIX u 47 w
  rw [← Lib.index_one] at this
  exact this

/-- The three boxes of the iterator over a text's pieces. -/
structure Sq (W : World) (B : Nat) (u : ByteArray) : Prop where
  s : Boxed W B 9 (.string u)
  p : Boxed W (B + 1) 9 (.string ⟨#[47]⟩)
  v : Boxed W (B + 1 + 1) 3 (.int .i64 0)

def Kb (B : Nat) (W W' : World) : Prop := W.heap.size ≤ W'.heap.size ∧ W'.heap[B]? = W.heap[B]? ∧ W'.heap[B + 1]? = W.heap[B + 1]? ∧ W'.heap[B + 1 + 1]? = W.heap[B + 1 + 1]?
theorem Sq.kb {W W' : World} {B : Nat} {u : ByteArray} (h : Sq W B u) (k : Kb B W W') : Sq W' B u := ⟨k.2.1.trans h.s, k.2.2.1.trans h.p, k.2.2.2.trans h.v⟩
theorem Sq.set {W : World} {B : Nat} {u : ByteArray} (h : Sq W B u) (u' : ByteArray) : Sq (W.setCell ⟨B, 0, none⟩ (.string u')) B u' := ⟨h.s.set _, h.p.other (by omega) _, h.v.other (by omega) _⟩
theorem Sq.below {W W' : World} {B : Nat} {u : ByteArray} (h : Sq W B u) (k : Below W.heap.size W W') : Sq W' B u := h.kb ⟨k.size, k.block _ h.s.lt, k.block _ h.p.lt, k.block _ h.v.lt⟩

def PL (s : ByteArray) : List ByteArray := (spl [] s.data.toList).map fun x => ⟨x.toArray⟩
def szAt (W : World) (B : Nat) : Nat := match W.cell? ⟨B, 0, none⟩ with | some (.string u) => u.size | _ => 0
theorem szAt_of {W : World} {B : Nat} {u : ByteArray} (h : Sq W B u) : szAt W B = u.size := by unfold szAt; rw [h.s.cell]

theorem PL_miss {u : ByteArray} (h : Lib.index u.data.toList sl = -1) : PL u = [u] := by unfold PL; rw [spl_miss _ _ h]; rfl
theorem ix_lt {u : ByteArray} {i : Nat} (h : Lib.index u.data.toList sl = (i : Int)) : i < u.size := by
  have h' : Lib.indexByte u.data.toList 47 = i := by rw [← Lib.index_one]; exact h
  have := (List.getElem?_eq_some_iff.1 (Lib.indexByte_some h').1).1
  simpa using this
theorem PL_hit {u : ByteArray} {i : Nat} (h : Lib.index u.data.toList sl = (i : Int)) : PL u = u.extract 0 i :: PL (u.extract (i + 1) u.size) := by
  have hi := ix_lt h
  unfold PL
  rw [spl_hit _ _ _ h, List.map_cons, ext_drop (by omega)]
  congr 1
  apply ByteArray.ext
  apply Array.ext'
  simp

set_option maxRecDepth 100000 in
set_option maxHeartbeats 2000000 in
theorem split_hands (n B : Nat) (s : ByteArray) (hs : s.size ≤ 1048576) (w : World) (hn : 1 ≤ n) (hS : Sq w B s) :
    Hands n Tryz.prog 167 #[.pointer (some ⟨B + 1, 0, none⟩), .pointer (some ⟨B, 0, none⟩), .pointer (some ⟨B + 1 + 1, 0, none⟩)] (Kb B) (fun r => r = B) (PL s) w := by
  intro l J Jx W hW hJ hJx hY h0
  have hsW : Sq W B s := hS.below hW
  refine callsIn_of_wp Tryz.func167 rfl trivial ?_ rfl
  simp only [Tryz.ntmps167, List.size_toArray, List.length_cons, List.length_nil, Nat.reduceAdd, Nat.reduceSub, Array.replicate_succ, Array.replicate_zero, List.push_toArray, List.append_toArray, List.nil_append, List.cons_append]
  have hp0 := hsW.p.cell
  have hz1 : (ByteArray.mk #[47]).size = 1 := rfl
  gi_wp2
  gi_loopw [7, 8] (fun _ _ wr => ∃ (pre : List ByteArray) (u : ByteArray), PL s = pre ++ PL u ∧ u.size ≤ s.size ∧ Sq wr B u ∧ J pre wr) (fun _ _ wr => szAt wr B)
  case atStart => exact ⟨[], s, rfl, Nat.le_refl _, hsW, h0⟩
  case round =>
    obtain ⟨pre, u, hpl, hus, hsq, hJw⟩ := hrel
    have HPL : Hid (PL s = pre ++ PL u) := hpl
    have hc := hsq.s.cell
    have hcp := hsq.p.cell
    have hcv := hsq.v.cell
    have hB : B < wr.heap.size := hsq.s.lt
    clear hpl hp0
    by_cases hm : Lib.index u.data.toList sl = -1
    · have HI : Hid (Calls Tryz.prog 126 #[.string u, .string ⟨#[47]⟩] wr fun e w' => e = .returned (.int .i64 (-1)) ∧ w' = wr) := by
        have := index_any u wr
        rw [hm] at this
        exact this
      have HL : Hid (PL u = [u]) := PL_miss hm
      clear hm
      obtain ⟨fn, tmps, assign, body, hy, hR⟩ := hY pre u wr hJw ⟨[], by rw [HPL.out, HL.out]; simp⟩
      gi_wp2_with (refine ⟨trivial, ?_⟩; gi_at_call 126; refine (callsIn_wide.2 HI.out).mono ?_; rintro e w1 ⟨rfl, hw⟩; have hw2 := hw.symm; subst hw2; clear hw)
      refine hR.mono ?_
      rintro e W3 (⟨rfl, hJ3, hk3⟩ | ⟨rfl, hJx3⟩)
      · gi_wp2
        go_end0
        exact ⟨⟨_, rfl⟩, .inl (by rw [HPL.out, HL.out]; exact hJ3)⟩
      · gi_wp2
        go_end0
        exact ⟨⟨_, rfl⟩, .inr ⟨_, by rw [HPL.out, HL.out]; exact List.prefix_refl _, hJx3⟩⟩
    · have hge := Lib.index_ge u.data.toList sl
      obtain ⟨i, hi⟩ : ∃ i : Nat, Lib.index u.data.toList sl = (i : Int) := ⟨(Lib.index u.data.toList sl).toNat, by omega⟩
      have hlt := ix_lt hi
      have HI : Hid (Calls Tryz.prog 126 #[.string u, .string ⟨#[47]⟩] wr fun e w' => e = .returned (.int .i64 (i : Int)) ∧ w' = wr) := by
        have := index_any u wr
        rw [hi] at this
        exact this
      have HL : Hid (PL u = u.extract 0 i :: PL (u.extract (i + 1) u.size)) := PL_hit hi
      have hin : ¬ (i : Int) < 0 := by omega
      clear hm hge hi
      obtain ⟨fn, tmps, assign, body, hy, hR⟩ := hY pre (u.extract 0 i) wr hJw ⟨PL (u.extract (i + 1) u.size), by rw [HPL.out, HL.out]; simp⟩
      gi_wp2_with (refine ⟨trivial, ?_⟩; gi_at_call 126; refine (callsIn_wide.2 HI.out).mono ?_; rintro e w1 ⟨rfl, hw⟩; have hw2 := hw.symm; subst hw2; clear hw)
      refine hR.mono ?_
      rintro e W3 (⟨rfl, hJ3, hk3⟩ | ⟨rfl, hJx3⟩)
      · have hsq3 := hsq.kb hk3
        have hc3 := hsq3.s.cell
        have hf3 := hsq3.s.frozen
        have hcp3 := hsq3.p.cell
        have hlt1 : (i : Int) + 1 ≤ (u.size : Int) := by omega
        gi_wp2
        go_roundw
        case rel => exact ⟨pre ++ [u.extract 0 i], u.extract (i + 1) u.size, by rw [HPL.out, HL.out]; simp, by simp; omega, hsq3.set _, hJ _ _ _ _ hJ3 (grownBy_setCell' _ _ _) (fun r e => by cases e; rfl)⟩
        case measure => rw [szAt_of (hsq3.set _), szAt_of hsq]; simp; omega
      · gi_wp2
        refine bodyPost_ret (results_none rfl _ _ _) rfl ?_
        exact ⟨⟨_, rfl⟩, .inr ⟨_, ⟨PL (u.extract (i + 1) u.size), by rw [HPL.out, HL.out]; simp⟩, hJx3⟩⟩

end Go.Proofs.YtaoimkjcaienbaaGreatDoor.tt

namespace Go.Proofs.YtaoimkjcaienbaaGreatDoor.tt
open Go.ChangeShapes Go.WideShapes Go.ChangeAt Go.RowKit Go.Deep Go.Maps Go.Shelf Go.Proofs.YtaoimkjcaienbaaGreatDoor.rt
attribute [local go_sem] Oper.semAt_some
set_option linter.unusedVariables false
set_option linter.unusedSimpArgs false

/-! ### Trees of files: (*branch).at -/

def jo : List (List UInt8) → List UInt8
  | [] => []
  | [x] => x
  | x :: y :: r => x ++ 47 :: jo (y :: r)

theorem jo_snoc : ∀ (pre : List (List UInt8)) (x : List UInt8), pre ≠ [] → jo (pre ++ [x]) = jo pre ++ 47 :: x
  | [], _, h => absurd rfl h
  | [a], x, _ => by simp [jo]
  | a :: b :: r, x, _ => by
    have := jo_snoc (b :: r) x (by simp)
    simp only [List.cons_append] at this ⊢
    rw [jo, this, jo]
    simp

theorem spl_ne (cur l : List UInt8) : spl cur l ≠ [] := fun e => by
  have := spl_len l cur
  rw [e] at this
  simp at this

theorem jo_cons (x : List UInt8) (r : List (List UInt8)) (h : r ≠ []) : jo (x :: r) = x ++ 47 :: jo r := by
  cases r with
  | nil => exact absurd rfl h
  | cons y r => rfl

theorem jo_spl : ∀ (l cur : List UInt8), jo (spl cur l) = cur ++ l
  | [], cur => by simp [spl, jo]
  | b :: l, cur => by
    rw [spl]
    by_cases hb : b = 47
    · rw [if_pos hb, jo_cons _ _ (spl_ne _ _), jo_spl l [], hb]; simp
    · rw [if_neg hb, jo_spl l (cur ++ [b])]; simp

theorem spl_plain : ∀ (l cur : List UInt8), (∀ i : Nat, cur[i]? ≠ some 47) → ∀ x ∈ spl cur l, lst x = none
  | [], cur, h, x, hx => by
    simp [spl] at hx
    subst hx
    exact lst_no h
  | b :: l, cur, h, x, hx => by
    rw [spl] at hx
    by_cases hb : b = 47
    · rw [if_pos hb] at hx
      rcases List.mem_cons.1 hx with rfl | hx
      · exact lst_no h
      · exact spl_plain l [] (by simp) x hx
    · rw [if_neg hb] at hx
      refine spl_plain l (cur ++ [b]) (fun i e => ?_) x hx
      rcases Nat.lt_or_ge i cur.length with hi | hi
      · rw [List.getElem?_append_left hi] at e; exact h i e
      · rw [List.getElem?_append_right hi] at e
        cases hd : i - cur.length with
        | zero => rw [hd] at e; simp at e; exact hb e
        | succ m => rw [hd] at e; simp at e

theorem jo_app : ∀ (a b : List (List UInt8)), a ≠ [] → b ≠ [] → jo (a ++ b) = jo a ++ 47 :: jo b
  | [], _, h, _ => absurd rfl h
  | [x], b, _, hb => by rw [List.singleton_append, jo_cons _ _ hb]; rfl
  | x :: y :: r, b, _, hb => by
    have := jo_app (y :: r) b (by simp) hb
    simp only [List.cons_append] at this ⊢
    rw [jo, this, jo]
    simp

/-- Where the walk stands behind the pieces pre. -/
def nd (E : Nat → En) (B : Nat → Nat) (k rb : Nat) (pre : List ByteArray) : Nat := if pre = [] then rb + 1 else chd E B k (jo (pre.map (·.data.toList)))

theorem nd_all (E : Nat → En) (B : Nat → Nat) (k rb : Nat) (U : ByteArray) : nd E B k rb (PL U) = chd E B k U.data.toList := by
  have h : (PL U).map (·.data.toList) = spl [] U.data.toList := by unfold PL; rw [List.map_map]; exact (List.map_congr_left (fun x _ => by simp)).trans (List.map_id _)
  unfold nd
  rw [h, jo_spl, if_neg]
  · rfl
  · intro e
    rw [e] at h
    exact spl_ne [] U.data.toList h.symm

theorem nd_dead {E : Nat → En} {B : Nat → Nat} {k rb : Nat} (hT : Tr E k) {U : ByteArray} {pre : List ByteArray} (hp : pre <+: PL U) (h : nd E B k rb pre = 0) : chd E B k U.data.toList = 0 := by
  rw [← nd_all E B k rb U]
  obtain ⟨r, hr⟩ := hp
  unfold nd at h ⊢
  by_cases hn : pre = []
  · rw [if_pos hn] at h; cases h
  · rw [if_neg hn] at h
    rw [← hr, if_neg (by simp [hn])]
    by_cases hr0 : r = []
    · rw [hr0, List.append_nil]; exact h
    · rw [List.map_append, jo_app _ _ (by simpa using hn) (by simpa using hr0)]
      exact chd_dead hT _ _ _ (Nat.le_refl _) h

theorem PL_plain {U x : ByteArray} (h : x ∈ PL U) : lst x.data.toList = none ∧ x.size ≤ U.size := by
  unfold PL at h
  obtain ⟨l, hl, rfl⟩ := List.mem_map.1 h
  refine ⟨by simpa using spl_plain _ [] (by simp) l hl, ?_⟩
  have := spl_small _ _ l hl
  have e : (ByteArray.mk l.toArray).size = l.length := by simp [ByteArray.size]
  rw [e]
  simpa using this

end Go.Proofs.YtaoimkjcaienbaaGreatDoor.tt

namespace Go.Proofs.YtaoimkjcaienbaaGreatDoor.tt
open Go.ChangeShapes Go.WideShapes Go.ChangeAt Go.RowKit Go.Deep Go.Maps Go.Shelf Go.Proofs.YtaoimkjcaienbaaGreatDoor.rt
attribute [local go_sem] Oper.semAt_some
set_option linter.unusedVariables false
set_option linter.unusedSimpArgs false

/-! ### Trees of files: (*branch).at -/

theorem look_nil (x : ByteArray) (hx : x.size ≤ 1048576) (w : World) : (Instr.lookup 80 (.map none) (.string x) false).run Tryz.prog w = .ok (ptr 0) w := by
  have hK := string_keyed Tryz.underlying9
  rcases hK.find w (key9 x hx) [] (by simp) with ⟨f1, _⟩ | ⟨j, e0, _, f2, _⟩
  · simp [Instr.lookup, run_underlying Tryz.underlying80, hK.check w _ (key9 x hx), f1, Tryz.zeroValue77 w, Result.andThen, ptr]
  · simp at f2

theorem step {W : World} {E : Nat → En} {k rb rm N : Nat} {B M : Nat → Nat} (h : Br W E k rb rm N B M) (hT : Tr E k) {pre : List ByteArray} {b : Nat} (hb : nd E B k rb pre = b + 1) {x : ByteArray} (hx : lst x.data.toList = none) (hxs : x.size ≤ 1048576) :
    ∃ m, W.cell? ⟨b, 1, none⟩ = some (.map m) ∧ (Instr.lookup 80 (.map m) (.string x) false).run Tryz.prog W = .ok (ptr (nd E B k rb (pre ++ [x]))) W := by
  have hn2 : nd E B k rb (pre ++ [x]) = chd E B k (jo ((pre ++ [x]).map (·.data.toList))) := by unfold nd; rw [if_neg (by simp)]
  rw [hn2, List.map_append]
  by_cases hp : pre = []
  · subst hp
    have : rb = b := by simpa [nd] using hb
    subst this
    refine ⟨some rm, h.root1, ?_⟩
    rw [h.rootM.look x hxs, fM, if_pos hx]
    rfl
  · unfold nd at hb
    rw [if_neg hp] at hb
    rw [List.map_cons, List.map_nil, jo_snoc _ _ (by simpa using hp)]
    rcases chd_cases E B k (jo (pre.map (·.data.toList))) with ⟨j, hj, hpj, e⟩ | ⟨_, e⟩
    · obtain rfl : B j = b := by omega
      rw [← hpj]
      by_cases hk : (E j).kind = 1
      · obtain ⟨c, pm⟩ := h.dir j hj hk
        refine ⟨_, c, ?_⟩
        rw [pm.look x hxs, fM, if_pos hx]
        simp
      · refine ⟨_, h.leaf j hj hk, ?_⟩
        rw [look_nil x hxs, chd_leaf hT hj hk hx]
    · omega

end Go.Proofs.YtaoimkjcaienbaaGreatDoor.tt
