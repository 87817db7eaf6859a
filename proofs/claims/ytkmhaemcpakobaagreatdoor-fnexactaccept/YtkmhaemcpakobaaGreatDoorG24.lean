import Derived.Test.YtkmhaemcpakobaaGreatDoorG23
import Derived.Test.YtkmhaemcpakobaaGreatDoorG15
import Derived.Maps.AppendAt
import Derived.Test.YtkmhaemcpakobaaGreatDoorG22
namespace Go.Proofs.YtkmhaemcpakobaaGreatDoor.up
open Go.ChangeShapes Go.WideShapes Go.ChangeAt Go.RowKit Go.Deep
set_option linter.unusedVariables false
set_option linter.unusedSimpArgs false

/-! ### spec.UnpackTree -/

theorem good_head {l : List UInt8} {E : Nat → tt.En} {n : Nat} (h : Good l E n) : l = [76, 65, 82, 49] ++ (bf.num n ++ tt.pkL E n) := by
  rw [h.2.2, tt.pkB_yes h.1]
  unfold tt.hd
  rw [List.append_assoc]
theorem good_4 {l : List UInt8} {E : Nat → tt.En} {n : Nat} (h : Good l E n) : 4 ≤ l.length ∧ l.take 4 = [76, 65, 82, 49] ∧ l.drop 4 = bf.num n ++ tt.pkL E n := by
  rw [good_head h]
  refine ⟨by simp, by simp, by simp⟩

/-- None, where no tree is there. -/
theorem unR_none {w W : World} {l : List UInt8} {g : Nat} (hr : tt.RowE w.heap.size W (.slice (some ⟨g, 0, none⟩) 0 0) 0 (fun _ => default)) (h : ∀ E n, ¬ Good l E n) : UnR w W l (.returned (.tuple #[.slice (some ⟨g, 0, none⟩) 0 0, .bool false])) :=
  ⟨_, false, 0, _, rfl, hr, by omega, .inr ⟨rfl, rfl, h⟩⟩

theorem Sr.below {w w' : World} {p b N i : Nat} {bad : Bool} (h : Sr w p b N i bad) (hb : Below w.heap.size w w') : Sr w' p b N i bad := by
  have hp : p < w.heap.size := World.block_lt_of_cell? _ _ h.c0
  have e : ∀ j, w'.cell? ⟨p, j, none⟩ = w.cell? ⟨p, j, none⟩ := fun j => by unfold World.cell?; simp only [hb.block p hp]
  exact ⟨(e 0).trans h.c0, (e 1).trans h.c1, (e 2).trans h.c2, fun j => by rw [← h.fz j]; unfold World.frozen?; simp only [hb.block p hp], h.le⟩
theorem Sr.kept {w w' : World} {p b N i : Nat} {bad : Bool} (h : Sr w p b N i bad) (hb : w'.heap[p]? = w.heap[p]?) : Sr w' p b N i bad := by
  have e : ∀ j, w'.cell? ⟨p, j, none⟩ = w.cell? ⟨p, j, none⟩ := fun j => by unfold World.cell?; simp only [hb]
  exact ⟨(e 0).trans h.c0, (e 1).trans h.c1, (e 2).trans h.c2, fun j => by rw [← h.fz j]; unfold World.frozen?; simp only [hb], h.le⟩

/-- Where the loop stands. -/
structure SpI (wr : World) (bs p b : Nat) (l : List UInt8) (v : Value) (m c i' : Nat) (bad : Bool) (X : Nat → tt.En) : Prop where
  own : wr.ownsRow bs 77 4 v c (tt.enC X c)
  nn : v ≠ .slice none 0 0
  sm : tt.SmE c X
  m5 : m ≤ 500
  cm : c ≤ m
  sr : Sr wr p b l.length i' bad
  pr : ∀ E n, Good l E n → m = n ∧ c ≤ n ∧ (∀ k, k < c → X k = E k) ∧ tt.pkL E n = tt.pkL E c ++ l.drop i' ∧ bad = false

theorem sr_new (w : World) (b N T : Nat) (hN : 4 ≤ N) : Sr (w.alloc (.cells #[.slice (some ⟨b, 0, none⟩) N N, .int .i64 4, .bool false] T)) w.heap.size b N 4 false := by
  have hbk := heap_alloc_new w (.cells #[Value.slice (some ⟨b, 0, none⟩) N N, .int .i64 4, .bool false] T)
  refine ⟨?_, ?_, ?_, fun j => ?_, hN⟩
  · rw [World.cell?_alloc_new w _ T 0]; rfl
  · rw [World.cell?_alloc_new w _ T 1]; rfl
  · rw [World.cell?_alloc_new w _ T 2]; rfl
  · unfold World.frozen?; simp only [hbk]; simp

set_option maxRecDepth 100000 in
set_option maxHeartbeats 2000000 in
theorem sunp_short (b N : Nat) (l : List UInt8) (hNl : N = l.length) (hN : l.length ≤ 1048576) (w : World) (hB : By w b l) (hbw : b < w.heap.size) (h4 : N < 4) :
    Calls Tryz.prog 18 #[.slice (some ⟨b, 0, none⟩) N N] w fun e w' => UnR w w' l e ∧ Below w.heap.size w w' := by
  have HNL : Hid (N = l.length) := hNl
  have HBY : Hid (∀ W, Below w.heap.size w W → By W b l) := fun W hW => hB.below hW
  have hN2 : N ≤ 1048576 := by omega
  clear hNl
  have HRN : Hid (∀ W, Below (w.heap.size + 1) (w.alloc (.cells #[] 77)) W → tt.RowE w.heap.size W (.slice (some ⟨w.heap.size, 0, none⟩) 0 0) 0 (fun _ => default)) := fun W hW =>
    ⟨w.heap.size, 0, fun _ => undef, rfl, Nat.le_refl _, Nat.le_refl _, Nat.zero_le _, ⟨#[], (hW.block w.heap.size (by omega)).trans (heap_alloc_new w _), rfl, fun i hi => by omega⟩, fun i hi => by omega⟩
  have HB0 : Hid (Below w.heap.size w (w.alloc (.cells #[] 77))) := (Below.refl _ _).alloc (Nat.le_refl _) _
  have h4' : (N : Int) < 4 := by omega
  have HNG : Hid (∀ E n, ¬ Good l E n) := fun E n hg => by have := (good_4 hg).1; have := HNL.out; omega
  go_enter Tryz.func18, Tryz.ntmps18
  go_wp2
  go_ret2
  exact ⟨unR_none (HRN.out _ (Below.refl _ _)) HNG.out, HB0.out⟩

set_option maxRecDepth 100000 in
set_option maxHeartbeats 2000000 in
theorem sunp_head (b N : Nat) (l : List UInt8) (hNl : N = l.length) (hN : l.length ≤ 1048576) (w : World) (hB : By w b l) (hbw : b < w.heap.size) (h4 : ¬ N < 4) (hh : ¬ l.take 4 = [76, 65, 82, 49]) :
    Calls Tryz.prog 18 #[.slice (some ⟨b, 0, none⟩) N N] w fun e w' => UnR w w' l e ∧ Below w.heap.size w w' := by
  have HNL : Hid (N = l.length) := hNl
  have HBY : Hid (∀ W, Below w.heap.size w W → By W b l) := fun W hW => hB.below hW
  have hN2 : N ≤ 1048576 := by omega
  clear hNl
  have HRN : Hid (∀ W, Below (w.heap.size + 1) (w.alloc (.cells #[] 77)) W → tt.RowE w.heap.size W (.slice (some ⟨w.heap.size, 0, none⟩) 0 0) 0 (fun _ => default)) := fun W hW =>
    ⟨w.heap.size, 0, fun _ => undef, rfl, Nat.le_refl _, Nat.le_refl _, Nat.zero_le _, ⟨#[], (hW.block w.heap.size (by omega)).trans (heap_alloc_new w _), rfl, fun i hi => by omega⟩, fun i hi => by omega⟩
  have HB0 : Hid (Below w.heap.size w (w.alloc (.cells #[] 77))) := (Below.refl _ _).alloc (Nat.le_refl _) _
  have h4' : ¬ (N : Int) < 4 := by omega
  obtain ⟨X4, hX4⟩ : ∃ X : ByteArray, X = ⟨(l.take 4).toArray⟩ := ⟨_, rfl⟩
  have hX4s : X4.size = 4 := by
    rw [hX4]
    show ((l.take 4).toArray).size = 4
    rw [List.size_toArray, List.length_take]
    have := HNL.out
    omega
  have hcv4 : (convert 22 9 (.slice (some ⟨b, 0, none⟩) 4 N)).run Tryz.prog (w.alloc (.cells #[] 77)) = .ok (.string X4) (w.alloc (.cells #[] 77)) := by
    have hby : Lib.Bytes (w.alloc (.cells #[] 77)) b 0 X4 := fun j hj => by
      have hj4 : j < 4 := by omega
      have hjl : j < l.length := by have := HNL.out; omega
      have e1 := HBY.out _ HB0.out j (by have := HNL.out; omega)
      rw [Nat.zero_add, e1]
      congr 2
      have : X4[j] = l[j] := by
        subst hX4
        show ((l.take 4).toArray)[j] = _
        simp
      rw [this]
    have := Lib.run_convert_whole (P := Tryz.prog) (w.alloc (.cells #[] 77)) 22 5 9 Tryz.underlying22 Tryz.underlying5 Tryz.underlying9 b 0 X4 hby N
    rwa [hX4s] at this
  have hX4l : X4.toList = l.take 4 := by rw [hX4]; simp [ByteArray.toList_eq]
  have hne : (X4.toList == [76, 65, 82, 49]) = false := by rw [hX4l, beq_eq_false_iff_ne]; exact hh
  have HNG : Hid (∀ E n, ¬ Good l E n) := fun E n hg => hh (good_4 hg).2.1
  clear hX4 hX4l hh
  go_enter Tryz.func18, Tryz.ntmps18
  go_wp2
  go_ret2
  exact ⟨unR_none (HRN.out _ (Below.refl _ _)) HNG.out, HB0.out⟩

end Go.Proofs.YtkmhaemcpakobaaGreatDoor.up

namespace Go.Proofs.YtkmhaemcpakobaaGreatDoor.up
open Go.ChangeShapes Go.WideShapes Go.ChangeAt Go.RowKit Go.Deep
set_option linter.unusedVariables false
set_option linter.unusedSimpArgs false

theorem kx2_of {z : tt.En} (h : 1 ≤ z.kind ∧ z.kind ≤ 3) : ((tt.kB z).toNat : Int) % 16 = z.kind ∧ (((tt.kB z).toNat : Int) / 16 == 1) = z.exec := by
  obtain ⟨k, hk⟩ : ∃ k : Nat, z.kind = (k : Int) := ⟨z.kind.toNat, by omega⟩
  unfold tt.kB
  rw [hk, show (k : Int).toNat = k from rfl]
  have h3 : k = 1 ∨ k = 2 ∨ k = 3 := by omega
  cases z.exec <;> rcases h3 with rfl | rfl | rfl <;> exact ⟨by decide +kernel, by decide +kernel⟩
theorem sr_i {w : World} {p b N i : Nat} {bad : Bool} (h : Sr w p b N i bad) (hj : i + 1 ≤ N) : Sr (w.setCell ⟨p, 1, none⟩ (.int .i64 ((i : Int) + 1))) p b N (i + 1) bad := h.setI hj
theorem size_set (w : World) (a : Addr) (x : Value) : (w.setCell a x).heap.size = w.heap.size := by simp [World.setCell]

theorem lne_of {l : List UInt8} {N : Nat} (h : N = l.length) (h4 : ¬ N < 4) : l ≠ [] := by
  rintro rfl
  simp at h
  omega

theorem same_any (g z c b N c' : Nat) (l1 l2 : List UInt8) (w : World) (h1 : By w g l1) (h2 : By w b l2) (hz : z = l1.length) (hN : N = l2.length) :
    Calls Tryz.prog 36 #[.slice (some ⟨g, 0, none⟩) z c, .slice (some ⟨b, 0, none⟩) N c'] w fun e w' => e = .returned (.bool (decide (l1 = l2))) ∧ w' = w := by
  have hc : ∀ (k cc : Nat) (m : List UInt8), By w k m → (convert 22 9 (.slice (some ⟨k, 0, none⟩) m.length cc)).run Tryz.prog w = .ok (.string ⟨m.toArray⟩) w := fun k cc m hk => by
    have hB : Lib.Bytes w k 0 ⟨m.toArray⟩ := fun i hi => by
      have hi' : i < m.length := by simpa [ByteArray.size] using hi
      rw [Nat.zero_add, hk i hi']
      rfl
    have := Lib.run_convert_whole (P := Tryz.prog) w 22 5 9 Tryz.underlying22 Tryz.underlying5 Tryz.underlying9 k 0 ⟨m.toArray⟩ hB cc
    simpa [ByteArray.size] using this
  subst hz hN
  have c1 := hc g c l1 h1
  have c2 := hc b c' l2 h2
  have he : ((⟨l1.toArray⟩ : ByteArray).toList == (⟨l2.toArray⟩ : ByteArray).toList) = decide (l1 = l2) := by
    rw [ByteArray.toList_eq, ByteArray.toList_eq, Bool.eq_iff_iff]
    simp
  clear hc
  obtain ⟨z1, hz1⟩ : ∃ z, l1.length = z := ⟨_, rfl⟩
  obtain ⟨z2, hz2⟩ : ∃ z, l2.length = z := ⟨_, rfl⟩
  obtain ⟨s1, hs1⟩ : ∃ s : ByteArray, ⟨l1.toArray⟩ = s := ⟨_, rfl⟩
  obtain ⟨s2, hs2⟩ : ∃ s : ByteArray, ⟨l2.toArray⟩ = s := ⟨_, rfl⟩
  rw [hs1] at c1 he
  rw [hs2] at c2 he
  rw [hz1] at c1 ⊢
  rw [hz2] at c2 ⊢
  obtain ⟨bb, hbb⟩ : ∃ bb, decide (l1 = l2) = bb := ⟨_, rfl⟩
  rw [hbb] at he ⊢
  clear hz1 hz2 hs1 hs2 hbb h1 h2
  go_enter Tryz.func36, Tryz.ntmps36
  go_wp2
  go_ret
  first | exact ⟨rfl, rfl⟩ | exact ⟨by rw [he], rfl⟩

set_option maxRecDepth 100000 in
set_option maxHeartbeats 2000000 in
theorem sunp_box (b N : Nat) (l : List UInt8) (hNl : N = l.length) (hN : l.length ≤ 1048576) (w : World) (hB : By w b l) (hbw : b < w.heap.size) (h4 : ¬ N < 4) (hh : l.take 4 = [76, 65, 82, 49]) :
    Calls Tryz.prog 18 #[.slice (some ⟨b, 0, none⟩) N N] w fun e w' => UnR w w' l e ∧ Below w.heap.size w w' := by
  have HNL : Hid (N = l.length) := hNl
  have HBY : Hid (∀ W, Below w.heap.size w W → By W b l) := fun W hW => hB.below hW
  have hN2 : N ≤ 1048576 := by omega
  clear hNl
  have HRN : Hid (∀ W, Below (w.heap.size + 1) (w.alloc (.cells #[] 77)) W → tt.RowE w.heap.size W (.slice (some ⟨w.heap.size, 0, none⟩) 0 0) 0 (fun _ => default)) := fun W hW =>
    ⟨w.heap.size, 0, fun _ => undef, rfl, Nat.le_refl _, Nat.le_refl _, Nat.zero_le _, ⟨#[], (hW.block w.heap.size (by omega)).trans (heap_alloc_new w _), rfl, fun i hi => by omega⟩, fun i hi => by omega⟩
  have HB0 : Hid (Below w.heap.size w (w.alloc (.cells #[] 77))) := (Below.refl _ _).alloc (Nat.le_refl _) _
  have h4' : ¬ (N : Int) < 4 := by omega
  obtain ⟨X4, hX4⟩ : ∃ X : ByteArray, X = ⟨(l.take 4).toArray⟩ := ⟨_, rfl⟩
  have hX4s : X4.size = 4 := by
    rw [hX4]
    show ((l.take 4).toArray).size = 4
    rw [List.size_toArray, List.length_take]
    have := HNL.out
    omega
  have hcv4 : (convert 22 9 (.slice (some ⟨b, 0, none⟩) 4 N)).run Tryz.prog (w.alloc (.cells #[] 77)) = .ok (.string X4) (w.alloc (.cells #[] 77)) := by
    have hby : Lib.Bytes (w.alloc (.cells #[] 77)) b 0 X4 := fun j hj => by
      have hj4 : j < 4 := by omega
      have hjl : j < l.length := by have := HNL.out; omega
      have e1 := HBY.out _ HB0.out j (by have := HNL.out; omega)
      rw [Nat.zero_add, e1]
      congr 2
      have : X4[j] = l[j] := by
        subst hX4
        show ((l.take 4).toArray)[j] = _
        simp
      rw [this]
    have := Lib.run_convert_whole (P := Tryz.prog) (w.alloc (.cells #[] 77)) 22 5 9 Tryz.underlying22 Tryz.underlying5 Tryz.underlying9 b 0 X4 hby N
    rwa [hX4s] at this
  have hX4l : X4.toList = l.take 4 := by rw [hX4]; simp [ByteArray.toList_eq]
  have hee : (X4.toList == [76, 65, 82, 49]) = true := by rw [hX4l, hh]; rfl
  clear hX4 hX4l hX4s
  go_enter Tryz.func18, Tryz.ntmps18
  go_upto_region 4 with fail
  obtain ⟨w1, hw1⟩ : ∃ W, W = w.alloc (.cells #[] 77) := ⟨_, rfl⟩
  have hs1 : w1.heap.size = w.heap.size + 1 := by rw [hw1, World.size_alloc]
  rw [← hw1, ← hs1] at HRN
  rw [← hw1] at HB0 ⊢
  have hbp : b ≠ w1.heap.size := by omega
  clear hw1 hcv4 hee
  have HUP : Hid (∀ W, Below w1.heap.size w1 W → Below w.heap.size w W) := fun W hW => HB0.out.trans (hW.mono (by omega))
  have hs1l : w.heap.size < w1.heap.size := by omega
  clear hs1
  have HBY1 : Hid (∀ W, Below w1.heap.size w1 W → By W b l) := fun W hW => HBY.out W (HUP.out W hW)
  have HSR0 : Hid (∀ T, Sr (w1.alloc (.cells #[.slice (some ⟨b, 0, none⟩) N N, .int .i64 4, .bool false] T)) w1.heap.size b l.length 4 false) := fun T => by have := sr_new w1 b N T (by omega); rw [HNL.out] at this ⊢; exact this
  have HBA : Hid (∀ ob, Below w1.heap.size w1 (w1.alloc ob)) := fun ob => (Below.refl _ _).alloc (Nat.le_refl _) _
  have HNU : Hid (∀ W i bad, Below w1.heap.size w1 W → Sr W w1.heap.size b l.length i bad → Calls Tryz.prog 33 #[.pointer (some ⟨w1.heap.size, 0, none⟩)] W fun e w' => SnR W w' w1.heap.size b l i bad e) := fun W i bad hW hS => read_any b _ i bad l hbp hN W hS (HBY1.out W hW)
  have HTX : Hid (∀ W i bad, Below w1.heap.size w1 W → Sr W w1.heap.size b l.length i bad → Calls Tryz.prog 34 #[.pointer (some ⟨w1.heap.size, 0, none⟩)] W fun e w' => StR W w' w1.heap.size b l i bad e) := fun W i bad hW hS => rtext_any b _ i bad l hbp hN W hS (HBY1.out W hW)
  have HBG : Hid (∀ W W', Below w1.heap.size w1 W → W.grownBy W' (some w1.heap.size) → Below w1.heap.size w1 W') := fun W W' h1 h2 => h1.grown h2 h1.size (fun k hk => by cases hk; exact Nat.le_refl _)
  have HLN : Hid (l ≠ []) := lne_of HNL.out h4
  go_wp2_with (go_at_call 33; refine (HNU.out _ _ _ (HBA.out _) (HSR0.out _)).mono ?_; rintro e w2 ⟨m, i2, bad2, rfl, hm2, hi2, hs2, hb2, hg2, hp2⟩; refine Hid.out ?_)
  refine Lib.hid ?_
  have HB2 : Hid (Below w1.heap.size w1 w2) := HBG.out _ _ (HBA.out _) hg2
  have hs12 : w1.heap.size < w2.heap.size := by have := hg2.size; simp only [World.size_alloc] at this; omega
  have HP2 : Hid (∀ E n, Good l E n → n ≤ 500 ∧ m = n ∧ l.drop i2 = tt.pkL E n ∧ bad2 = false) := fun E n hg => by
    have hn5 := (tt.treeB_tr' hg.1).1
    obtain ⟨e1, e2, e3⟩ := hp2 n (tt.pkL E n) (good_4 hg).2.2 (by omega)
    exact ⟨hn5, e1, e2, e3⟩
  clear hp2 hb2 hg2
  by_cases hm5 : 500 < m
  · have hm5' : (500 : Int) < (m : Int) := by omega
    have HNG : Hid (∀ E n, ¬ Good l E n) := fun E n hg => by obtain ⟨e1, e2, _⟩ := HP2.out E n hg; omega
    clear hs2
    go_wp2
    go_ret2
    exact ⟨unR_none (HRN.out _ HB2.out) HNG.out, HUP.out _ HB2.out⟩
  have hm5' : ¬ (500 : Int) < (m : Int) := by omega
  go_upto_region 8 with fail
  obtain ⟨bs, hbs⟩ : ∃ bs, bs = w2.heap.size := ⟨_, rfl⟩
  have HO0 : Hid ((w2.alloc (.cells #[] 77)).ownsRow bs 77 4 (.slice (some ⟨w2.heap.size, 0, none⟩) 0 0) 0 []) := by rw [hbs]; exact tt.made_own w2 0 (by omega) #[] rfl
  have HI0 : Hid (SpI (w2.alloc (.cells #[] 77)) bs w1.heap.size b l (.slice (some ⟨w2.heap.size, 0, none⟩) 0 0) m 0 i2 bad2 (fun _ => default)) := by
    refine ⟨HO0.out, (by intro e; cases e), fun i hi => by omega, by omega, by omega, hs2.below ((Below.refl _ _).alloc (Nat.le_refl _) _), fun E n hg => ?_⟩
    obtain ⟨e1, e2, e3, e4⟩ := HP2.out E n hg
    exact ⟨e2, by omega, fun k hk => by omega, by rw [e3]; rfl, e4⟩
  have HBI0 : Hid (Below w1.heap.size w1 (w2.alloc (.cells #[] 77))) := HB2.out.alloc HB2.out.size _
  have HS0 : Hid (bs ≤ (w2.alloc (.cells #[] 77)).heap.size) := by show _ ≤ _; rw [World.size_alloc]; omega
  have hpb : w1.heap.size < bs := by omega
  clear hs2 hbs
  go_wp2
  go_loopw [6, 7, 8, 9] (fun x v _ _ wr => ∃ (r c i' : Nat) (bad : Bool) (X : Nat → tt.En), x = .int .i64 (r : Int) ∧ c + r = m ∧ SpI wr bs w1.heap.size b l v m c i' bad X ∧ Below w1.heap.size w1 wr ∧ bs ≤ wr.heap.size) (fun x _ _ _ _ => (intOf x).toNat)
  case atStart => exact ⟨m, 0, i2, bad2, _, rfl, by omega, HI0.out, HBI0.out, HS0.out⟩
  case round =>
    obtain ⟨r, c, i', bad, X, rfl, hrc, hI, hbel, hbsw⟩ := hrel
    have HII : Hid (SpI wr bs w1.heap.size b l u7 m c i' bad X) := hI
    have HBE : Hid (Below w1.heap.size w1 wr) := hbel
    obtain ⟨c0, c1, c2, fz, hle⟩ := hI.sr
    have f1 := fz 1
    clear hI hbel c0 fz
    cases bad with
    | true =>
      have HNG : Hid (∀ E n, ¬ Good l E n) := fun E n hg => by have := (HII.out.pr E n hg).2.2.2.2; cases this
      by_cases hr0 : 0 < r
      · have hr' : (0 : Int) < (r : Int) := by omega
        go_wp2
        go_ret2
        exact ⟨unR_none (HRN.out _ HBE.out) HNG.out, HUP.out _ HBE.out⟩
      · obtain rfl : r = 0 := by omega
        go_wp2
        go_ret2
        exact ⟨unR_none (HRN.out _ HBE.out) HNG.out, HUP.out _ HBE.out⟩
    | false =>
      by_cases hr0 : 0 < r
      · have hr' : (0 : Int) < (r : Int) := by omega
        by_cases hil : i' < l.length
        · have hiN : ¬ (N : Int) ≤ (i' : Int) := by have := HNL.out; omega
          obtain ⟨y, hy⟩ : ∃ y, y = l[i'] := ⟨_, rfl⟩
          have hcell : wr.cell? ⟨b, i', none⟩ = some (.int .u8 (y.toNat : Int)) := by rw [hy]; exact HBY1.out _ HBE.out i' hil
          have hyb : (y.toNat : Int) < 256 := by have := y.toNat_lt; omega
          have HDR : Hid (l.drop i' = y :: l.drop (i' + 1)) := by show _ = _; rw [hy]; exact List.drop_eq_getElem_cons hil
          have hiN2 : (i' : Int) < (N : Int) := by omega
          have hiN3 : (i' : Int) + 1 < 4194304 := by omega
          obtain ⟨at7, cp7, hv7⟩ := own_shape HII.out.own
          subst hv7
          clear hy
          have HSR : Hid (Sr wr w1.heap.size b l.length i' false) := HII.out.sr
          have HOW : Hid (wr.ownsRow bs 77 4 (.slice at7 c cp7) c (tt.enC X c)) := HII.out.own
          have HNN : Hid (Value.slice at7 c cp7 ≠ .slice none 0 0) := HII.out.nn
          have HSZ : Hid (∀ a x, (wr.setCell a x).heap.size = wr.heap.size) := fun a x => size_set _ _ _
          go_upto_region 16 with fail
          obtain ⟨vk, hvk⟩ : ∃ v, (y.toNat : Int) % 16 = v := ⟨_, rfl⟩
          obtain ⟨vx, hvx⟩ : ∃ v, ((y.toNat : Int) / 16 == 1) = v := ⟨_, rfl⟩
          rw [hvk, hvx]
          obtain ⟨W0, hW0⟩ : ∃ W, W = (wr.setCell ⟨w1.heap.size, 1, none⟩ (.int .i64 ((i' : Int) + 1))).alloc (.cells #[.string ⟨#[]⟩, .int .i64 vk, .string ⟨#[]⟩, .bool vx] 77) := ⟨_, rfl⟩
          rw [← hW0]
          obtain ⟨eb, heb⟩ : ∃ eb, eb = wr.heap.size := ⟨_, rfl⟩
          rw [← heb]
          have hpe : w1.heap.size ≠ eb := by omega
          have hwe : w1.heap.size ≤ eb := by omega
          have HG0 : Hid (wr.grownBy W0 (some w1.heap.size)) := by
            rw [hW0]
            exact grown_bel (grown_set (grown_refl _ _) _ _) ((Below.refl _ _).alloc (Nat.le_refl _) _)
          have HE0 : Hid (W0.heap[eb]? = some (.cells #[.string ⟨#[]⟩, .int .i64 vk, .string ⟨#[]⟩, .bool vx] 77 (0, 0))) := by
            show _ = _
            rw [hW0, heb, ← size_set wr ⟨w1.heap.size, 1, none⟩ (.int .i64 ((i' : Int) + 1))]
            exact heap_alloc_new _ _
          have HS0' : Hid (Sr W0 w1.heap.size b l.length (i' + 1) false) := by rw [hW0]; exact (sr_i HSR.out (by omega)).below ((Below.refl _ _).alloc (Nat.le_refl _) _)
          have HBW0 : Hid (Below w1.heap.size w1 W0) := HBG.out _ _ HBE.out HG0.out
          have heW : eb < W0.heap.size := by rw [hW0, World.size_alloc, size_set]; omega
          have hbe : bs ≤ eb := by omega
          have hew : wr.heap.size ≤ eb := by omega
          clear hW0 heb c1 c2 f1 hcell
          go_wp2_with (go_at_call 34; refine (HTX.out _ _ _ HBW0.out HS0'.out).mono ?_; rintro e w3 ⟨S1, i3, bad3, rfl, hz1, hi3, hs3, hbb3, hg3, hp3⟩; have hk3 := hg3.block eb heW (fun e => hpe (Option.some.inj e).symm); obtain ⟨q0, q1, q2, q3, qf⟩ := c4 (hk3.trans HE0.out); have qf0 := qf 0; refine Hid.out ?_)
          refine Lib.hid ?_
          have HE3 : Hid (w3.heap[eb]? = some (.cells #[.string ⟨#[]⟩, .int .i64 vk, .string ⟨#[]⟩, .bool vx] 77 (0, 0))) := hk3.trans HE0.out
          have HP3 : Hid (∀ T tail, l.drop (i' + 1) = bf.num T.length ++ T ++ tail → T.length ≤ 1048576 → S1.data.toList = T ∧ l.drop i3 = tail ∧ bad3 = false) := fun T tail h1 h2 => hp3 T tail h1 h2 (by first | rfl | trivial)
          have HE3s : Hid ((w3.setCell ⟨eb, 0, none⟩ (.string S1)).heap[eb]? = some (.cells #[.string S1, .int .i64 vk, .string ⟨#[]⟩, .bool vx] 77 (0, 0))) := set4 HE3.out 0 _
          have HB3 : Hid (Below w1.heap.size w1 w3) := HBG.out _ _ HBW0.out hg3
          have HB3s : Hid (Below w1.heap.size w1 (w3.setCell ⟨eb, 0, none⟩ (.string S1))) := HB3.out.setCell hwe _
          have HS3s : Hid (Sr (w3.setCell ⟨eb, 0, none⟩ (.string S1)) w1.heap.size b l.length i3 bad3) := hs3.kept (setO hpe _ _)
          have HG3 : Hid (wr.grownBy w3 (some w1.heap.size)) := HG0.out.trans hg3
          have heW3 : eb < (w3.setCell ⟨eb, 0, none⟩ (.string S1)).heap.size := by rw [size_set]; have := hg3.size; omega
          clear hp3 hs3 hk3 qf
          go_wp2_with (go_at_call 34; refine (HTX.out _ _ _ HB3s.out HS3s.out).mono ?_; rintro e w4 ⟨S2, i4, bad4, rfl, hz2, hi4, hs4, hbb4, hg4, hp4⟩; have hk4 := hg4.block eb heW3 (fun e => hpe (Option.some.inj e).symm); obtain ⟨r0, r1, r2, r3, rf⟩ := c4 (hk4.trans HE3s.out); have rf2 := rf 2; refine Hid.out ?_)
          refine Lib.hid ?_
          have HE4s : Hid ((w4.setCell ⟨eb, 2, none⟩ (.string S2)).heap[eb]? = some (.cells #[.string S1, .int .i64 vk, .string S2, .bool vx] 77 (0, 0))) := set4 (hk4.trans HE3s.out) 2 _
          have HB4 : Hid (Below w1.heap.size w1 w4) := HBG.out _ _ HB3s.out hg4
          have HB4s : Hid (Below w1.heap.size w1 (w4.setCell ⟨eb, 2, none⟩ (.string S2))) := HB4.out.setCell hwe _
          have HS4s : Hid (Sr (w4.setCell ⟨eb, 2, none⟩ (.string S2)) w1.heap.size b l.length i4 bad4) := hs4.kept (setO hpe _ _)
          have HP4 : Hid (∀ T tail, l.drop i3 = bf.num T.length ++ T ++ tail → T.length ≤ 1048576 → bad3 = false → S2.data.toList = T ∧ l.drop i4 = tail ∧ bad4 = false) := hp4
          have HOB : Hid (∀ k, (Value.slice at7 c cp7).ownBlock = some k → k ≠ eb) := fun k hk => by have := (HOW.out.lt k hk).2; omega
          have HO3 : Hid (w3.ownsRow bs 77 4 (.slice at7 c cp7) c (tt.enC X c)) := own_grown HOW.out HG3.out hpb
          have HO3s : Hid ((w3.setCell ⟨eb, 0, none⟩ (.string S1)).ownsRow bs 77 4 (.slice at7 c cp7) c (tt.enC X c)) := HO3.out.kept (grown_set (grown_refl w3 (some eb)) _ _) (.inr fun e => HOB.out eb e rfl)
          have HO4 : Hid (w4.ownsRow bs 77 4 (.slice at7 c cp7) c (tt.enC X c)) := own_grown HO3s.out hg4 hpb
          have HO4s : Hid ((w4.setCell ⟨eb, 2, none⟩ (.string S2)).ownsRow bs 77 4 (.slice at7 c cp7) c (tt.enC X c)) := HO4.out.kept (grown_set (grown_refl w4 (some eb)) _ _) (.inr fun e => HOB.out eb e rfl)
          have HZ4 : Hid ((w4.setCell ⟨eb, 2, none⟩ (.string S2)).heap.size = w4.heap.size) := size_set _ _ _
          have hbs4 : bs ≤ w4.heap.size := by have h1 := hg4.size; rw [size_set] at h1; have h2 := HG3.out.size; omega
          have hbb34 : bad3 = true → bad4 = true := hbb4
          have HX1 : Hid (S1.size ≤ l.length) := hz1
          have HX2 : Hid (S2.size ≤ l.length) := hz2
          clear hp4 hs4 hk4 rf hg4 hg3 q0 q1 q2 q3 qf0 hbb4 hbb34 hbb3 hz1 hz2
          go_upto_region 18 with fail
          obtain ⟨W5, hW5⟩ : ∃ W, W = w4.setCell ⟨eb, 2, none⟩ (.string S2) := ⟨_, rfl⟩
          rw [← hW5] at HE4s HB4s HS4s HO4s HZ4 ⊢
          have hs5 : bs ≤ W5.heap.size := by rw [HZ4.out]; exact hbs4
          clear hW5 r0 r1 r2 r3 rf2 HZ4
          obtain ⟨t0, t1, t2, t3, tf⟩ := c4 HE4s.out
          have HO5 : Hid (∀ ob, (W5.alloc ob).ownsRow bs 77 4 (.slice at7 c cp7) c (tt.enC X c)) := fun ob => own_below HO4s.out ((Below.refl _ _).alloc (Nat.le_refl _) _)
          have HSB : Hid (∀ ob, bs ≤ (W5.alloc ob).heap.size) := fun ob => by rw [World.size_alloc]; omega
          have HS5 : Hid (∀ ob, Sr (W5.alloc ob) w1.heap.size b l.length i4 bad4) := fun ob => HS4s.out.below ((Below.refl _ _).alloc (Nat.le_refl _) _)
          have HBA5 : Hid (∀ ob, Below w1.heap.size w1 (W5.alloc ob)) := fun ob => HB4s.out.alloc HB4s.out.size _
          have hc5 : c ≤ 500 := by have := HII.out.m5; have := HII.out.cm; omega
          have HC2 : Hid (c ≤ 2000000) := by show _ ≤ _; omega
          have HNX : Hid (tt.enC (setX X c ⟨S1, vk, S2, vx⟩) (c + 1) = tt.enC X c ++ [.string S1, .int .i64 vk, .string S2, .bool vx]) := by
            show _ = _
            rw [tt.enC_succ, setX_at, tt.enC_congr (fun i hi => setX_lt hi)]
          clear tf
          go_wp2_with (first
            | (at_builtin; refine tt.app_ent _ rfl _ _ rfl bs _ _ _ rfl (HO5.out _) HNN.out ⟨W5.heap.size, 0, none⟩ 1 (.string S1) (.int .i64 vk) (.string S2) (.bool vx) rfl (tt.four_at _ _ rfl _ _ _ _ _) (tt.four_one S1 vk S2 vx) HC2.out (HSB.out _) ?_; intro v6 w6 hown6 hv6 hg6; refine Hid.out ?_)
            | go_in)
          refine Lib.hid ?_
          have hob : ∀ k, (Value.slice at7 c cp7).ownBlock = some k → bs ≤ k := fun k hk => ((HO5.out (.cells #[.string S1, .int .i64 vk, .string S2, .bool vx] 77)).lt k hk).1
          have HB6 : Hid (Below w1.heap.size w1 w6) := (HBA5.out _).grown hg6 (HBA5.out _).size (fun k hk => by have := hob k hk; omega)
          have HS6 : Hid (bs ≤ w6.heap.size) := Nat.le_trans (HSB.out _) hg6.size
          have HNI : Hid (SpI w6 bs w1.heap.size b l v6 m (c + 1) i4 bad4 (setX X c ⟨S1, vk, S2, vx⟩)) := by
            refine ⟨by rw [HNX.out]; exact hown6, hv6, fun k hk => ?_, HII.out.m5, by omega, (HS5.out _).kept (hg6.block _ (World.block_lt_of_cell? _ _ (HS5.out _).c0) (fun e => by have := hob _ e.symm; omega)), fun E n hg => ?_⟩
            · by_cases hkc : k < c
              · rw [setX_lt hkc]; exact HII.out.sm k hkc
              · obtain rfl : k = c := by omega
                rw [setX_at]
                exact ⟨by have := HX1.out; show S1.size ≤ _; omega, by have := HX2.out; show S2.size ≤ _; omega⟩
            · obtain ⟨e1, e2, e3, e4, _⟩ := HII.out.pr E n hg
              obtain ⟨q, hq⟩ := pkL_pre E (c + 1) n (by omega)
              have hdr : l.drop i' = tt.pkE (E c) ++ q := by
                rw [e4, tt.pkL, List.append_assoc] at hq
                exact List.append_cancel_left hq
              have hsm := hg.2.1 c (by omega)
              have hk := tt.kind_of (tt.treeB_tr' hg.1).2 (show c < n by omega)
              rw [HDR.out] at hdr
              have hz1 : y :: l.drop (i' + 1) = tt.kB (E c) :: (bf.num (E c).path.size ++ ((E c).path.data.toList ++ (bf.num (E c).data.size ++ ((E c).data.data.toList ++ q)))) := by
                rw [hdr]
                unfold tt.pkE
                simp only [List.append_assoc, List.cons_append, List.nil_append]
              have hyz : y = tt.kB (E c) := (List.cons.inj hz1).1
              have hz := (List.cons.inj hz1).2
              have hpl' : (E c).path.data.toList.length = (E c).path.size := by simp
              have hdl' : (E c).data.data.toList.length = (E c).data.size := by simp
              obtain ⟨g1, hz2, hb3⟩ := HP3.out (E c).path.data.toList (bf.num (E c).data.size ++ ((E c).data.data.toList ++ q)) (by rw [hz, hpl']; simp only [List.append_assoc]) (by have := hsm.1; omega)
              obtain ⟨g2, hz3, hb4⟩ := HP4.out (E c).data.data.toList q (by rw [hz2, hdl']; simp only [List.append_assoc]) (by have := hsm.2; omega) hb3
              have hkx := kx2_of hk
              rw [← hyz, hvk, hvx] at hkx
              have f1 : S1 = (E c).path := ByteArray.ext (Array.toList_inj.1 g1)
              have f2 : S2 = (E c).data := ByteArray.ext (Array.toList_inj.1 g2)
              refine ⟨e1, by omega, fun k hk' => ?_, by rw [hq, hz3], hb4⟩
              by_cases hkc : k < c
              · rw [setX_lt hkc]; exact e3 k hkc
              · obtain rfl : k = c := by omega
                rw [setX_at, f1, f2, hkx.1, hkx.2]
          clear hown6 hv6 hg6 hob t0 t1 t2 t3
          have hr1 : (r : Int) - 1 = ((r - 1 : Nat) : Int) := by omega
          go_wp2
          go_roundw
          case rel => exact ⟨r - 1, c + 1, i4, bad4, _, by first | rw [hr1] | go_num, by omega, HNI.out, HB6.out, HS6.out⟩
          case measure => simp [intOf]; omega
        · have hiN : (N : Int) ≤ (i' : Int) := by have := HNL.out; omega
          have HNG : Hid (∀ E n, ¬ Good l E n) := fun E n hg => by
            obtain ⟨e1, e2, e3, e4, _⟩ := HII.out.pr E n hg
            rw [List.drop_eq_nil_of_le (by omega), List.append_nil] at e4
            obtain ⟨q, hq⟩ := pkL_pre E (c + 1) n (by omega)
            rw [tt.pkL, e4, List.append_assoc] at hq
            have h2 : ([] : List UInt8) = tt.pkE (E c) ++ q := List.append_cancel_left ((List.append_nil (tt.pkL E c)).trans hq)
            exact pkE_ne (E c) (List.append_eq_nil_iff.1 h2.symm).1
          go_wp2
          go_ret2
          exact ⟨unR_none (HRN.out _ HBE.out) HNG.out, HUP.out _ HBE.out⟩
      · obtain rfl : r = 0 := by omega
        have HOUT : Hid (Out wr bs l u7 c X) := ⟨HII.out.own, HII.out.nn, HII.out.sm, by have := HII.out.m5; omega, fun h => absurd h HLN.out, fun E n hg => by obtain ⟨e1, e2, e3, _⟩ := HII.out.pr E n hg; exact ⟨by omega, fun k hk => e3 k (by omega)⟩⟩
        obtain ⟨gt, ct, ft, hveq, hgb, hnc, hcm2, hrowt, hEt⟩ := tt.own_rowE HOUT.out.own HOUT.out.nn
        subst hveq
        have hc5 : c ≤ 500 := HOUT.out.c5
        have HROW : Hid (tt.RowE w.heap.size wr (.slice (some ⟨gt, 0, none⟩) c ct) c X) := ⟨gt, ct, ft, rfl, by omega, hnc, hcm2, hrowt, hEt⟩
        have HST : Hid (Calls Tryz.prog 35 #[.slice (some ⟨gt, 0, none⟩) c ct] wr fun e w' => e = .returned (.bool (tt.treeB X c)) ∧ Below wr.heap.size wr w') := tt.stree_any X gt 0 c ct wr hEt HOUT.out.sm (by omega) hnc hcm2
        have HPK : Hid (∀ W, Below wr.heap.size wr W → Calls Tryz.prog 37 #[.slice (some ⟨gt, 0, none⟩) c ct] W fun e w' => (∃ g c' z, e = .returned (.slice (some ⟨g, 0, none⟩) z c') ∧ tt.Pkd W w' (tt.pkB X c) g c' z) ∧ Below W.heap.size W w') := fun W hW => tt.spack_any X gt 0 c ct W (hEt.below hW) HOUT.out.sm (by omega) hnc hcm2
        clear hgb hnc hcm2 hrowt hEt
        cases ht : tt.treeB X c with
        | false =>
          rw [ht] at HST
          have HNG : Hid (∀ E n, ¬ Good l E n) := fun E n hg => by
            obtain ⟨e1, e2⟩ := HOUT.out.pr E n hg
            subst e1
            rw [treeB_congr e2, hg.1] at ht
            cases ht
          clear ht
          go_wp2_with (go_at_call 35; refine HST.out.mono ?_; rintro e w5 ⟨rfl, hl5⟩)
          have HB5 : Hid (Below w1.heap.size w1 w5) := HBE.out.trans (hl5.mono HBE.out.size)
          go_ret2
          exact ⟨unR_none (HRN.out _ HB5.out) HNG.out, HUP.out _ HB5.out⟩
        | true =>
          rw [ht] at HST
          clear ht
          go_wp2_with (first
            | (go_at_call 35; refine HST.out.mono ?_; rintro e w5 ⟨rfl, hl5⟩)
            | (go_at_call 37; refine (HPK.out _ hl5).mono ?_; rintro e w6 ⟨⟨g6, c6, z6, rfl, hz6, hbf6⟩, hl6⟩; have HZ6 : Hid (z6 = (tt.pkB X c).length) := hz6; clear hz6; refine Hid.out ?_))
          refine Lib.hid ?_
          have HB5 : Hid (Below w1.heap.size w1 w5) := HBE.out.trans (hl5.mono HBE.out.size)
          have HB6 : Hid (Below w1.heap.size w1 w6) := HB5.out.trans (hl6.mono HB5.out.size)
          have HROW6 : Hid (tt.RowE w.heap.size w6 (.slice (some ⟨gt, 0, none⟩) c ct) c X) := rowE_below (rowE_below HROW.out hl5) hl6
          have HEQ : Hid (Calls Tryz.prog 36 #[.slice (some ⟨g6, 0, none⟩) z6 c6, .slice (some ⟨b, 0, none⟩) N N] w6 fun e w' => e = .returned (.bool (decide (tt.pkB X c = l))) ∧ w' = w6) := same_any g6 z6 c6 b N N _ _ w6 (bf_by hbf6) (HBY1.out w6 HB6.out) HZ6.out HNL.out
          clear hbf6
          by_cases hpk : tt.pkB X c = l
          · rw [decide_eq_true hpk] at HEQ
            have HR : Hid (UnR w w6 l (.returned (.tuple #[.slice (some ⟨gt, 0, none⟩) c ct, .bool true]))) := unR_yes HROW6.out HOUT.out hpk
            clear hpk
            go_wp2_with (go_at_call 36; refine HEQ.out.mono ?_; rintro e w7 ⟨rfl, hw7⟩; obtain rfl := hw7.symm)
            go_ret2
            exact ⟨HR.out, HUP.out _ HB6.out⟩
          · rw [decide_eq_false hpk] at HEQ
            have HNG : Hid (∀ E n, ¬ Good l E n) := HOUT.out.bad hpk
            clear hpk
            go_wp2_with (go_at_call 36; refine HEQ.out.mono ?_; rintro e w7 ⟨rfl, hw7⟩; obtain rfl := hw7.symm)
            go_ret2
            exact ⟨unR_none (HRN.out _ HB6.out) HNG.out, HUP.out _ HB6.out⟩

theorem sunp_any (b N : Nat) (l : List UInt8) (hNl : N = l.length) (hN : l.length ≤ 1048576) (w : World) (hB : By w b l) (hbw : b < w.heap.size) :
    Calls Tryz.prog 18 #[.slice (some ⟨b, 0, none⟩) N N] w fun e w' => UnR w w' l e ∧ Below w.heap.size w w' := by
  by_cases h4 : N < 4
  · exact sunp_short b N l hNl hN w hB hbw h4
  by_cases hh : l.take 4 = [76, 65, 82, 49]
  · exact sunp_box b N l hNl hN w hB hbw h4 hh
  · exact sunp_head b N l hNl hN w hB hbw h4 hh

end Go.Proofs.YtkmhaemcpakobaaGreatDoor.up

namespace Go.Proofs.YtkmhaemcpakobaaGreatDoor.ac
open Go.ChangeShapes Go.WideShapes Go.ChangeAt Go.RowKit Go.Deep
set_option linter.unusedVariables false
set_option linter.unusedSimpArgs false

/-! ### Accept: the program's, and what the specification's wants -/

theorem fieldO (V : Int) (a1 a2 : Option Addr) (n1 c1 n2 c2 : Nat) (W : World) : (Instr.field 58 (.agg #[.int .i64 V, .slice a1 n1 c1, .slice a2 n2 c2]) 0).run Tryz.prog W = .ok (.int .i64 V) W := by kernel_rfl

set_option maxHeartbeats 1000000 in
set_option maxRecDepth 100000 in
theorem iac_any (mi s path : ByteArray) (bb : Nat) (l : List UInt8) (ks : List ty.Tr) (a : Option Addr) (cap : Nat) (w : World) (hs : s.size ≤ 1048576) (hl : l.length ≤ 1048576) (hB : up.By w bb l) (hbb : bb < w.heap.size) (hR : ty.SrcTr none w a ks) (hkn : ks.length ≤ 1048576) (hks : ∀ x ∈ ks, ty.U64 x.fN ∧ ty.U64 x.fE) (hT : wd.TabB w) (hP : mt.PwT w) (hE : mt.EC w) (hML : mt.ML w) (hm : tt.ML w) :
    Calls Tryz.prog 9 #[.agg #[.string mi, .string s, .slice (some ⟨bb, 0, none⟩) l.length l.length], .string path, .slice a ks.length cap] w fun e w' => e = .returned (.int .i64 (acV s path ks l)) ∧ Below w.heap.size w w' := by
  have HB1 : Hid (∀ ob, Below w.heap.size w (w.alloc ob)) := fun ob => (Below.refl _ _).alloc (Nat.le_refl _) _
  have HOP : Hid (∀ W, Below w.heap.size w W → Calls Tryz.prog 23 #[.agg #[.string mi, .string s, .slice (some ⟨bb, 0, none⟩) l.length l.length], .string path, .slice a ks.length cap] W fun e w' => (∃ a1 n1 c1 a2 n2 c2, e = .returned (.agg #[.int .i64 (acV s path ks l), .slice a1 n1 c1, .slice a2 n2 c2])) ∧ Below W.heap.size W w') := fun W h => iop_any mi s path bb l ks a cap W hs hl (hB.below h) (by have := h.size; omega) (hR.below h) hkn hks (hT.below h) (hP.below h) (hE.below h) (hML.below h) (hm.below h)
  obtain ⟨N, hN⟩ : ∃ x, l.length = x := ⟨_, rfl⟩
  obtain ⟨K, hK⟩ : ∃ x, ks.length = x := ⟨_, rfl⟩
  obtain ⟨V, hV⟩ : ∃ x, acV s path ks l = x := ⟨_, rfl⟩
  rw [hN, hK, hV] at HOP ⊢
  clear hs hl hB hbb hR hkn hks hT hP hE hML hm hN hK hV
  go_enter Tryz.func9, Tryz.ntmps9
  go_wp2_with (go_at_call 23; refine (HOP.out _ (HB1.out _)).mono ?_; rintro e w1 ⟨⟨a1, n1, c1, a2, n2, c2, rfl⟩, hl1⟩; have hfd := fieldO V a1 a2 n1 c1 n2 c2 w1)
  go_ret
  exact ⟨by first | rfl | simp, (HB1.out _).trans (hl1.mono (HB1.out _).size)⟩

/-- A row of texts as it can be: nil, or one of its own. -/
def RowOk (w : World) (av : Option Addr) (cv : Nat) (l : List ByteArray) : Prop := (av = none ∧ l = [] ∧ cv = 0) ∨ ∃ g, av = some ⟨g, 0, none⟩ ∧ l.length ≤ cv ∧ cv ≤ maxLen ∧ st.Ss w av l.length l
theorem RowOk.below {w w' : World} {av : Option Addr} {cv : Nat} {l : List ByteArray} (h : RowOk w av cv l) (hb : Below w.heap.size w w') : RowOk w' av cv l := by
  rcases h with h | ⟨g, h1, h2, h3, h4⟩
  · exact .inl h
  · exact .inr ⟨g, h1, h2, h3, h4.below hb⟩
theorem RowOk.ss {w : World} {av : Option Addr} {cv : Nat} {l : List ByteArray} (h : RowOk w av cv l) : st.Ss w av l.length l := by
  rcases h with ⟨_, h, _⟩ | ⟨g, h1, h2, h3, h4⟩
  · rw [h]; exact .inl rfl
  · exact h4
def RdT (M : mt.Mf) (R : Bool) (w w' : World) (e : Ending) : Prop := ∃ av cv, e = .returned (.tuple #[.agg #[.string M.path, .string M.sum, .int .i64 M.z, .slice av M.l.length cv, .string M.key, .int .u64 (M.sig : Int)], .bool R]) ∧ RowOk w' av cv M.l ∧ Below w.heap.size w w'
theorem rdt_of {s : ByteArray} {w w' : World} {e : Ending} (h : mt.RmR w w' s e) : RdT (mt.rdM s.data.toList) (mt.rdB s.data.toList) w w' e := by
  obtain ⟨vr, rfl, ho, hl⟩ := h
  have hc : ∀ a c, vr = .slice a (mt.rdM s.data.toList).l.length c → RowOk w' a c (mt.rdM s.data.toList).l → RdT (mt.rdM s.data.toList) (mt.rdB s.data.toList) w w' (.returned (.tuple #[.agg #[.string (mt.rdM s.data.toList).path, .string (mt.rdM s.data.toList).sum, .int .i64 (mt.rdM s.data.toList).z, vr, .string (mt.rdM s.data.toList).key, .int .u64 ((mt.rdM s.data.toList).sig : Int)], .bool (mt.rdB s.data.toList)])) := fun a c e hr => ⟨a, c, by rw [e], hr, hl⟩
  rcases ho.2 with ⟨rfl, h0⟩ | ⟨g, cap, cur, rfl, hbg, hg, hnc, hcm, hcs, htk⟩
  · have hl0 : (mt.rdM s.data.toList).l = [] := List.eq_nil_of_length_eq_zero h0
    exact hc none 0 (by rw [hl0]; rfl) (.inl ⟨rfl, hl0, rfl⟩)
  · refine hc (some ⟨g, 0, none⟩) cap rfl (.inr ⟨g, rfl, hnc, hcm, .inr ⟨g, 0, rfl, fun i hi => ?_⟩⟩)
    have h1 := ho.cells (g := g) rfl i (.string (st.atS (mt.rdM s.data.toList).l i)) (by
      rw [List.getElem?_map, List.getElem?_eq_getElem hi]
      unfold st.atS
      rw [List.getElem?_eq_getElem hi]
      rfl)
    rw [addr_add] at h1
    exact h1

set_option maxHeartbeats 1000000 in
set_option maxRecDepth 100000 in
theorem refsN_any (b n cap : Nat) (w : World) : Calls Tryz.prog 20 #[.slice (some ⟨b, 0, none⟩) n cap, .slice none 0 0] w fun e w' => e = .returned (.slice (some ⟨w.heap.size, 0, none⟩) 0 0) ∧ Below w.heap.size w w' := by
  have HB1 : Hid (∀ ob, Below w.heap.size w (w.alloc ob)) := fun ob => (Below.refl _ _).alloc (Nat.le_refl _) _
  go_enter Tryz.func20, Tryz.ntmps20
  go_wp2
  go_loopw [5, 6] (fun v y wr => v = .slice (some ⟨w.heap.size, 0, none⟩) 0 0 ∧ y = .int .i64 0 ∧ Below w.heap.size w wr) (fun _ _ _ => 0)
  case atStart => exact ⟨rfl, rfl, HB1.out _⟩
  case round =>
    obtain ⟨rfl, rfl, hbel⟩ := hrel
    go_wp2
    go_ret
    exact ⟨rfl, hbel⟩

set_option maxHeartbeats 1000000 in
set_option maxRecDepth 100000 in
theorem sameN_any (a1 : Option Addr) (c1 : Nat) (w : World) : Calls Tryz.prog 19 #[.slice a1 0 c1, .slice none 0 0] w fun e w' => e = .returned (.bool true) ∧ Below w.heap.size w w' := by
  go_enter Tryz.func19, Tryz.ntmps19
  go_wp2
  go_loopw [5] (fun y wr => y = .int .i64 0 ∧ Below w.heap.size w wr) (fun _ _ => 0)
  case atStart => exact ⟨rfl, Below.refl _ _⟩
  case round =>
    obtain ⟨rfl, hbel⟩ := hrel
    go_wp2
    go_ret
    exact ⟨rfl, hbel⟩

theorem srefs2_any (E : Nat → tt.En) (b n cap : Nat) (l : List ByteArray) (av : Option Addr) (cv : Nat) (w : World) (hR : tt.EnR w b 0 n E) (hS : tt.SmE n E) (hn : n ≤ 1048576) (hr : RowOk w av cv l) (hx : ∀ x ∈ toL l, x.length ≤ 1048576) (hl : l.length ≤ 300) :
    Calls Tryz.prog 20 #[.slice (some ⟨b, 0, none⟩) n cap, .slice av l.length cv] w fun e w' => (∃ a2 c2, e = .returned (.slice a2 ((rf.rfs E n (toL l)).map mt.BA).length c2) ∧ ty.SrcS none w' a2 ((rf.rfs E n (toL l)).map mt.BA)) ∧ Below w.heap.size w w' := by
  rcases hr with ⟨rfl, rfl, rfl⟩ | ⟨g, rfl, h1, h2, h3⟩
  · refine (refsN_any b n cap w).mono ?_
    rintro e w' ⟨rfl, hl'⟩
    have h0 : rf.rfs E n (toL []) = [] := List.eq_nil_of_length_eq_zero (by have := rfs_len E n (toL []); simp [toL] at this; simpa [toL] using this)
    rw [h0]
    exact ⟨⟨_, _, rfl, .inl ⟨rfl, rfl⟩⟩, hl'⟩
  · have hst := strR_of h3 h1 h2
    obtain ⟨bb, o, c, e, _, _, hc⟩ := hst
    cases e
    have := rf.srefs_any E b 0 n cap (toL l) g 0 cv w hR hS hn hc hx (by rw [toL_len]; omega)
    rw [toL_len] at this
    refine this.mono ?_
    rintro e w' ⟨⟨v, rfl, hv⟩, hl'⟩
    obtain ⟨bb2, o2, c2, rfl, _, _, hc2⟩ := hv
    refine ⟨⟨some ⟨bb2, o2, none⟩, c2, by rw [List.length_map], .inr ⟨bb2, o2, rfl, ty.Okb.free _ _, fun i x hx => ?_⟩⟩, hl'⟩
    rw [List.getElem?_map] at hx
    obtain ⟨y, hy, rfl⟩ := Option.map_eq_some_iff.1 hx
    exact hc2 i y hy

theorem same2_any (L : List ByteArray) (a2 : Option Addr) (c2 : Nat) (l : List ByteArray) (av : Option Addr) (cv : Nat) (w : World) (h1 : ty.SrcS none w a2 L) (h2 : L.length ≤ l.length) (hl : l.length ≤ 300) (hr : RowOk w av cv l) :
    Calls Tryz.prog 19 #[.slice a2 L.length c2, .slice av l.length cv] w fun e w' => e = .returned (.bool (so.eqT L (toL l))) ∧ Below w.heap.size w w' := by
  rcases hr with ⟨rfl, rfl, rfl⟩ | ⟨g, rfl, k1, k2, k3⟩
  · have hL : L = [] := List.eq_nil_of_length_eq_zero (by simpa using h2)
    subst hL
    exact sameN_any a2 c2 w
  · have := so.same_texts a2 c2 L (toL l) (.slice (some ⟨g, 0, none⟩) (toL l).length cv) w h1 (by omega) (strR_of k3 k1 k2)
    rw [toL_len] at this
    exact this

end Go.Proofs.YtkmhaemcpakobaaGreatDoor.ac
