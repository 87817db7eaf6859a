import Derived.Test.YthbgpfjbfkiljaaGreatDoorG29
import Derived.Deep.RegionHeld3
import Derived.Test.YthbgpfjbfkiljaaGreatDoorG20
import Derived.Test.YthbgpfjbfkiljaaGreatDoorG21
import Derived.Test.YthbgpfjbfkiljaaGreatDoorG26
import Derived.Test.YthbgpfjbfkiljaaGreatDoorG28
set_option linter.unusedVariables false
set_option linter.unusedSimpArgs false
set_option maxRecDepth 100000
set_option maxHeartbeats 16000000
namespace Go.Proofs.YthbgpfjbfkiljaaGreatDoor.so
open Go.ChangeShapes Go.WideShapes Go.ChangeAt Go.RowKit Go.Deep Go.Shelf Go.Maps
theorem l19i_any (p f : ByteArray) (a1 : Option Addr) (n1 c1 : Nat) (R : Bool) (hp : p.size ≤ 1048576) (hf : f.size ≤ 1048576) (w : World)
  (HTR : Hid (Calls Tryz.prog 52 #[.slice a1 n1 c1] w fun e w' => e = .returned (.bool R) ∧ Below w.heap.size w w')) :
  Calls Tryz.prog 46 #[.string p, .slice a1 n1 c1, .string f] w fun e w' => e = .returned (.bool (wd.aokB p && (frB f && R))) ∧ Below w.heap.size w w' := by
 have HP := Lib.hid fun (W : World) => wd.aspec_any p hp W
 have HF := Lib.hid fun (W : World) => wd.aspec_any f hf W
 cases hn : wd.aokB p with
 | false =>
  rw [hn] at HP
  clear hn
  go_enter Tryz.func46, Tryz.ntmps46
  go_wp2_with (go_at_call 48; refine (HP.out _).mono ?_; rintro e w1 ⟨rfl, rfl⟩)
  go_ret
  exact ⟨rfl, Below.refl _ _⟩
 | true =>
  rw [hn] at HP
  cases R with
  | false =>
   go_enter Tryz.func46, Tryz.ntmps46
   go_wp2_with (first
    | (go_at_call 48; refine (HP.out _).mono ?_; rintro e w1 ⟨rfl, rfl⟩)
    | (go_at_call 52; refine HTR.out.mono ?_; rintro e w2 ⟨rfl, hl2⟩))
   go_ret
   exact ⟨by simp, hl2⟩
  | true =>
   by_cases he : f = ⟨#[]⟩
   ·subst he
    have hE : frB ⟨#[]⟩ = true := by simp [frB]
    rw [hE]
    go_enter Tryz.func46, Tryz.ntmps46
    go_wp2_with (first
     | (go_at_call 48; refine (HP.out _).mono ?_; rintro e w1 ⟨rfl, rfl⟩)
     | (go_at_call 52; refine HTR.out.mono ?_; rintro e w2 ⟨rfl, hl2⟩))
    go_ret
    exact ⟨rfl, hl2⟩
   ·have hE : frB f = wd.aokB f := by simp [frB, he]
    have hsb : ¬ f.toList = [] := by
     rw [ByteArray.toList_eq]
     exact fun e => he (by apply ByteArray.ext; apply Array.ext'; exact e)
    have hsi : f.toList.isEmpty = false := by simpa using hsb
    rw [hE]
    clear hE he HP HF
    have HA : Hid (∀ t W, t.size ≤ 1048576 → Calls Tryz.prog 48 #[.string t] W fun e w' => e = .returned (.bool (wd.aokB t)) ∧ w' = W) := fun t W h => wd.aspec_any t h W
    go_enter Tryz.func46, Tryz.ntmps46
    go_wp2_with (first
     | (go_at_call 48; refine (HA.out _ _ (by assumption)).mono ?_; rintro e w1 ⟨rfl, rfl⟩; first | rw [hn] | skip)
     | (go_at_call 52; refine HTR.out.mono ?_; rintro e w2 ⟨rfl, hl2⟩))
    go_ret
    exact ⟨by first | rfl | simp, hl2⟩
theorem wo_st {x : ty.Wo} (h : stB x.fStore = false) : woB x = false := by unfold woB; rw [h]; rfl
theorem wo_ps {x : ty.Wo} (h : pf.psB (x.fProfiles.map prX) = false) : woB x = false := by unfold woB; rw [h]; simp
theorem wo_pl {x : ty.Wo} (h : ¬ x.fPending.length ≤ 20) : woB x = false := by unfold woB begP; rw [decide_eq_false h]; simp
theorem wo_nl {x : ty.Wo} (h : ¬ x.fNexts.length ≤ 20) : woB x = false := by unfold woB begN; rw [decide_eq_false h]; simp
theorem wo_pe {x : ty.Wo} {i : Nat} {y : ty.Pe} (hy : x.fPending[i]? = some y) (h : peB y = false) : woB x = false := by
 have : x.fPending.all peB = false := by rw [List.all_eq_false]; exact ⟨y, List.mem_of_getElem? hy, by rw [h]; decide⟩
 unfold woB begP
 rw [this]
 simp
theorem wo_nx {x : ty.Wo} {i : Nat} {y : ty.Nx} (hy : x.fNexts[i]? = some y) (h : nxB y = false) : woB x = false := by
 have : x.fNexts.all nxB = false := by rw [List.all_eq_false]; exact ⟨y, List.mem_of_getElem? hy, by rw [h]; decide⟩
 unfold woB begN
 rw [this]
 simp
theorem wo_ge {x : ty.Wo} {i k : Nat} {y : ty.Pr} {g : ty.Ge} (hy : x.fProfiles[i]? = some y) (hg : y.fGens[k]? = some g) (h : hasB x.fStore g.fPath = false) : woB x = false := by
 have h1 : genB x.fStore y.fGens = false := by unfold genB; rw [List.all_eq_false]; exact ⟨g, List.mem_of_getElem? hg, by rw [h]; decide⟩
 have : gensB x.fStore x.fProfiles = false := by unfold gensB; rw [List.all_eq_false]; exact ⟨y, List.mem_of_getElem? hy, by rw [h1]; decide⟩
 unfold woB
 rw [this]
 simp
theorem wo_yes {x : ty.Wo} (h0 : stB x.fStore = true) (h1 : pf.psB (x.fProfiles.map prX) = true) (h2 : x.fPending.length ≤ 20) (h3 : x.fNexts.length ≤ 20) (h4 : ∀ (i : Nat) (y : ty.Pe), i < x.fPending.length → x.fPending[i]? = some y → peB y = true)
  (h5 : ∀ (i : Nat) (y : ty.Nx), i < x.fNexts.length → x.fNexts[i]? = some y → nxB y = true) (h6 : ∀ (i : Nat) (y : ty.Pr), i < x.fProfiles.length → x.fProfiles[i]? = some y → ∀ (k : Nat) (g : ty.Ge), k < y.fGens.length → y.fGens[k]? = some g → hasB x.fStore g.fPath = true) : woB x = true := by
 have e4 : x.fPending.all peB = true := by rw [List.all_eq_true]; intro y hy; obtain ⟨i, hi⟩ := List.getElem?_of_mem hy; exact h4 i y (List.getElem?_eq_some_iff.1 hi).1 hi
 have e5 : x.fNexts.all nxB = true := by rw [List.all_eq_true]; intro y hy; obtain ⟨i, hi⟩ := List.getElem?_of_mem hy; exact h5 i y (List.getElem?_eq_some_iff.1 hi).1 hi
 have e6 : gensB x.fStore x.fProfiles = true := by
  unfold gensB genB
  rw [List.all_eq_true]
  intro y hy
  obtain ⟨i, hi⟩ := List.getElem?_of_mem hy
  rw [List.all_eq_true]
  intro g hg
  obtain ⟨k, hk⟩ := List.getElem?_of_mem hg
  exact h6 i y (List.getElem?_eq_some_iff.1 hi).1 hi k g (List.getElem?_eq_some_iff.1 hk).1 hk
 unfold woB begP begN
 rw [h0, h1, e4, e5, e6, decide_eq_true h2, decide_eq_true h3]
 rfl
theorem swo_any (lo : Nat) (x : ty.Wo) (a0 a1 a2 a3 : Option Addr) (c0 c1 c2 c3 : Nat) (w : World) (h0 : ty.SrcIt (some lo) w a0 x.fStore) (h1 : ty.SrcPr (some lo) w a1 x.fProfiles) (h2 : ty.SrcPe (some lo) w a2 x.fPending) (h3 : ty.SrcNx (some lo) w a3 x.fNexts) (hw : ty.wt1Wo x ≤ 1048576) :
  Calls Tryz.prog 21 #[.agg #[.slice a0 x.fStore.length c0, .slice a1 x.fProfiles.length c1, .slice a2 x.fPending.length c2, .slice a3 x.fNexts.length c3]] w fun e w' => e = .returned (.bool (woB x)) ∧ Below w.heap.size w w' := by
 have hws : ty.wtIt x.fStore ≤ 1048576 ∧ ty.wtPr x.fProfiles ≤ 1048576 ∧ ty.wtPe x.fPending ≤ 1048576 ∧ ty.wtNx x.fNexts ≤ 1048576 := by unfold ty.wt1Wo at hw; omega
 have hln : x.fStore.length ≤ 1048576 ∧ x.fProfiles.length ≤ 1048576 ∧ x.fPending.length ≤ 1048576 ∧ x.fNexts.length ≤ 1048576 := by
  have := ty.wtIt_len x.fStore; have := ty.wtPr_len x.fProfiles; have := ty.wtPe_len x.fPending; have := ty.wtNx_len x.fNexts; omega
 have HS := Lib.hid fun (W : World) (h : Below w.heap.size w W) => sstore_any lo a0 c0 x.fStore W (h0.below h) hws.1
 have HP : Hid (∀ W, Below w.heap.size w W → Calls Tryz.prog 45 #[.slice a1 x.fProfiles.length c1] W fun e w' => e = .returned (.bool (pf.psB (x.fProfiles.map prX))) ∧ Below W.heap.size W w') := fun W h => by
  have := pf.sps_any (x.fProfiles.map prX) a1 c1 W (src_prof (h1.below h)) (by rw [wt_prof]; exact hws.2.1)
  rwa [List.length_map] at this
 have HFD : Hid (∀ W q, Below w.heap.size w W → Calls Tryz.prog 49 #[.slice a0 x.fStore.length c0, .string q] W fun e w' => (∃ r : Int, e = .returned (.int .i64 r) ∧ (0 ≤ r ∧ hasB x.fStore q = true ∨ r = -1 ∧ hasB x.fStore q = false)) ∧ w' = W) := fun W q h => sfind_any a0 c0 x.fStore q W (h0.any.below h) hln.1
 have HIT : Hid (∀ (y : ty.Pe) W, y ∈ x.fPending → ∀ (b1 o1 : Nat), tt.EnR W b1 o1 y.fTree.length (enT y.fTree) → Calls Tryz.prog 46 #[.string y.fPath, .slice (some ⟨b1, o1, none⟩) y.fTree.length y.fTree.length, .string y.fFrom] W fun e w' => e = .returned (.bool (peB y)) ∧ Below W.heap.size W w') := fun y W hy b1 o1 hE => by
  have hwy := ty.wtPe_mem hy
  unfold ty.wt1Pe at hwy
  have hle := ty.wtEt_len y.fTree
  exact l19i_any y.fPath y.fFrom _ _ _ _ (by omega) (by omega) W (tt.stree_any (enT y.fTree) b1 o1 y.fTree.length y.fTree.length W hE (small_enr (by omega)) (by omega) (Nat.le_refl _) (by unfold maxLen; omega))
 have HNX : Hid (∀ y ∈ x.fNexts, y.fName.size ≤ 1048576 ∧ y.fPath.size ≤ 1048576) := fun y hy => by
  have := ty.wtNx_mem hy
  unfold ty.wt1Nx at this
  omega
 have HGN : Hid (∀ y ∈ x.fProfiles, y.fGens.length ≤ 1048576) := fun y hy => by
  have := ty.wtPr_mem hy
  have := ty.wtGe_len y.fGens
  unfold ty.wt1Pr at *
  omega
 have HS1 := Lib.hid h1.any
 have HS2 := Lib.hid h2
 have HS3 := Lib.hid h3.any
 have F0 : Hid (stB x.fStore = false → woB x = false) := wo_st
 have F1 : Hid (pf.psB (x.fProfiles.map prX) = false → woB x = false) := wo_ps
 have F2 : Hid (¬ x.fPending.length ≤ 20 → woB x = false) := wo_pl
 have F3 : Hid (¬ x.fNexts.length ≤ 20 → woB x = false) := wo_nl
 have F4 : Hid (∀ (i : Nat) (y : ty.Pe), x.fPending[i]? = some y → peB y = false → woB x = false) := fun i y h h' => wo_pe h h'
 have F5 : Hid (∀ (i : Nat) (y : ty.Nx), x.fNexts[i]? = some y → nxB y = false → woB x = false) := fun i y h h' => wo_nx h h'
 have F6 : Hid (∀ (i k : Nat) (y : ty.Pr) (g : ty.Ge), x.fProfiles[i]? = some y → y.fGens[k]? = some g → hasB x.fStore g.fPath = false → woB x = false) := fun i k y g h h' h2 => wo_ge h h' h2
 have FY : Hid (stB x.fStore = true → pf.psB (x.fProfiles.map prX) = true → x.fPending.length ≤ 20 → x.fNexts.length ≤ 20 → (∀ (i : Nat) (y : ty.Pe), i < x.fPending.length → x.fPending[i]? = some y → peB y = true) → (∀ (i : Nat) (y : ty.Nx), i < x.fNexts.length → x.fNexts[i]? = some y → nxB y = true) → (∀ (i : Nat) (y : ty.Pr), i < x.fProfiles.length → x.fProfiles[i]? = some y → ∀ (k : Nat) (g : ty.Ge), k < y.fGens.length → y.fGens[k]? = some g → hasB x.fStore g.fPath = true) → woB x = true) := wo_yes
 clear h0 h1 h2 h3 hw hws
 generalize x.fPending = pe at *
 generalize x.fNexts = nx at *
 generalize hpr : x.fProfiles = pr at *
 generalize x.fStore = ps at *
 generalize woB x = V at *
 clear hpr
 generalize stB ps = B0 at *
 generalize pf.psB (pr.map prX) = B1 at *
 obtain ⟨n0, hn0⟩ : ∃ n, ps.length = n := ⟨_, rfl⟩
 obtain ⟨n1, hn1⟩ : ∃ n, pr.length = n := ⟨_, rfl⟩
 obtain ⟨n2, hn2⟩ : ∃ n, pe.length = n := ⟨_, rfl⟩
 obtain ⟨n3, hn3⟩ : ∃ n, nx.length = n := ⟨_, rfl⟩
 have HNN : Hid (ps.length = n0 ∧ pr.length = n1 ∧ pe.length = n2 ∧ nx.length = n3) := ⟨hn0, hn1, hn2, hn3⟩
 rw [hn0] at HS HFD hln ⊢
 rw [hn1] at HP FY hln ⊢
 rw [hn2] at F2 FY hln ⊢
 rw [hn3] at F3 FY hln ⊢
 obtain ⟨l0, l1, l2, l3⟩ := hln
 have HB0 : Hid (Below w.heap.size w (w.alloc (Obj.cells #[.slice a0 n0 c0, .slice a1 n1 c1, .slice a2 n2 c2, .slice a3 n3 c3] 39))) := (Below.refl _ _).alloc (Nat.le_refl _) _
 have HW0 : Hid (WoC (w.alloc (Obj.cells #[.slice a0 n0 c0, .slice a1 n1 c1, .slice a2 n2 c2, .slice a3 n3 c3] 39)) w.heap.size (.slice a0 n0 c0) (.slice a1 n1 c1) (.slice a2 n2 c2) (.slice a3 n3 c3)) := ⟨by simp [go_sem], by simp [go_sem], by simp [go_sem], by simp [go_sem]⟩
 clear hn0 hn1 hn2 hn3
 cases B0 with
 | false =>
  have HV : Hid (V = false) := F0.out rfl
  go_enter Tryz.func21, Tryz.ntmps21
  go_wp2_with (go_at_call 44; refine (HS.out _ HB0.out).mono ?_; rintro e w1 ⟨rfl, hl1⟩)
  go_ret
  exact ⟨by rw [HV.out]; rfl, HB0.out.trans (hl1.mono HB0.out.size)⟩
 | true =>
  cases B1 with
  | false =>
   have HV : Hid (V = false) := F1.out rfl
   go_enter Tryz.func21, Tryz.ntmps21
   go_wp2_with (first
    | (go_at_call 44; refine (HS.out _ HB0.out).mono ?_; rintro e w1 ⟨rfl, hl1⟩; obtain ⟨k0, k1, k2, k3⟩ := HW0.out.below hl1; have hb1 : Below w.heap.size w w1 := HB0.out.trans (hl1.mono HB0.out.size); clear hl1)
    | (go_at_call 45; refine (HP.out _ hb1).mono ?_; rintro e w2 ⟨rfl, hl2⟩))
   go_ret
   exact ⟨by rw [HV.out]; rfl, hb1.trans (hl2.mono hb1.size)⟩
  | true =>
   by_cases g2 : n2 ≤ 20
   rotate_left
   ·have g2' : (20 : Int) < (n2 : Int) := by omega
    have HV : Hid (V = false) := F2.out g2
    go_enter Tryz.func21, Tryz.ntmps21
    go_wp2_with (first
     | (go_at_call 44; refine (HS.out _ HB0.out).mono ?_; rintro e w1 ⟨rfl, hl1⟩; obtain ⟨k0, k1, k2, k3⟩ := HW0.out.below hl1; have hb1 : Below w.heap.size w w1 := HB0.out.trans (hl1.mono HB0.out.size); clear hl1)
     | (go_at_call 45; refine (HP.out _ hb1).mono ?_; rintro e w2 ⟨rfl, hl2⟩; have hwc2 := WoC.below ⟨k0, k1, k2, k3⟩ hl2; obtain ⟨m0, m1, m2, m3⟩ := hwc2; have hb2 : Below w.heap.size w w2 := hb1.trans (hl2.mono hb1.size); clear hl2 k0 k1 k2 k3))
    go_ret
    exact ⟨by rw [HV.out]; rfl, hb2⟩
   have g2' : ¬ (20 : Int) < (n2 : Int) := by omega
   by_cases g3 : n3 ≤ 20
   rotate_left
   ·have g3' : (20 : Int) < (n3 : Int) := by omega
    have HV : Hid (V = false) := F3.out g3
    go_enter Tryz.func21, Tryz.ntmps21
    go_wp2_with (first
     | (go_at_call 44; refine (HS.out _ HB0.out).mono ?_; rintro e w1 ⟨rfl, hl1⟩; obtain ⟨k0, k1, k2, k3⟩ := HW0.out.below hl1; have hb1 : Below w.heap.size w w1 := HB0.out.trans (hl1.mono HB0.out.size); clear hl1)
     | (go_at_call 45; refine (HP.out _ hb1).mono ?_; rintro e w2 ⟨rfl, hl2⟩; have hwc2 := WoC.below ⟨k0, k1, k2, k3⟩ hl2; obtain ⟨m0, m1, m2, m3⟩ := hwc2; have hb2 : Below w.heap.size w w2 := hb1.trans (hl2.mono hb1.size); clear hl2 k0 k1 k2 k3))
    go_ret
    exact ⟨by rw [HV.out]; rfl, hb2⟩
   have g3' : ¬ (20 : Int) < (n3 : Int) := by omega
   have HFY : Hid ((∀ (i : Nat) (y : ty.Pe), i < n2 → pe[i]? = some y → peB y = true) → (∀ (i : Nat) (y : ty.Nx), i < n3 → nx[i]? = some y → nxB y = true) → (∀ (i : Nat) (y : ty.Pr), i < n1 → pr[i]? = some y → ∀ (k : Nat) (g : ty.Ge), k < y.fGens.length → y.fGens[k]? = some g → hasB ps g.fPath = true) → V = true) := FY.out rfl rfl g2 g3
   clear F0 F1 F2 F3 FY
   go_enter Tryz.func21, Tryz.ntmps21
   go_wp2_with (first
    | (go_at_call 44; refine (HS.out _ HB0.out).mono ?_; rintro e w1 ⟨rfl, hl1⟩; obtain ⟨k0, k1, k2, k3⟩ := HW0.out.below hl1; have hb1 : Below w.heap.size w w1 := HB0.out.trans (hl1.mono HB0.out.size); clear hl1)
    | (go_at_call 45; refine (HP.out _ hb1).mono ?_; rintro e w2 ⟨rfl, hl2⟩; have hwc2 := WoC.below ⟨k0, k1, k2, k3⟩ hl2; obtain ⟨m0, m1, m2, m3⟩ := hwc2; have hb2 : Below w.heap.size w w2 := hb1.trans (hl2.mono hb1.size); clear hl2 k0 k1 k2 k3))
   have HW2 : Hid (WoC w2 w.heap.size (.slice a0 n0 c0) (.slice a1 n1 c1) (.slice a2 n2 c2) (.slice a3 n3 c3)) := ⟨m0, m1, m2, m3⟩
   have HB2 : Hid (Below w.heap.size w w2) := hb2
   clear m0 m1 m2 m3 hb2 hb1 g2' g3' HS HP
   go_loopw [3] (fun v wr => ∃ i : Nat, i ≤ n2 ∧ v = .int .i64 (i : Int) ∧ (∀ (j : Nat) (y : ty.Pe), j < i → pe[j]? = some y → peB y = true) ∧ WoC wr w.heap.size (.slice a0 n0 c0) (.slice a1 n1 c1) (.slice a2 n2 c2) (.slice a3 n3 c3) ∧ Below w.heap.size w wr) (fun v _ => n2 - (intOf v).toNat)
   case atStart => exact ⟨0, Nat.zero_le _, rfl, fun j y h => by omega, HW2.out, HB2.out⟩
   case round =>
    obtain ⟨i, hi, rfl, hpok, hwc, hbel⟩ := hrel
    have HPK := Lib.hid hpok
    have HBE : Hid (Below w.heap.size w wr) := hbel
    have HWC := Lib.hid hwc
    obtain ⟨m0, m1, m2, m3⟩ := hwc
    clear hpok
    by_cases hin : i < n2
    ·have hin' : (i : Int) < (n2 : Int) := by omega
     have hi0 : (0 : Int) ≤ (i : Int) := by omega
     obtain ⟨y, hy⟩ : ∃ y, pe[i]? = some y := ⟨_, List.getElem?_eq_getElem (by rw [HNN.out.2.2.1]; exact hin)⟩
     rcases HS2.out with h | ⟨b, o, rfl, _, hc⟩
     ·cases h.1
     obtain ⟨b4, c4, q0, q1, q2, s4, t4⟩ := (hc i y hy).below hbel
     have hc4 : c4 = y.fTree.length := t4 lo rfl
     subst hc4
     rcases s4 with h | ⟨b5, o5, rfl, _, hc5⟩
     ·cases h.1
     have HX : Hid (pe[i]? = some y) := hy
     have HCI : Hid (∀ W, Below w.heap.size w W → Below wr.heap.size wr W → Calls Tryz.prog 46 #[.string y.fPath, .slice (some ⟨b5, o5, none⟩) y.fTree.length y.fTree.length, .string y.fFrom] W fun e w' => e = .returned (.bool (peB y)) ∧ Below W.heap.size W w') := fun W _ h => HIT.out y W (List.mem_of_getElem? hy) b5 o5 ((src_enr hc5).below h)
     have HSS : Hid (∀ W, Below wr.heap.size wr W → W.cell? ⟨w.heap.size, 2, none⟩ = some (.slice (some ⟨b, o, none⟩) n2 c2) ∧ W.cell? ⟨b, o + i * 3, none⟩ = some (.string y.fPath) ∧ W.cell? ⟨b, o + i * 3 + 1, none⟩ = some (.slice (some ⟨b5, o5, none⟩) y.fTree.length y.fTree.length) ∧ W.cell? ⟨b, o + i * 3 + 2, none⟩ = some (.string y.fFrom)) := fun W h => by
      have hl := World.block_lt_of_cell? _ _ q0
      have hl2 := World.block_lt_of_cell? _ _ m2
      exact ⟨(h.cell (p := ⟨_, 2, none⟩) hl2).trans m2, (h.cell (p := ⟨_, o + i * 3, none⟩) hl).trans q0, (h.cell (p := ⟨_, o + i * 3 + 1, none⟩) hl).trans q1, (h.cell (p := ⟨_, o + i * 3 + 2, none⟩) hl).trans q2⟩
     have HWN : Hid (∀ W, Below wr.heap.size wr W → WoC W w.heap.size (.slice a0 n0 c0) (.slice a1 n1 c1) (.slice (some ⟨b, o, none⟩) n2 c2) (.slice a3 n3 c3)) := fun W h => HWC.out.below h
     obtain ⟨B, hB⟩ : ∃ B, peB y = B := ⟨_, rfl⟩
     have HBB : Hid (peB y = B) := hB
     rw [hB] at HCI
     obtain ⟨z0, hz0⟩ : ∃ z, y.fPath = z := ⟨_, rfl⟩
     obtain ⟨z1, hz1⟩ : ∃ z, y.fTree.length = z := ⟨_, rfl⟩
     obtain ⟨z2, hz2⟩ : ∃ z, y.fFrom = z := ⟨_, rfl⟩
     rw [hz0] at HSS HCI
     rw [hz1] at HSS HCI
     rw [hz2] at HSS HCI
     clear hz0 hz1 hz2 hB hc hy q0 q1 q2 hc5 t4 hbel
     cases B with
     | false =>
      have HV : Hid (V = false) := F4.out i y HX.out HBB.out
      go_wp2_with fail
      go_region_held3 (fun w' => w'.cell? ⟨w.heap.size, 2, none⟩ = some (.slice (some ⟨b, o, none⟩) n2 c2) ∧ w'.cell? ⟨b, o + i * 3, none⟩ = some (.string z0) ∧ w'.cell? ⟨b, o + i * 3 + 1, none⟩ = some (.slice (some ⟨b5, o5, none⟩) z1 z1) ∧ w'.cell? ⟨b, o + i * 3 + 2, none⟩ = some (.string z2))
       (first | exact HSS.out _ (Below.refl _ _).drew | exact HSS.out _ hb4 | exact HSS.out _ (Below.refl _ _) | go_keep)
       (first
        | ((go_at_call 46; refine (HCI.out _ HBE.out.drew (Below.refl _ _).drew).mono ?_; rintro e w3 ⟨rfl, hl3⟩; have hb3 : Below w.heap.size w w3 := HBE.out.drew.trans (hl3.mono HBE.out.size); have hb4 : Below wr.heap.size wr w3 := (Below.refl wr.heap.size wr).drew.trans hl3)))
      go_wp2_with fail
      go_ret
      exact ⟨by rw [HV.out]; rfl, hb3⟩
     | true =>
      have HN : Hid (∀ (j : Nat) (y : ty.Pe), j < i + 1 → pe[j]? = some y → peB y = true) := fun j y' hj hy' => by
       rcases Nat.lt_or_ge j i with h | h
       ·exact HPK.out j y' h hy'
       ·obtain rfl : j = i := by omega
        rw [HX.out] at hy'
        cases hy'
        exact HBB.out
      go_wp2_with fail
      go_region_held3 (fun w' => w'.cell? ⟨w.heap.size, 2, none⟩ = some (.slice (some ⟨b, o, none⟩) n2 c2) ∧ w'.cell? ⟨b, o + i * 3, none⟩ = some (.string z0) ∧ w'.cell? ⟨b, o + i * 3 + 1, none⟩ = some (.slice (some ⟨b5, o5, none⟩) z1 z1) ∧ w'.cell? ⟨b, o + i * 3 + 2, none⟩ = some (.string z2))
       (first | exact HSS.out _ (Below.refl _ _).drew | exact HSS.out _ hb4 | exact HSS.out _ (Below.refl _ _) | go_keep)
       (first
        | ((go_at_call 46; refine (HCI.out _ HBE.out.drew (Below.refl _ _).drew).mono ?_; rintro e w3 ⟨rfl, hl3⟩; have hb3 : Below w.heap.size w w3 := HBE.out.drew.trans (hl3.mono HBE.out.size); have hb4 : Below wr.heap.size wr w3 := (Below.refl wr.heap.size wr).drew.trans hl3)))
      go_wp2_with fail
      go_roundw
      case rel => exact ⟨i + 1, by omega, by go_num, HN.out, HWN.out _ hb4, hb3⟩
      case measure => simp [intOf]; omega
    ·have hin' : ¬ (i : Int) < (n2 : Int) := by omega
     have HPE : Hid (∀ (j : Nat) (y : ty.Pe), j < n2 → pe[j]? = some y → peB y = true) := fun j y hj hy => HPK.out j y (by omega) hy
     clear hi HPK hbel HS2 F4 HIT
     go_wp2
     clear m0 m1 m2 m3
     go_loopw [4] (fun v wr => ∃ i : Nat, i ≤ n3 ∧ v = .int .i64 (i : Int) ∧ (∀ (j : Nat) (y : ty.Nx), j < i → nx[j]? = some y → nxB y = true) ∧ WoC wr w.heap.size (.slice a0 n0 c0) (.slice a1 n1 c1) (.slice a2 n2 c2) (.slice a3 n3 c3) ∧ Below w.heap.size w wr) (fun v _ => n3 - (intOf v).toNat)
     case atStart => exact ⟨0, Nat.zero_le _, rfl, fun j y h => by omega, HWC.out, HBE.out⟩
     case round =>
      clear HWC HBE hin hin'
      obtain ⟨i, hi, rfl, hpok, hwc, hbel⟩ := hrel
      have HPK := Lib.hid hpok
      have HBE : Hid (Below w.heap.size w wr) := hbel
      have HWC := Lib.hid hwc
      obtain ⟨m0, m1, m2, m3⟩ := hwc
      clear hpok
      by_cases hin : i < n3
      ·have hin' : (i : Int) < (n3 : Int) := by omega
       have hi0 : (0 : Int) ≤ (i : Int) := by omega
       obtain ⟨y, hy⟩ : ∃ y, nx[i]? = some y := ⟨_, List.getElem?_eq_getElem (by rw [HNN.out.2.2.2]; exact hin)⟩
       rcases HS3.out with h | ⟨b, o, rfl, _, hc⟩
       ·rw [h.2] at hy; simp at hy
       obtain ⟨q0, q1⟩ := (hc i y hy).below hbel
       have HX : Hid (nx[i]? = some y) := hy
       have hsz := HNX.out y (List.mem_of_getElem? hy)
       have HCN := Lib.hid fun (W : World) => nm.spec_any y.fName hsz.1 W
       have HCA := Lib.hid fun (W : World) => wd.aspec_any y.fPath hsz.2 W
       have HBD : Hid (nxB y = (nm.nameB y.fName && wd.aokB y.fPath)) := rfl
       have HWN := Lib.hid HWC.out
       obtain ⟨z0, hz0⟩ : ∃ z, y.fName = z := ⟨_, rfl⟩
       obtain ⟨z1, hz1⟩ : ∃ z, y.fPath = z := ⟨_, rfl⟩
       rw [hz0] at q0 HCN HBD
       rw [hz1] at q1 HCA HBD
       clear hz0 hz1 hc hy hbel hsz
       obtain ⟨B0, hB0⟩ : ∃ B, nm.nameB z0 = B := ⟨_, rfl⟩
       obtain ⟨B1, hB1⟩ : ∃ B, wd.aokB z1 = B := ⟨_, rfl⟩
       rw [hB0] at HCN HBD
       rw [hB1] at HCA HBD
       clear hB0 hB1
       cases B0 with
       | false =>
        have HV : Hid (V = false) := F5.out i y HX.out HBD.out
        go_wp2_with (go_at_call 47; refine (HCN.out _).mono ?_; rintro e w3 ⟨rfl, rfl⟩)
        go_ret
        exact ⟨by rw [HV.out]; rfl, HBE.out⟩
       | true =>
        cases B1 with
        | false =>
         have HV : Hid (V = false) := F5.out i y HX.out HBD.out
         go_wp2_with (first
          | (go_at_call 47; refine (HCN.out _).mono ?_; rintro e w3 ⟨rfl, rfl⟩)
          | (go_at_call 48; refine (HCA.out _).mono ?_; rintro e w4 ⟨rfl, rfl⟩))
         go_ret
         exact ⟨by rw [HV.out]; rfl, HBE.out⟩
        | true =>
         have HN : Hid (∀ (j : Nat) (y : ty.Nx), j < i + 1 → nx[j]? = some y → nxB y = true) := fun j y' hj hy' => by
          rcases Nat.lt_or_ge j i with h | h
          ·exact HPK.out j y' h hy'
          ·obtain rfl : j = i := by omega
           rw [HX.out] at hy'
           cases hy'
           exact HBD.out
         go_wp2_with (first
          | (go_at_call 47; refine (HCN.out _).mono ?_; rintro e w3 ⟨rfl, rfl⟩)
          | (go_at_call 48; refine (HCA.out _).mono ?_; rintro e w4 ⟨rfl, rfl⟩))
         go_roundw
         case rel => exact ⟨i + 1, by omega, by go_num, HN.out, HWN.out, HBE.out⟩
         case measure => simp [intOf]; omega
      ·have hin' : ¬ (i : Int) < (n3 : Int) := by omega
       have HNE : Hid (∀ (j : Nat) (y : ty.Nx), j < n3 → nx[j]? = some y → nxB y = true) := fun j y hj hy => HPK.out j y (by omega) hy
       clear hi HPK hbel HS3 F5 HNX
       go_wp2
       clear m0 m1 m2 m3
       go_loopw [5, 6] (fun v _ wr => ∃ i : Nat, i ≤ n1 ∧ v = .int .i64 (i : Int) ∧ (∀ (j : Nat) (y : ty.Pr), j < i → pr[j]? = some y → ∀ (k : Nat) (g : ty.Ge), k < y.fGens.length → y.fGens[k]? = some g → hasB ps g.fPath = true) ∧ WoC wr w.heap.size (.slice a0 n0 c0) (.slice a1 n1 c1) (.slice a2 n2 c2) (.slice a3 n3 c3) ∧ Below w.heap.size w wr) (fun v _ _ => n1 - (intOf v).toNat)
       case atStart => exact ⟨0, Nat.zero_le _, rfl, fun j y h => by omega, HWC.out, HBE.out⟩
       case round =>
        clear HWC HBE hin hin'
        rename World => wo
        obtain ⟨i, hi, rfl, hpok, hwc, hbel⟩ := hrel
        have HPK := Lib.hid hpok
        have HBE : Hid (Below w.heap.size w wo) := hbel
        have HWC := Lib.hid hwc
        obtain ⟨m0, m1, m2, m3⟩ := hwc
        clear hpok
        by_cases hin : i < n1
        rotate_left
        ·have hin' : ¬ (i : Int) < (n1 : Int) := by omega
         have HV : Hid (V = true) := HFY.out HPE.out HNE.out fun j y hj hy => HPK.out j y (by omega) hy
         clear hbel
         go_wp2
         go_ret
         exact ⟨by rw [HV.out]; rfl, HBE.out⟩
        have hin' : (i : Int) < (n1 : Int) := by omega
        have hi0 : (0 : Int) ≤ (i : Int) := by omega
        obtain ⟨y, hy⟩ : ∃ y, pr[i]? = some y := ⟨_, List.getElem?_eq_getElem (by rw [HNN.out.2.1]; exact hin)⟩
        rcases HS1.out with h | ⟨b, o, rfl, _, hc⟩
        ·rw [h.2] at hy; simp at hy
        obtain ⟨b4, c4, q0, q1, q2, s4, _⟩ := (hc i y hy).below hbel
        have HX : Hid (pr[i]? = some y) := hy
        have hgl := HGN.out y (List.mem_of_getElem? hy)
        have HSG := Lib.hid s4
        obtain ⟨n4, hn4⟩ : ∃ n, y.fGens.length = n := ⟨_, rfl⟩
        have HN4 : Hid (y.fGens.length = n4) := hn4
        rw [hn4] at q2 hgl
        have HQ2 : Hid (∀ W, Below wo.heap.size wo W → W.cell? ⟨b, o + i * 3 + 2, none⟩ = some (.slice b4 n4 c4)) := fun W h => (h.cell (p := ⟨b, o + i * 3 + 2, none⟩) (World.block_lt_of_cell? _ _ q2)).trans q2
        have HWN : Hid (∀ W, Below wo.heap.size wo W → WoC W w.heap.size (.slice a0 n0 c0) (.slice (some ⟨b, o, none⟩) n1 c1) (.slice a2 n2 c2) (.slice a3 n3 c3)) := fun W h => HWC.out.below h
        clear hc hy q0 q1 s4 hn4 hbel
        go_wp2
        clear m0 m1 m2 m3
        go_loopw [6] (fun v wr => ∃ k : Nat, k ≤ n4 ∧ v = .int .i64 (k : Int) ∧ (∀ (j : Nat) (g : ty.Ge), j < k → y.fGens[j]? = some g → hasB ps g.fPath = true) ∧ Below wo.heap.size wo wr) (fun v _ => n4 - (intOf v).toNat)
        case atStart => exact ⟨0, Nat.zero_le _, rfl, fun j y h => by omega, Below.refl _ _⟩
        case round =>
         obtain ⟨k, hk, rfl, hpok, hbq⟩ := hrel
         have HGK := Lib.hid hpok
         have HBQ : Hid (Below wo.heap.size wo wr) := hbq
         have HBW : Hid (Below w.heap.size w wr) := HBE.out.trans (hbq.mono HBE.out.size)
         have q2' := HQ2.out _ hbq
         have hwq := HWN.out _ hbq
         obtain ⟨m0, m1, m2, m3⟩ := hwq
         clear hpok
         by_cases hkn : k < n4
         rotate_left
         ·have hkn' : ¬ (k : Int) < (n4 : Int) := by omega
          have HN : Hid (∀ (j : Nat) (y : ty.Pr), j < i + 1 → pr[j]? = some y → ∀ (k : Nat) (g : ty.Ge), k < y.fGens.length → y.fGens[k]? = some g → hasB ps g.fPath = true) := fun j y' hj hy' => by
           rcases Nat.lt_or_ge j i with h | h
           ·exact HPK.out j y' h hy'
           ·obtain rfl : j = i := by omega
            rw [HX.out] at hy'
            cases hy'
            exact fun k' g hk' hg => HGK.out k' g (by have := HN4.out; omega) hg
          have HWQ : Hid (WoC wr w.heap.size (.slice a0 n0 c0) (.slice (some ⟨b, o, none⟩) n1 c1) (.slice a2 n2 c2) (.slice a3 n3 c3)) := HWN.out _ hbq
          clear hbq
          go_wp2
          go_roundw
          case rel => exact ⟨i + 1, by omega, by go_num, HN.out, HWQ.out, HBW.out⟩
          case measure => simp [intOf]; omega
         have hkn' : (k : Int) < (n4 : Int) := by omega
         have hk0 : (0 : Int) ≤ (k : Int) := by omega
         obtain ⟨g, hg⟩ : ∃ g, y.fGens[k]? = some g := ⟨_, List.getElem?_eq_getElem (by rw [HN4.out]; exact hkn)⟩
         have HG : Hid (y.fGens[k]? = some g) := hg
         rcases HSG.out with h | ⟨b5, o5, rfl, _, hc5⟩
         ·rw [h.2] at hg; simp at hg
         obtain ⟨r0, r1⟩ := (hc5 k g hg).below hbq
         have HCF := Lib.hid fun (W : World) (h : Below w.heap.size w W) => HFD.out W g.fPath h
         obtain ⟨B, hB⟩ : ∃ B, hasB ps g.fPath = B := ⟨_, rfl⟩
         have HBB : Hid (hasB ps g.fPath = B) := hB
         rw [hB] at HCF
         obtain ⟨z0, hz0⟩ : ∃ z, g.fPath = z := ⟨_, rfl⟩
         rw [hz0] at HCF r1
         have HSS : Hid (∀ W, Below wr.heap.size wr W → W.cell? ⟨w.heap.size, 0, none⟩ = some (.slice a0 n0 c0) ∧ W.cell? ⟨w.heap.size, 1, none⟩ = some (.slice (some ⟨b, o, none⟩) n1 c1) ∧ W.cell? ⟨b, o + i * 3 + 2, none⟩ = some (.slice (some ⟨b5, o5, none⟩) n4 c4) ∧ W.cell? ⟨b5, o5 + k * 2 + 1, none⟩ = some (.string z0)) := fun W h =>
          ⟨(h.cell (p := ⟨_, 0, none⟩) (World.block_lt_of_cell? _ _ m0)).trans m0, (h.cell (p := ⟨_, 1, none⟩) (World.block_lt_of_cell? _ _ m1)).trans m1, (h.cell (p := ⟨b, o + i * 3 + 2, none⟩) (World.block_lt_of_cell? _ _ q2')).trans q2', (h.cell (p := ⟨b5, o5 + k * 2 + 1, none⟩) (World.block_lt_of_cell? _ _ r1)).trans r1⟩
         clear hz0 hB hc5 hg r0 r1 hbq
         cases B with
         | false =>
          have HV : Hid (V = false) := F6.out i k y g HX.out HG.out HBB.out
          go_wp2_with fail
          go_region_held3 (fun w' => w'.cell? ⟨w.heap.size, 0, none⟩ = some (.slice a0 n0 c0) ∧ w'.cell? ⟨w.heap.size, 1, none⟩ = some (.slice (some ⟨b, o, none⟩) n1 c1) ∧ w'.cell? ⟨b, o + i * 3 + 2, none⟩ = some (.slice (some ⟨b5, o5, none⟩) n4 c4) ∧ w'.cell? ⟨b5, o5 + k * 2 + 1, none⟩ = some (.string z0))
           (first | exact HSS.out _ (Below.refl _ _).drew | exact HSS.out _ (Below.refl _ _) | go_keep)
           (first
            | ((go_at_call 49; refine (HCF.out _ HBW.out.drew).mono ?_; rintro e w3 ⟨⟨r, rfl, hr⟩, rfl⟩; have hrn : r < 0 := hr.elim (fun h => by cases h.2) (fun h => by omega))))
          go_wp2_with fail
          go_ret
          exact ⟨by rw [HV.out]; rfl, HBW.out.drew⟩
         | true =>
          have HN : Hid (∀ (j : Nat) (g : ty.Ge), j < k + 1 → y.fGens[j]? = some g → hasB ps g.fPath = true) := fun j g' hj hg' => by
           rcases Nat.lt_or_ge j k with h | h
           ·exact HGK.out j g' h hg'
           ·obtain rfl : j = k := by omega
            rw [HG.out] at hg'
            cases hg'
            exact HBB.out
          go_wp2_with fail
          go_region_held3 (fun w' => w'.cell? ⟨w.heap.size, 0, none⟩ = some (.slice a0 n0 c0) ∧ w'.cell? ⟨w.heap.size, 1, none⟩ = some (.slice (some ⟨b, o, none⟩) n1 c1) ∧ w'.cell? ⟨b, o + i * 3 + 2, none⟩ = some (.slice (some ⟨b5, o5, none⟩) n4 c4) ∧ w'.cell? ⟨b5, o5 + k * 2 + 1, none⟩ = some (.string z0))
           (first | exact HSS.out _ (Below.refl _ _).drew | exact HSS.out _ (Below.refl _ _) | go_keep)
           (first
            | ((go_at_call 49; refine (HCF.out _ HBW.out.drew).mono ?_; rintro e w3 ⟨⟨r, rfl, hr⟩, rfl⟩; have hrn : ¬ r < 0 := hr.elim (fun h => by omega) (fun h => by cases h.2))))
          go_wp2_with fail
          go_roundw
          case rel => exact ⟨k + 1, by omega, by go_num, HN.out, HBQ.out.drew⟩
          case measure => simp [intOf]; omega
end Go.Proofs.YthbgpfjbfkiljaaGreatDoor.so

set_option linter.unusedVariables false
set_option linter.unusedSimpArgs false
set_option maxRecDepth 100000
set_option maxHeartbeats 16000000
namespace Go.Proofs.YthbgpfjbfkiljaaGreatDoor.so
open Go.ChangeShapes Go.WideShapes Go.ChangeAt Go.RowKit Go.Deep Go.Shelf Go.Maps
structure SrcW (md : Option Nat) (w : World) (x : ty.Wo) (a0 a1 a2 a3 : Option Addr) : Prop where
 st : ty.SrcIt md w a0 x.fStore
 pr : ty.SrcPr md w a1 x.fProfiles
 pe : ty.SrcPe md w a2 x.fPending
 nx : ty.SrcNx md w a3 x.fNexts
theorem SrcW.below {md : Option Nat} {w w' : World} {x : ty.Wo} {a0 a1 a2 a3 : Option Addr} (h : SrcW md w x a0 a1 a2 a3) (hb : Below w.heap.size w w') : SrcW md w' x a0 a1 a2 a3 := ⟨h.st.below hb, h.pr.below hb, h.pe.below hb, h.nx.below hb⟩
theorem SrcW.any {md : Option Nat} {w : World} {x : ty.Wo} {a0 a1 a2 a3 : Option Addr} (h : SrcW md w x a0 a1 a2 a3) : SrcW none w x a0 a1 a2 a3 := ⟨h.st.any, h.pr.any, h.pe.any, h.nx.any⟩
end Go.Proofs.YthbgpfjbfkiljaaGreatDoor.so

set_option linter.unusedVariables false
set_option linter.unusedSimpArgs false
set_option maxRecDepth 100000
set_option maxHeartbeats 16000000
namespace Go.Proofs.YthbgpfjbfkiljaaGreatDoor.wr
open Go.ChangeShapes Go.WideShapes Go.ChangeAt Go.RowKit Go.Deep Go.Maps
theorem ge_of {base : Nat} {w : World} {v : Value} {l : List ty.Et} (h : w.ownsRow base 62 4 v l.length (tt.enC (so.enT l) l.length)) (hv : v ≠ .slice none 0 0) : ∃ g d, v = .slice (some ⟨g, 0, none⟩) l.length d ∧ ty.GEt base w.heap.size w (some ⟨g, 0, none⟩) l := by
 obtain ⟨g, cap, f, rfl, h1, h2, h3, h4, h5⟩ := tt.own_rowE h hv
 refine ⟨g, cap, rfl, g, 0, _, _, f, fun _ => base, fun _ => base, rfl, h1, h4.lt, h4, by omega, fun i x hx => ?_, fun i j _ _ => .inl (Nat.le_refl _)⟩
 have hi := (List.getElem?_eq_some_iff.1 hx).1
 obtain ⟨q0, q1, q2, q3⟩ := h5 i hi
 rw [so.enT_some hx] at q0 q1 q2 q3
 have k : ∀ {p : Nat} {v : Value}, p < cap * 4 → w.cell? ⟨g, p, none⟩ = some v → f p = v := fun {p v} hp hc => by
  rw [h4.cell hp] at hc
  exact Option.some.inj hc
 refine ⟨Nat.le_refl _, by show base ≤ _; have := h4.lt; omega, .inr h1, k (by omega) q0, k (by omega) q1, k (by omega) q2, k (by omega) q3⟩
noncomputable def ansW (x : ty.Wo) (qs : List ByteArray) : List En × Bool := if so.woB x = true ∧ qs.length ≤ 2000 then wrA x.fStore qs else ([], false)
theorem ansW_no {x : ty.Wo} {qs : List ByteArray} (h : so.woB x = false) : ansW x qs = ([], false) := by unfold ansW; exact if_neg (fun k => by rw [h] at k; exact absurd k.1 (by simp))
theorem ansW_long {x : ty.Wo} {qs : List ByteArray} (h : ¬ qs.length ≤ 2000) : ansW x qs = ([], false) := by unfold ansW; exact if_neg (fun k => h k.2)
theorem ansW_yes {x : ty.Wo} {qs : List ByteArray} (h : so.woB x = true) (h2 : qs.length ≤ 2000) : ansW x qs = wrA x.fStore qs := by unfold ansW; exact if_pos ⟨h, h2⟩
theorem wo_st {x : ty.Wo} (h : so.woB x = true) : so.stB x.fStore = true := by unfold so.woB at h; simp only [Bool.and_eq_true] at h; exact h.1
theorem st_tree {ps : List ty.It} (h : so.stB ps = true) : ∀ y ∈ ps, tt.treeB (so.enT y.fTree) y.fTree.length = true := fun y hy => by
 unfold so.stB at h
 simp only [Bool.and_eq_true, List.all_eq_true] at h
 have := h.2.2 y hy
 unfold so.itB so.itP at this
 simp only [Bool.and_eq_true] at this
 exact this.2.1
def BigE (l : List En) : Prop := (l.length ≤ 1048576 ∧ True) ∧ ty.cnEt l ≤ 33555200
theorem cn_eq (l : List En) : ty.cnEt l = 4 * l.length := by
 unfold ty.cnEt ty.cnkEt
 rw [List.take_length]
 induction l with
 | nil => rfl
 | cons x l ih => rw [List.map_cons, List.sum_cons, ih, List.length_cons]; unfold ty.cn1Et; omega
theorem wrA_big (ps : List ty.It) (qs : List ByteArray) : (wrA ps qs).1.length ≤ 500 := by
 unfold wrA
 split
 ·simp
 ·split
  ·next s _ h => rw [se.srt_len]; exact (tt.treeB_is h.2).1
  ·simp
theorem ans_few (x : ty.Wo) (qs : List ByteArray) : (ansW x qs).1.length ≤ 500 := by
 unfold ansW
 split
 ·exact wrA_big _ _
 ·simp
theorem ans_big (x : ty.Wo) (qs : List ByteArray) : BigE (ansW x qs).1 := by
 have := ans_few x qs
 exact ⟨⟨by omega, trivial⟩, by rw [cn_eq]; omega⟩
theorem stp_st {ps : List ty.It} {y : ty.It} {q : ByteArray} (hy : y ∈ ps) (hq : y.fPath = q) : ∀ {es : List En} {s s' : List En × List En}, (∀ e ∈ es, e ∈ y.fTree) → St ps s.1 s.2 → stp q es s = some s' → St ps s'.1 s'.2
 | [], s, s', _, h, e => by rw [stp] at e; cases e; exact h
 | x :: es, s, s', hm, h, e => by
  cases hl : look s.1 x.fPath with
  | some m =>
   by_cases hmx : m = x
   ·subst hmx; rw [stp_same hl] at e; exact stp_st hy hq (fun z hz => hm z (by simp [hz])) h e
   ·rw [stp_other hl hmx] at e; cases e
  | none =>
   rw [stp_new hl] at e
   exact stp_st (s := (s.1 ++ [x], s.2 ++ [lnk q x])) hy hq (fun z hz => hm z (by simp [hz])) (h.new hl hy hq (hm x (by simp))) e
theorem wlk_st {ps : List ty.It} : ∀ {gs : List (ByteArray × List En)} {s s' : List En × List En}, (∀ g ∈ gs, ∃ y ∈ ps, y.fPath = g.1 ∧ y.fTree = g.2) → St ps s.1 s.2 → wlk gs s = some s' → St ps s'.1 s'.2
 | [], s, s', _, h, e => by rw [wlk] at e; cases e; exact h
 | g :: gs, s, s', hg, h, e => by
  rw [wlk] at e
  cases hs : stp g.1 g.2 s with
  | none => rw [hs] at e; cases e
  | some s1 =>
   rw [hs] at e
   obtain ⟨y, hy, h1, h2⟩ := hg g (by simp)
   exact wlk_st (s := s1) (fun g' hg' => hg g' (by simp [hg'])) (stp_st hy h1 (fun z hz => by rw [h2]; exact hz) h hs) e
theorem wrA_sm {ps : List ty.It} (qs : List ByteArray) (hw : ty.wtIt ps ≤ 1048576) : tt.SmE (wrA ps qs).1.length (so.enT (wrA ps qs).1) := by
 unfold wrA
 split
 ·exact fun i hi => by simp at hi
 ·split
  ·next s hs h =>
   have hst : St ps s.1 s.2 := wlk_st (s := ([], [])) (fun g hg => gv_mem hg) (St.nil ps) hs
   exact sm_of fun x hx => hst.sm hw x ((se.srt_perm 18 s.2).mem_iff.1 hx)
  ·exact fun i hi => by simp at hi
def CpE (w : World) (v : Value) (l : List En) : Prop := ∃ g c, v = .slice (some ⟨g, 0, none⟩) l.length c ∧ ty.SrcEt none w (some ⟨g, 0, none⟩) l
def AnE (lo : Nat) (w : World) (v : Value) (l : List En) : Prop := ∃ g c, v = .slice (some ⟨g, 0, none⟩) l.length c ∧ ty.GEt lo w.heap.size w (some ⟨g, 0, none⟩) l
theorem cpE_of {w : World} {v : Value} {l : List En} (h : RowT w v l) : CpE w v l := by
 obtain ⟨g, cap, e, _, _, hE⟩ := h
 exact ⟨g, cap, e, .inr ⟨g, 0, rfl, ty.Okb.free _ _, fun i x hx => hE i x hx⟩⟩
theorem anE_of {base : Nat} {w : World} {v : Value} {l : List En} (h : se.OwnS base w v l) : AnE base w v l := by
 obtain ⟨h1, h2⟩ := h
 rw [enL_enC] at h1
 exact ge_of h1 h2
theorem sw_any (lo lo2 : Nat) (x : ty.Wo) (qs : List ByteArray) (a0 a1 a2 a3 B : Option Addr) (c0 c1 c2 c3 c4 : Nat) (w : World) (h : so.SrcW (some lo) w x a0 a1 a2 a3) (hw : ty.wt1Wo x ≤ 1048576) (h2 : ty.SrcS (some lo2) w B qs) :
  Calls Tryz.prog 6 #[.agg #[.slice a0 x.fStore.length c0, .slice a1 x.fProfiles.length c1, .slice a2 x.fPending.length c2, .slice a3 x.fNexts.length c3], .slice B qs.length c4] w fun e w' => (∃ v, e = .returned (.tuple #[v, .bool (ansW x qs).2]) ∧ CpE w' v (ansW x qs).1) ∧ Below w.heap.size w w' := by
 obtain ⟨vb, vo, rfl, hq⟩ : ∃ vb vo, B = some ⟨vb, vo, none⟩ ∧ ∀ (i : Nat) (q : ByteArray), qs[i]? = some q → w.cell? ⟨vb, vo + i, none⟩ = some (.string q) := by
  rcases h2 with h | ⟨b, o, e, _, hc⟩
  ·cases h.1
  ·exact ⟨b, o, e, hc⟩
 have hwi : ty.wtIt x.fStore ≤ 1048576 := by unfold ty.wt1Wo at hw; omega
 have HWO : Hid (∀ W, Below w.heap.size w W → Calls Tryz.prog 21 #[.agg #[.slice a0 x.fStore.length c0, .slice a1 x.fProfiles.length c1, .slice a2 x.fPending.length c2, .slice a3 x.fNexts.length c3]] W fun e w' => e = .returned (.bool (so.woB x)) ∧ Below W.heap.size W w') := fun W hW => so.swo_any lo x a0 a1 a2 a3 c0 c1 c2 c3 W (h.below hW).st (h.below hW).pr (h.below hW).pe (h.below hW).nx hw
 have HSW : Hid (∀ W, Below w.heap.size w W → so.woB x = true → qs.length ≤ 2000 → Calls Tryz.prog 22 #[.slice a0 x.fStore.length c0, .slice (some ⟨vb, vo, none⟩) qs.length c4] W fun e w' => (∃ v, e = .returned (.tuple #[v, .bool (ansW x qs).2]) ∧ RowT w' v (ansW x qs).1) ∧ Below W.heap.size W w') := fun W hW hB hn => by
  rw [ansW_yes hB hn]
  exact swrap_any lo a0 c0 x.fStore vb vo c4 qs W (h.below hW).st hwi (wo_st hB) (fun i q hi => (hW.cell (p := ⟨vb, _, none⟩) (World.block_lt_of_cell? _ _ (hq i q hi))).trans (hq i q hi)) hn (st_tree (wo_st hB))
 obtain ⟨w1, hw1⟩ : ∃ W, w.alloc (.cells #[.slice a0 x.fStore.length c0, .slice a1 x.fProfiles.length c1, .slice a2 x.fPending.length c2, .slice a3 x.fNexts.length c3] 39) = W := ⟨_, rfl⟩
 have HB1 : Hid (Below w.heap.size w w1) := by rw [← hw1]; exact (Below.refl _ _).alloc (Nat.le_refl _) _
 have HK4 : Hid (∀ W, Below w1.heap.size w1 W → W.cell? ⟨w.heap.size, 0, none⟩ = some (.slice a0 x.fStore.length c0) ∧ W.cell? ⟨w.heap.size, 1, none⟩ = some (.slice a1 x.fProfiles.length c1) ∧ W.cell? ⟨w.heap.size, 2, none⟩ = some (.slice a2 x.fPending.length c2) ∧ W.cell? ⟨w.heap.size, 3, none⟩ = some (.slice a3 x.fNexts.length c3)) := fun W hW => by
  have hlt : w.heap.size < w1.heap.size := by rw [← hw1]; simp
  have k : ∀ j, W.cell? ⟨w.heap.size, j, none⟩ = (#[.slice a0 x.fStore.length c0, .slice a1 x.fProfiles.length c1, .slice a2 x.fPending.length c2, .slice a3 x.fNexts.length c3] : Array Value)[j]? := fun j => (hW.cell (p := ⟨w.heap.size, j, none⟩) hlt).trans (by rw [← hw1]; exact World.cell?_alloc_new w _ _ j)
  exact ⟨by rw [k]; rfl, by rw [k]; rfl, by rw [k]; rfl, by rw [k]; rfl⟩
 have HK0 : Hid (∀ W, Below w1.heap.size w1 W → W.cell? ⟨w.heap.size, 0, none⟩ = some (.slice a0 x.fStore.length c0)) := fun W hW => (HK4.out W hW).1
 obtain ⟨j0, j1, j2, j3⟩ := HK4.out w1 (Below.refl _ _)
 cases hB : so.woB x with
 | false =>
  have HRN := Lib.hid (ansW_no (qs := qs) hB)
  rw [hB] at HWO
  rw [HRN.out]
  clear HSW hB h h2 hq
  go_enter Tryz.func6, Tryz.ntmps6
  go_wp2_with (go_at_call 21; refine (HWO.out _ HB1.out).mono ?_; rintro e w5 ⟨rfl, hb5⟩)
  go_ret2
  exact ⟨⟨_, rfl, cpE_of (RowT.nil _ _ _ (by unfold maxLen; omega))⟩, (HB1.out.trans (hb5.mono HB1.out.size)).alloc (by have := HB1.out.size; have := hb5.size; omega) _⟩
 | true =>
  rw [hB] at HWO
  by_cases hn : qs.length ≤ 2000
  ·have HSX : Hid (∀ W, Below w.heap.size w W → Calls Tryz.prog 22 #[.slice a0 x.fStore.length c0, .slice (some ⟨vb, vo, none⟩) qs.length c4] W fun e w' => (∃ v, e = .returned (.tuple #[v, .bool (ansW x qs).2]) ∧ RowT w' v (ansW x qs).1) ∧ Below W.heap.size W w') := fun W hW => HSW.out W hW hB hn
   generalize ansW x qs = A at *
   have hn' : ¬ (2000 : Int) < (qs.length : Int) := by omega
   clear HSW hB h h2 hq
   go_enter Tryz.func6, Tryz.ntmps6
   go_wp2_with (first
    | (go_at_call 21; refine (HWO.out _ HB1.out).mono ?_; rintro e w5 ⟨rfl, hb5⟩; have hB5 : Below w.heap.size w w5 := HB1.out.trans (hb5.mono HB1.out.size); have k0 := HK0.out _ hb5)
    | (go_at_call 22; refine (HSX.out _ hB5).mono ?_; rintro e w6 ⟨⟨v, rfl, hv⟩, hb6⟩))
   go_ret2
   exact ⟨⟨_, rfl, cpE_of hv⟩, hB5.trans (hb6.mono hB5.size)⟩
  ·have HRN := Lib.hid (ansW_long (x := x) hn)
   have hn' : (2000 : Int) < (qs.length : Int) := by omega
   rw [HRN.out]
   clear HSW hB h h2 hq
   go_enter Tryz.func6, Tryz.ntmps6
   go_wp2_with (go_at_call 21; refine (HWO.out _ HB1.out).mono ?_; rintro e w5 ⟨rfl, hb5⟩)
   go_ret2
   exact ⟨⟨_, rfl, cpE_of (RowT.nil _ _ _ (by unfold maxLen; omega))⟩, (HB1.out.trans (hb5.mono HB1.out.size)).alloc (by have := HB1.out.size; have := hb5.size; omega) _⟩
theorem iw_any (lo lo2 : Nat) (x : ty.Wo) (qs : List ByteArray) (a0 a1 a2 a3 B : Option Addr) (c0 c1 c2 c3 c4 : Nat) (w : World) (h : so.SrcW (some lo) w x a0 a1 a2 a3) (hw : ty.wt1Wo x ≤ 1048576) (h2 : ty.SrcS (some lo2) w B qs) (hm : tt.ML w) (hT : wd.TabB w) :
  Calls Tryz.prog 9 #[.agg #[.slice a0 x.fStore.length c0, .slice a1 x.fProfiles.length c1, .slice a2 x.fPending.length c2, .slice a3 x.fNexts.length c3], .slice B qs.length c4] w fun e w' => (∃ v, e = .returned (.tuple #[v, .bool (ansW x qs).2]) ∧ AnE w.heap.size w' v (ansW x qs).1) ∧ Below w.heap.size w w' := by
 obtain ⟨vb, vo, rfl, hq⟩ : ∃ vb vo, B = some ⟨vb, vo, none⟩ ∧ ∀ (i : Nat) (q : ByteArray), qs[i]? = some q → w.cell? ⟨vb, vo + i, none⟩ = some (.string q) := by
  rcases h2 with h | ⟨b, o, e, _, hc⟩
  ·cases h.1
  ·exact ⟨b, o, e, hc⟩
 have hwi : ty.wtIt x.fStore ≤ 1048576 := by unfold ty.wt1Wo at hw; omega
 have HWO : Hid (∀ W, Below w.heap.size w W → Calls Tryz.prog 27 #[.agg #[.slice a0 x.fStore.length c0, .slice a1 x.fProfiles.length c1, .slice a2 x.fPending.length c2, .slice a3 x.fNexts.length c3]] W fun e w' => e = .returned (.bool (so.woB x)) ∧ Below W.heap.size W w') := fun W hW => so.iwo_any lo x a0 a1 a2 a3 c0 c1 c2 c3 W (h.below hW).st (h.below hW).pr (h.below hW).pe (h.below hW).nx hw (hm.below hW) (hT.below hW)
 have HSW : Hid (∀ W, Below w.heap.size w W → so.woB x = true → qs.length ≤ 2000 → Calls Tryz.prog 28 #[.agg #[.slice a0 x.fStore.length c0, .slice a1 x.fProfiles.length c1, .slice a2 x.fPending.length c2, .slice a3 x.fNexts.length c3], .slice (some ⟨vb, vo, none⟩) qs.length c4] W fun e w' => (∃ v, e = .returned (.tuple #[v, .bool (ansW x qs).2]) ∧ (v = .slice none 0 0 ∧ (ansW x qs).1 = [] ∨ se.StrR w' v (ansW x qs).1)) ∧ Below W.heap.size W w') := fun W hW hB hn => by
  rw [ansW_yes hB hn]
  exact wrapped_any lo a0 c0 x.fStore _ _ _ vb vo c4 qs W (h.below hW).st hwi (wo_st hB) (fun i q hi => (hW.cell (p := ⟨vb, _, none⟩) (World.block_lt_of_cell? _ _ (hq i q hi))).trans (hq i q hi)) hn (hm.below hW) (st_tree (wo_st hB))
 obtain ⟨w1, hw1⟩ : ∃ W, w.alloc (.cells #[.slice a0 x.fStore.length c0, .slice a1 x.fProfiles.length c1, .slice a2 x.fPending.length c2, .slice a3 x.fNexts.length c3] 39) = W := ⟨_, rfl⟩
 have HB1 : Hid (Below w.heap.size w w1) := by rw [← hw1]; exact (Below.refl _ _).alloc (Nat.le_refl _) _
 have HK4 : Hid (∀ W, Below w1.heap.size w1 W → W.cell? ⟨w.heap.size, 0, none⟩ = some (.slice a0 x.fStore.length c0) ∧ W.cell? ⟨w.heap.size, 1, none⟩ = some (.slice a1 x.fProfiles.length c1) ∧ W.cell? ⟨w.heap.size, 2, none⟩ = some (.slice a2 x.fPending.length c2) ∧ W.cell? ⟨w.heap.size, 3, none⟩ = some (.slice a3 x.fNexts.length c3)) := fun W hW => by
  have hlt : w.heap.size < w1.heap.size := by rw [← hw1]; simp
  have k : ∀ j, W.cell? ⟨w.heap.size, j, none⟩ = (#[.slice a0 x.fStore.length c0, .slice a1 x.fProfiles.length c1, .slice a2 x.fPending.length c2, .slice a3 x.fNexts.length c3] : Array Value)[j]? := fun j => (hW.cell (p := ⟨w.heap.size, j, none⟩) hlt).trans (by rw [← hw1]; exact World.cell?_alloc_new w _ _ j)
  exact ⟨by rw [k]; rfl, by rw [k]; rfl, by rw [k]; rfl, by rw [k]; rfl⟩
 have HK0 : Hid (∀ W, Below w1.heap.size w1 W → W.cell? ⟨w.heap.size, 0, none⟩ = some (.slice a0 x.fStore.length c0)) := fun W hW => (HK4.out W hW).1
 obtain ⟨j0, j1, j2, j3⟩ := HK4.out w1 (Below.refl _ _)
 cases hB : so.woB x with
 | false =>
  have HRN := Lib.hid (ansW_no (qs := qs) hB)
  rw [hB] at HWO
  rw [HRN.out]
  clear HSW hB h h2 hq
  go_enter Tryz.func9, Tryz.ntmps9
  go_wp2_with (go_at_call 27; refine (HWO.out _ HB1.out).mono ?_; rintro e w5 ⟨rfl, hb5⟩)
  go_ret2
  have hB5 := HB1.out.trans (hb5.mono HB1.out.size)
  exact ⟨⟨_, rfl, anE_of ((se.own_zero w5).mono hB5.size)⟩, hB5.alloc hB5.size _⟩
 | true =>
  rw [hB] at HWO
  by_cases hn : qs.length ≤ 2000
  ·have HSX : Hid (∀ W, Below w.heap.size w W → Calls Tryz.prog 28 #[.agg #[.slice a0 x.fStore.length c0, .slice a1 x.fProfiles.length c1, .slice a2 x.fPending.length c2, .slice a3 x.fNexts.length c3], .slice (some ⟨vb, vo, none⟩) qs.length c4] W fun e w' => (∃ v, e = .returned (.tuple #[v, .bool (ansW x qs).2]) ∧ (v = .slice none 0 0 ∧ (ansW x qs).1 = [] ∨ se.StrR w' v (ansW x qs).1)) ∧ Below W.heap.size W w') := fun W hW => HSW.out W hW hB hn
   have HSM : Hid (tt.SmE (ansW x qs).1.length (so.enT (ansW x qs).1)) := by show tt.SmE _ _; rw [ansW_yes hB hn]; exact wrA_sm qs hwi
   have HFW : Hid ((ansW x qs).1.length ≤ 500) := ans_few x qs
   have HCL : Hid (∀ W v, (v = .slice none 0 0 ∧ (ansW x qs).1 = [] ∨ se.StrR W v (ansW x qs).1) → Calls Tryz.prog 29 #[v] W fun e w' => (∃ v', e = .returned v' ∧ se.OwnS W.heap.size w' v' (ansW x qs).1) ∧ Below W.heap.size W w') := fun W v hv => by
    rcases hv with ⟨rfl, he⟩ | hv
    ·rw [he]; exact cloned_nil 0 W
    ·exact cloned_row _ v W hv HSM.out (by have := HFW.out; omega)
   generalize ansW x qs = A at *
   have hn' : ¬ (2000 : Int) < (qs.length : Int) := by omega
   clear HSW hB h h2 hq hm hT
   go_enter Tryz.func9, Tryz.ntmps9
   go_wp2_with (first
    | (go_at_call 27; refine (HWO.out _ HB1.out).mono ?_; rintro e w5 ⟨rfl, hb5⟩; have hB5 : Below w.heap.size w w5 := HB1.out.trans (hb5.mono HB1.out.size); obtain ⟨k0, k1, k2, k3⟩ := HK4.out _ hb5)
    | (go_at_call 28; refine (HSX.out _ hB5).mono ?_; rintro e w6 ⟨⟨v, rfl, hv⟩, hb6⟩; have hB6 : Below w.heap.size w w6 := hB5.trans (hb6.mono hB5.size))
    | (go_at_call 29; refine (HCL.out _ _ hv).mono ?_; rintro e w7 ⟨⟨v', rfl, hv'⟩, hb7⟩))
   go_ret2
   exact ⟨⟨_, rfl, anE_of (hv'.mono hB6.size)⟩, hB6.trans (hb7.mono hB6.size)⟩
  ·have HRN := Lib.hid (ansW_long (x := x) hn)
   have hn' : (2000 : Int) < (qs.length : Int) := by omega
   rw [HRN.out]
   clear HSW hB h h2 hq
   go_enter Tryz.func9, Tryz.ntmps9
   go_wp2_with (go_at_call 27; refine (HWO.out _ HB1.out).mono ?_; rintro e w5 ⟨rfl, hb5⟩)
   go_ret2
   have hB5 := HB1.out.trans (hb5.mono HB1.out.size)
   exact ⟨⟨_, rfl, anE_of ((se.own_zero w5).mono hB5.size)⟩, hB5.alloc hB5.size _⟩
end Go.Proofs.YthbgpfjbfkiljaaGreatDoor.wr
