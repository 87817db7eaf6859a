import Derived.Test.YtjbdklkingfmpaaGreatDoorWO1r
import Derived.Test.YtjbdklkingfmpaaGreatDoorADr
import Derived.Test.YtjbdklkingfmpaaGreatDoorST1r
import Derived.Maps.AppendAt
import Derived.Deep.Cut
import Derived.Deep.CutBlock
import Derived.Deep.CutRange
import Derived.Test.YtjbdklkingfmpaaGreatDoorCT1r
import Derived.Maps.Own
import Derived.Maps.OwnOps
import Derived.Maps.OwnSet
import Derived.Maps.Views
import Derived.Test.YtjbdklkingfmpaaGreatDoorWONr
import Derived.Test.YtjbdklkingfmpaaGreatDoorWOGr
set_option linter.unusedVariables false
set_option linter.unusedSimpArgs false
set_option maxRecDepth 100000
set_option maxHeartbeats 16000000
namespace Go.Proofs.YtjbdklkingfmpaaGreatDoor.so
open Go.ChangeShapes Go.WideShapes Go.ChangeAt Go.RowKit Go.Deep Go.Shelf Go.Maps
theorem st_factsC {ps : List ty.It} (h : stB ps = true) : ps.length ≤ 300 ∧ (pths ps).Nodup ∧ ∀ x ∈ ps, x.fRefs.length ≤ 300 := by
 unfold stB at h
 simp only [Bool.and_eq_true, decide_eq_true_eq, List.all_eq_true] at h
 obtain ⟨h1, h2, h3⟩ := h
 refine ⟨h1, ?_, fun x hx => ?_⟩
 ·rw [List.nodup_iff_pairwise_ne, List.pairwise_iff_getElem]
  intro i j hi hj hij e
  have hi' : i < ps.length := by rw [pths_len] at hi; exact hi
  have hj' : j < ps.length := by rw [pths_len] at hj; exact hj
  have h4 := asc_lt h2 j i ps[j] ps[i] hij (List.getElem?_eq_getElem hi') (List.getElem?_eq_getElem hj')
  have e1 : (pths ps)[i] = ps[i].fPath.data.toList := by simp [pths]
  have e2 : (pths ps)[j] = ps[j].fPath.data.toList := by simp [pths]
  rw [e1, e2] at e
  rw [e] at h4
  exact List.lt_irrefl _ h4
 ·have h4 := h3 x hx
  unfold itB itP at h4
  simp only [Bool.and_eq_true] at h4
  have h5 : x.fRefs.map (fun y => y.data.toList) = _ := of_decide_eq_true h4.2.2.2.2
  have h6 := congrArg List.length h5
  rw [List.length_map] at h6
  have h7 := rf.rfs_len (enT x.fTree) x.fTree.length (pths ps)
  rw [pths_len] at h7
  omega
theorem rec_wt (x : ty.Wo) (h : ty.wt1Wo x ≤ 1048576) : ty.wt1Wo (recA x) ≤ 1048576 := by
 unfold recA
 split
 ·unfold ty.wt1Wo at h ⊢
  have e1 : ty.wtPe [] = 0 := rfl
  have e2 : ty.wtNx [] = 0 := rfl
  simp only [e1, e2]
  omega
 ·show ty.wt1Wo noW ≤ 1048576
  decide
theorem cp_no (w : World) : CpW w (.agg #[.slice none 0 0, .slice none 0 0, .slice none 0 0, .slice none 0 0]) noW :=
 ⟨none, none, none, none, 0, 0, 0, 0, rfl, .inl ⟨rfl, rfl⟩, .inl ⟨rfl, rfl⟩, .inl ⟨rfl, rfl⟩, .inl ⟨rfl, rfl⟩⟩
theorem wo_begun {x : ty.Wo} (h : woB x = true) : stB x.fStore = true ∧ x.fPending.length ≤ 20 := by
 unfold woB at h
 simp only [Bool.and_eq_true] at h
 obtain ⟨h0, h1, h2, h3⟩ := h
 unfold begP at h2
 simp only [Bool.and_eq_true, decide_eq_true_eq] at h2
 exact ⟨h0, h2.1⟩
theorem srec_any (lo : Nat) (x : ty.Wo) (a0 a1 a2 a3 : Option Addr) (c0 c1 c2 c3 : Nat) (w : World) (hS : SrcW (some lo) w x a0 a1 a2 a3) (hw : ty.wt1Wo x ≤ 1048576) :
  Calls Tryz.prog 14 #[.agg #[.slice a0 x.fStore.length c0, .slice a1 x.fProfiles.length c1, .slice a2 x.fPending.length c2, .slice a3 x.fNexts.length c3]] w fun e w' => (∃ v, e = .returned v ∧ CpW w' v (recA x)) ∧ Below w.heap.size w w' := by
 have HWO := Lib.hid fun (W : World) (h : Below w.heap.size w W) => swo_any lo x a0 a1 a2 a3 c0 c1 c2 c3 W (hS.st.below h) (hS.pr.below h) (hS.pe.below h) (hS.nx.below h) hw
 have HCL : Hid (woB x = true → ∀ W, Below w.heap.size w W → Calls Tryz.prog 41 #[.agg #[.slice a0 x.fStore.length c0, .slice a1 x.fProfiles.length c1, .slice a2 x.fPending.length c2, .slice a3 x.fNexts.length c3]] W fun e w' => CpR w' e x.fStore x.fProfiles ∧ Below W.heap.size W w') := fun h W hB => l19c_any lo x a0 a1 a2 a3 c0 c1 c2 c3 W (hS.below hB) hw (st_factsC (wo_begun h).1).2.2 (wo_begun h).2
 have HNO : Hid (woB x = false → recA x = noW) := rec_no
 have HYE : Hid (woB x = true → recA x = ⟨x.fStore, x.fProfiles, [], []⟩) := rec_yes
 obtain ⟨R, hR⟩ : ∃ R, recA x = R := ⟨_, rfl⟩
 rw [hR] at HNO HYE ⊢
 clear hS hw hR
 generalize hst : x.fStore = st at *
 generalize hpr : x.fProfiles = pr at *
 clear hst hpr
 obtain ⟨n0, hn0⟩ : ∃ n, st.length = n := ⟨_, rfl⟩
 obtain ⟨n1, hn1⟩ : ∃ n, pr.length = n := ⟨_, rfl⟩
 rw [hn0, hn1] at HWO HCL ⊢
 clear hn0 hn1
 generalize x.fPending.length = n2 at *
 generalize x.fNexts.length = n3 at *
 obtain ⟨W0, hW0⟩ : ∃ W0, W0 = ((w.alloc (.cells #[.slice a0 n0 c0, .slice a1 n1 c1, .slice a2 n2 c2, .slice a3 n3 c3] 36)).alloc (.cells #[.slice none 0 0, .slice none 0 0, .slice none 0 0, .slice none 0 0] 36)) := ⟨_, rfl⟩
 have HZ0 : Hid (W0.heap.size = w.heap.size + 2) := by show _ = _; rw [hW0]; simp
 have HB0 : Hid (Below w.heap.size w W0) := by show Below _ _ _; rw [hW0]; exact ((Below.refl _ _).alloc (Nat.le_refl _) _).alloc (by simp) _
 have HW0 := Lib.hid hW0
 have HC0 : Hid (∀ W, Below W0.heap.size W0 W → WoC W w.heap.size (.slice a0 n0 c0) (.slice a1 n1 c1) (.slice a2 n2 c2) (.slice a3 n3 c3)) := fun W h => by
  have k := fun j => h.cell (p := ⟨w.heap.size, j, none⟩) (by show w.heap.size < _; rw [HZ0.out]; omega)
  refine ⟨(k 0).trans ?_, (k 1).trans ?_, (k 2).trans ?_, (k 3).trans ?_⟩ <;> (rw [hW0]; simp [go_sem])
 have HR0 : Hid (∀ W, Below W0.heap.size W0 W → W.rowIs (w.heap.size + 1) 36 4 (fun _ => .slice none 0 0)) := fun W h => by
  refine World.rowIs.of_block (w := W0) ?_ (h.block _ (by rw [HZ0.out]; omega))
  rw [hW0]
  have := World.rowIs_alloc (w.alloc (.cells #[.slice a0 n0 c0, .slice a1 n1 c1, .slice a2 n2 c2, .slice a3 n3 c3] 36)) #[Value.slice none 0 0, .slice none 0 0, .slice none 0 0, .slice none 0 0] 36 (fun _ => .slice none 0 0) (fun i hi => by
   simp only [List.size_toArray, List.length_cons, List.length_nil] at hi
   rcases i with _ | _ | _ | _ | i
   ·rfl
   ·rfl
   ·rfl
   ·rfl
   ·omega)
  simpa using this
 have hle1 : w.heap.size ≤ w.heap.size + 1 := by omega
 clear hW0
 cases hwb : woB x with
 | false =>
  rw [hwb] at HWO
  have HE : Hid (R = noW) := HNO.out hwb
  clear HNO HYE HCL hwb
  go_enter Tryz.func14, Tryz.ntmps14
  go_wp2_with (go_at_call 21; refine (HWO.out _ (by rw [← HW0.out]; exact HB0.out)).mono ?_; rintro e w1 ⟨rfl, hl1⟩; rw [← HW0.out] at hl1; have hrx := HR0.out w1 hl1; have u0 := hrx.cell (i := 0) (by omega); have u1 := hrx.cell (i := 1) (by omega); have u2 := hrx.cell (i := 2) (by omega); have u3 := hrx.cell (i := 3) (by omega); have f0 := hrx.frozen 0; have f1 := hrx.frozen 1; have f2 := hrx.frozen 2; have f3 := hrx.frozen 3)
  obtain ⟨t0, t1, t2, t3⟩ := ty.stored4 (W := w1) (b := w.heap.size + 1) (v0 := .slice none 0 0) (v1 := .slice none 0 0) (v2 := .slice none 0 0) (v3 := .slice none 0 0) u0 u1 u2 u3
  have hB1 : Below w.heap.size w w1 := HB0.out.trans (hl1.mono HB0.out.size)
  have hBX : Below w.heap.size w ((((w1.setCell ⟨w.heap.size + 1, 0, none⟩ (.slice none 0 0)).setCell ⟨w.heap.size + 1, 1, none⟩ (.slice none 0 0)).setCell ⟨w.heap.size + 1, 2, none⟩ (.slice none 0 0)).setCell ⟨w.heap.size + 1, 3, none⟩ (.slice none 0 0)) := (((hB1.setCell hle1 _).setCell hle1 _).setCell hle1 _).setCell hle1 _
  exact ty.retWo (fn := Tryz.f14) Tryz.results14 rfl t0 t1 t2 t3 ⟨⟨_, rfl, by rw [HE.out]; exact cp_no _⟩, hBX⟩
 | true =>
  have HC2 := Lib.hid (HCL.out hwb)
  rw [hwb] at HWO
  have HE : Hid (R = ⟨st, pr, [], []⟩) := HYE.out hwb
  clear HNO HYE HCL hwb
  go_enter Tryz.func14, Tryz.ntmps14
  go_wp2_with (first
   | (go_at_call 21; refine (HWO.out _ (by rw [← HW0.out]; exact HB0.out)).mono ?_; rintro e w1 ⟨rfl, hl1⟩; rw [← HW0.out] at hl1; have hB1 : Below w.heap.size w w1 := HB0.out.trans (hl1.mono HB0.out.size); obtain ⟨k0, k1, k2, k3⟩ := HC0.out _ hl1)
   | (go_at_call 41; refine (HC2.out _ hB1).mono ?_; rintro e w2 ⟨⟨g0, d0, g1, d1, b2, m2, d2, b3, m3, d3, rfl, s0, s1⟩, hl2⟩; have hb2 : Below W0.heap.size W0 w2 := hl1.trans (hl2.mono hl1.size); have hrx := HR0.out w2 hb2; have u0 := hrx.cell (i := 0) (by omega); have u1 := hrx.cell (i := 1) (by omega); have u2 := hrx.cell (i := 2) (by omega); have u3 := hrx.cell (i := 3) (by omega); have f0 := hrx.frozen 0; have f1 := hrx.frozen 1; have f2 := hrx.frozen 2; have f3 := hrx.frozen 3; have hpl : w.heap.size + 1 < w2.heap.size := hrx.lt; refine Hid.out ?_))
  refine Lib.hid ?_
  have hB2 : Below w.heap.size w w2 := hB1.trans (hl2.mono hB1.size)
  obtain ⟨F, hF⟩ : ∃ F, F = ((w2.alloc (.cells #[.slice (some ⟨g0, 0, none⟩) st.length d0, .slice (some ⟨g1, 0, none⟩) pr.length d1, .slice (some ⟨w2.heap.size + 1, 0, none⟩) 0 0, .slice (some ⟨w2.heap.size + 1 + 1, 0, none⟩) 0 0] 36)).alloc (.cells #[] 90)).alloc (.cells #[] 92) := ⟨_, rfl⟩
  have hBF : Below w2.heap.size w2 F := by rw [hF]; exact (((Below.refl _ _).alloc (Nat.le_refl _) _).alloc (by simp) _).alloc (by simp; omega) _
  have hrF : F.rowIs (w.heap.size + 1) 36 4 (fun _ => .slice none 0 0) := hrx.of_block (hBF.block _ hrx.lt)
  have HEX : Hid (∀ u0 u1 u2 u3, Ext w2 ((((F.setCell ⟨w.heap.size + 1, 0, none⟩ u0).setCell ⟨w.heap.size + 1, 1, none⟩ u1).setCell ⟨w.heap.size + 1, 2, none⟩ u2).setCell ⟨w.heap.size + 1, 3, none⟩ u3)) := fun u0 u1 u2 u3 => (((((Ext.below hBF).trans (Ext.set (i := 0) hrF (.inr (.inr rfl)) u0))).trans (Ext.set (i := 1) (hrF.set 0 u0) (.inr (.inr rfl)) u1)).trans (Ext.set (i := 2) ((hrF.set 0 u0).set 1 u1) (.inr (.inr rfl)) u2)).trans (Ext.set (i := 3) (((hrF.set 0 u0).set 1 u1).set 2 u2) (.inr (.inr rfl)) u3)
  have HFI : Hid (∀ W, Ext w2 W → CpW W (.agg #[.slice (some ⟨g0, 0, none⟩) st.length d0, .slice (some ⟨g1, 0, none⟩) pr.length d1, .slice (some ⟨w2.heap.size + 1, 0, none⟩) 0 0, .slice (some ⟨w2.heap.size + 1 + 1, 0, none⟩) 0 0]) R) := fun W h => by
   rw [HE.out]
   obtain ⟨g, c, e, k⟩ := (s0.ext h).src
   obtain ⟨g', c', e', k'⟩ := (s1.ext h).src
   cases e
   cases e'
   exact ⟨_, _, _, _, _, _, _, _, rfl, k, k', .inl ⟨rfl, rfl⟩, .inl ⟨rfl, rfl⟩⟩
  have HBF : Hid (Below w.heap.size w F) := hB2.trans (hBF.mono hB2.size)
  have HF := Lib.hid hF
  have y0 := hrF.cell (i := 0) (by omega)
  have y1 := hrF.cell (i := 1) (by omega)
  have y2 := hrF.cell (i := 2) (by omega)
  have y3 := hrF.cell (i := 3) (by omega)
  have e0 := hrF.frozen 0
  have e1 := hrF.frozen 1
  have e2 := hrF.frozen 2
  have e3 := hrF.frozen 3
  obtain ⟨t0, t1, t2, t3⟩ := ty.stored4 (W := F) (b := w.heap.size + 1) (v0 := .slice (some ⟨g0, 0, none⟩) st.length d0) (v1 := .slice (some ⟨g1, 0, none⟩) pr.length d1) (v2 := .slice (some ⟨w2.heap.size + 1, 0, none⟩) 0 0) (v3 := .slice (some ⟨w2.heap.size + 1 + 1, 0, none⟩) 0 0) y0 y1 y2 y3
  have HTx := Lib.hid t0
  rw [hF] at y0 y1 y2 y3 e0 e1 e2 e3
  clear s0 s1 hl1 hl2 hB1 hb2 hrx k0 k1 k2 k3 HC0 HR0 HWO HC2 HB0 HW0 HZ0 hBF hrF hF u0 u1 u2 u3 f0 f1 f2 f3 hB2 HTx
  have HT0 := Lib.hid t0
  have HT1 := Lib.hid t1
  have HT2 := Lib.hid t2
  have HT3 := Lib.hid t3
  clear t0 t1 t2 t3
  go_wp2_with fail
  rw [← HF.out]
  exact ty.retWo (fn := Tryz.f14) Tryz.results14 rfl HT0.out HT1.out HT2.out HT3.out ⟨⟨_, rfl, HFI.out _ (HEX.out _ _ _ _)⟩, (((HBF.out.setCell hle1 _).setCell hle1 _).setCell hle1 _).setCell hle1 _⟩
structure MWs (lo hi : Nat) (w : World) (x : ty.Wo) (a0 a1 a2 a3 : Option Addr) : Prop where
 st : ty.MIt lo hi w a0 x.fStore
 pr : ty.MPr lo hi w a1 x.fProfiles
 pe : ty.MPe lo hi w a2 x.fPending
 nx : ty.MNx lo hi w a3 x.fNexts
theorem MWs.src {lo : Nat} {w : World} {x : ty.Wo} {a0 a1 a2 a3 : Option Addr} (h : SrcW (some lo) w x a0 a1 a2 a3) : MWs lo w.heap.size w x a0 a1 a2 a3 := ⟨ty.MIt.src h.st, ty.MPr.src h.pr, ty.MPe.src h.pe, ty.MNx.src h.nx⟩
theorem MWs.shp {lo hi : Nat} {w w' : World} {x : ty.Wo} {a0 a1 a2 a3 : Option Addr} (h : MWs lo hi w x a0 a1 a2 a3) (hs : ty.Shp w w') : MWs lo hi w' x a0 a1 a2 a3 := ⟨h.st.shp hs, h.pr.shp hs, h.pe.shp hs, h.nx.shp hs⟩
end Go.Proofs.YtjbdklkingfmpaaGreatDoor.so
