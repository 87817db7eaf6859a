import Derived.Test.YtpfnnjfapcnbnaaGreatDoorWO1p
import Derived.Test.YtpfnnjfapcnbnaaGreatDoorYEp
set_option linter.unusedVariables false
set_option linter.unusedSimpArgs false
set_option maxRecDepth 100000
set_option maxHeartbeats 16000000
namespace Go.Proofs.YtpfnnjfapcnbnaaGreatDoor.so
open Go.ChangeShapes Go.WideShapes Go.ChangeAt Go.RowKit Go.Deep
def cnW (x : ty.Wo) : Nat := ty.cnIt x.fStore + ty.cnPr x.fProfiles + ty.cnPe x.fPending + ty.cnNx x.fNexts
theorem cnW_le (x : ty.Wo) : cnW x ≤ 8 * ty.wt1Wo x := by
 have := ty.cnIt_le x.fStore; have := ty.cnPr_le x.fProfiles; have := ty.cnPe_le x.fPending; have := ty.cnNx_le x.fNexts
 unfold cnW ty.wt1Wo
 omega
theorem markMW_any (lo hi : Nat) (a0 a1 a2 a3 : Option Addr) (c0 c1 c2 c3 : Nat) (x : ty.Wo) (k0 : Nat) (w : World) (h0 : ty.MIt lo hi w a0 x.fStore) (h1 : ty.MPr lo hi w a1 x.fProfiles) (h2 : ty.MPe lo hi w a2 x.fPending) (h3 : ty.MNx lo hi w a3 x.fNexts) (hhi : hi ≤ w.heap.size) (h0k : 0 < k0) (hk : k0 + cnW x ≤ 100000000) :
  Calls Tryz.prog 25 #[.agg #[.slice a0 x.fStore.length c0, .slice a1 x.fProfiles.length c1, .slice a2 x.fPending.length c2, .slice a3 x.fNexts.length c3], .int .i64 (k0 : Int)] w fun e w' => e = .returned (.int .i64 ((k0 + cnW x : Nat) : Int)) ∧ ty.Rel lo hi w w' := by
 have hcn : k0 + ty.cnIt x.fStore + ty.cnPr x.fProfiles + ty.cnPe x.fPending + ty.cnNx x.fNexts ≤ 100000000 := by unfold cnW at hk; omega
 have HM0 : Hid (∀ W, ty.MIt lo hi W a0 x.fStore → Calls Tryz.prog 19 #[.slice a0 x.fStore.length c0, .int .i64 ((k0 : Nat) : Int)] W fun e w' => e = .returned (.int .i64 ((k0 + ty.cnIt x.fStore : Nat) : Int)) ∧ ty.Rel lo hi W w') := fun W h => ty.markIt_any lo hi a0 c0 x.fStore (k0) W h (by omega) (by omega)
 have HQ0 : Hid (ty.MIt lo hi w a0 x.fStore) := h0
 have HM1 : Hid (∀ W, ty.MPr lo hi W a1 x.fProfiles → Calls Tryz.prog 70 #[.slice a1 x.fProfiles.length c1, .int .i64 ((k0 + ty.cnIt x.fStore : Nat) : Int)] W fun e w' => e = .returned (.int .i64 ((k0 + ty.cnIt x.fStore + ty.cnPr x.fProfiles : Nat) : Int)) ∧ ty.Rel lo hi W w') := fun W h => ty.markPr_any lo hi a1 c1 x.fProfiles (k0 + ty.cnIt x.fStore) W h (by omega) (by omega)
 have HQ1 : Hid (ty.MPr lo hi w a1 x.fProfiles) := h1
 have HM2 : Hid (∀ W, ty.MPe lo hi W a2 x.fPending → Calls Tryz.prog 71 #[.slice a2 x.fPending.length c2, .int .i64 ((k0 + ty.cnIt x.fStore + ty.cnPr x.fProfiles : Nat) : Int)] W fun e w' => e = .returned (.int .i64 ((k0 + ty.cnIt x.fStore + ty.cnPr x.fProfiles + ty.cnPe x.fPending : Nat) : Int)) ∧ ty.Rel lo hi W w') := fun W h => ty.markPe_any lo hi a2 c2 x.fPending (k0 + ty.cnIt x.fStore + ty.cnPr x.fProfiles) W h (by omega) (by omega)
 have HQ2 : Hid (ty.MPe lo hi w a2 x.fPending) := h2
 have HM3 : Hid (∀ W, ty.MNx lo hi W a3 x.fNexts → Calls Tryz.prog 72 #[.slice a3 x.fNexts.length c3, .int .i64 ((k0 + ty.cnIt x.fStore + ty.cnPr x.fProfiles + ty.cnPe x.fPending : Nat) : Int)] W fun e w' => e = .returned (.int .i64 ((k0 + ty.cnIt x.fStore + ty.cnPr x.fProfiles + ty.cnPe x.fPending + ty.cnNx x.fNexts : Nat) : Int)) ∧ ty.Rel lo hi W w') := fun W h => ty.markNx_any lo hi a3 c3 x.fNexts (k0 + ty.cnIt x.fStore + ty.cnPr x.fProfiles + ty.cnPe x.fPending) W h (by omega) (by omega)
 have HQ3 : Hid (ty.MNx lo hi w a3 x.fNexts) := h3
 obtain ⟨n0, hn0⟩ : ∃ n, x.fStore.length = n := ⟨_, rfl⟩
 rw [hn0] at HM0 ⊢
 obtain ⟨n1, hn1⟩ : ∃ n, x.fProfiles.length = n := ⟨_, rfl⟩
 rw [hn1] at HM1 ⊢
 obtain ⟨n2, hn2⟩ : ∃ n, x.fPending.length = n := ⟨_, rfl⟩
 rw [hn2] at HM2 ⊢
 obtain ⟨n3, hn3⟩ : ∃ n, x.fNexts.length = n := ⟨_, rfl⟩
 rw [hn3] at HM3 ⊢
 have HCW : Hid (((k0 + cnW x : Nat) : Int) = ((k0 + ty.cnIt x.fStore + ty.cnPr x.fProfiles + ty.cnPe x.fPending + ty.cnNx x.fNexts : Nat) : Int)) := by show _ = _; unfold cnW; congr 1; omega
 rw [HCW.out]
 obtain ⟨K1, hK1⟩ : ∃ K : Nat, k0 + ty.cnIt x.fStore = K := ⟨_, rfl⟩
 rw [hK1] at HM0 HM1 HM2 HM3
 obtain ⟨K2, hK2⟩ : ∃ K : Nat, K1 + ty.cnPr x.fProfiles = K := ⟨_, rfl⟩
 rw [hK2] at HM1 HM2 HM3
 obtain ⟨K3, hK3⟩ : ∃ K : Nat, K2 + ty.cnPe x.fPending = K := ⟨_, rfl⟩
 rw [hK3] at HM2 HM3
 obtain ⟨K4, hK4⟩ : ∃ K : Nat, K3 + ty.cnNx x.fNexts = K := ⟨_, rfl⟩
 rw [hK4] at HM3
 rw [hK1, hK2, hK3, hK4]
 have hKs : K1 ≤ 100000000 ∧ K2 ≤ 100000000 ∧ K3 ≤ 100000000 ∧ K4 ≤ 100000000 := by omega
 have hng : ¬ (K1 : Int) < 0 ∧ ¬ (K2 : Int) < 0 ∧ ¬ (K3 : Int) < 0 ∧ ¬ (K4 : Int) < 0 := by omega
 obtain ⟨g1, g2, g3, g4⟩ := hng
 have HW0 : Hid (WoC (w.alloc (Obj.cells #[.slice a0 n0 c0, .slice a1 n1 c1, .slice a2 n2 c2, .slice a3 n3 c3] 35)) w.heap.size (.slice a0 n0 c0) (.slice a1 n1 c1) (.slice a2 n2 c2) (.slice a3 n3 c3)) := ⟨by simp [go_sem], by simp [go_sem], by simp [go_sem], by simp [go_sem]⟩
 have HA0 : Hid (Below w.heap.size w (w.alloc (Obj.cells #[.slice a0 n0 c0, .slice a1 n1 c1, .slice a2 n2 c2, .slice a3 n3 c3] 35))) := (Below.refl _ _).alloc (Nat.le_refl _) _
 clear hK1 hK2 hK3 hK4 HCW hcn hk hn0 hn1 hn2 hn3 h0 h1 h2 h3
 go_enter Tryz.func25, Tryz.ntmps25
 have HD0 : Hid (ty.Rel lo hi w (w.alloc (Obj.cells #[.slice a0 n0 c0, .slice a1 n1 c1, .slice a2 n2 c2, .slice a3 n3 c3] 35))) := (ty.Rel.refl _ _ _).below HA0.out
 go_wp2_with (go_at_call 19; refine (HM0.out _ (HQ0.out.shp HD0.out.2.2.2)).mono ?_; rintro e w1 ⟨rfl, hmd⟩; refine Hid.out ?_)
 refine Lib.hid ?_
 have HD1 : Hid (ty.Rel lo hi w w1) := HD0.out.trans hmd
 have HW1 : Hid (WoC w1 w.heap.size (.slice a0 n0 c0) (.slice a1 n1 c1) (.slice a2 n2 c2) (.slice a3 n3 c3)) := by
  obtain ⟨u0, u1, u2, u3⟩ := HW0.out
  have hb := hmd.2.2.1 w.heap.size (World.block_lt_of_cell? _ _ u0) (.inr hhi)
  exact ⟨(World.cell?_of_block (a := ⟨w.heap.size, 0, none⟩) hb).trans u0, (World.cell?_of_block (a := ⟨w.heap.size, 1, none⟩) hb).trans u1, (World.cell?_of_block (a := ⟨w.heap.size, 2, none⟩) hb).trans u2, (World.cell?_of_block (a := ⟨w.heap.size, 3, none⟩) hb).trans u3⟩
 obtain ⟨v0, v1, v2, v3⟩ := HW1.out
 clear hmd
 go_wp2_with (go_at_call 70; refine (HM1.out _ (HQ1.out.shp HD1.out.2.2.2)).mono ?_; rintro e w2 ⟨rfl, hmd⟩; refine Hid.out ?_)
 refine Lib.hid ?_
 have HD2 : Hid (ty.Rel lo hi w w2) := HD1.out.trans hmd
 have HW2 : Hid (WoC w2 w.heap.size (.slice a0 n0 c0) (.slice a1 n1 c1) (.slice a2 n2 c2) (.slice a3 n3 c3)) := by
  obtain ⟨u0, u1, u2, u3⟩ := HW1.out
  have hb := hmd.2.2.1 w.heap.size (World.block_lt_of_cell? _ _ u0) (.inr hhi)
  exact ⟨(World.cell?_of_block (a := ⟨w.heap.size, 0, none⟩) hb).trans u0, (World.cell?_of_block (a := ⟨w.heap.size, 1, none⟩) hb).trans u1, (World.cell?_of_block (a := ⟨w.heap.size, 2, none⟩) hb).trans u2, (World.cell?_of_block (a := ⟨w.heap.size, 3, none⟩) hb).trans u3⟩
 obtain ⟨v0, v1, v2, v3⟩ := HW2.out
 clear hmd
 go_wp2_with (go_at_call 71; refine (HM2.out _ (HQ2.out.shp HD2.out.2.2.2)).mono ?_; rintro e w3 ⟨rfl, hmd⟩; refine Hid.out ?_)
 refine Lib.hid ?_
 have HD3 : Hid (ty.Rel lo hi w w3) := HD2.out.trans hmd
 have HW3 : Hid (WoC w3 w.heap.size (.slice a0 n0 c0) (.slice a1 n1 c1) (.slice a2 n2 c2) (.slice a3 n3 c3)) := by
  obtain ⟨u0, u1, u2, u3⟩ := HW2.out
  have hb := hmd.2.2.1 w.heap.size (World.block_lt_of_cell? _ _ u0) (.inr hhi)
  exact ⟨(World.cell?_of_block (a := ⟨w.heap.size, 0, none⟩) hb).trans u0, (World.cell?_of_block (a := ⟨w.heap.size, 1, none⟩) hb).trans u1, (World.cell?_of_block (a := ⟨w.heap.size, 2, none⟩) hb).trans u2, (World.cell?_of_block (a := ⟨w.heap.size, 3, none⟩) hb).trans u3⟩
 obtain ⟨v0, v1, v2, v3⟩ := HW3.out
 clear hmd
 go_wp2_with (go_at_call 72; refine (HM3.out _ (HQ3.out.shp HD3.out.2.2.2)).mono ?_; rintro e w4 ⟨rfl, hmd⟩; refine Hid.out ?_)
 refine Lib.hid ?_
 have HD4 : Hid (ty.Rel lo hi w w4) := HD3.out.trans hmd
 have HW4 : Hid (WoC w4 w.heap.size (.slice a0 n0 c0) (.slice a1 n1 c1) (.slice a2 n2 c2) (.slice a3 n3 c3)) := by
  obtain ⟨u0, u1, u2, u3⟩ := HW3.out
  have hb := hmd.2.2.1 w.heap.size (World.block_lt_of_cell? _ _ u0) (.inr hhi)
  exact ⟨(World.cell?_of_block (a := ⟨w.heap.size, 0, none⟩) hb).trans u0, (World.cell?_of_block (a := ⟨w.heap.size, 1, none⟩) hb).trans u1, (World.cell?_of_block (a := ⟨w.heap.size, 2, none⟩) hb).trans u2, (World.cell?_of_block (a := ⟨w.heap.size, 3, none⟩) hb).trans u3⟩
 obtain ⟨v0, v1, v2, v3⟩ := HW4.out
 clear hmd
 go_wp2
 go_ret
 exact ⟨rfl, HD4.out⟩
structure MWs (lo hi : Nat) (w : World) (x : ty.Wo) (a0 a1 a2 a3 : Option Addr) : Prop where
 st : ty.MIt lo hi w a0 x.fStore
 pr : ty.MPr lo hi w a1 x.fProfiles
 pe : ty.MPe lo hi w a2 x.fPending
 nx : ty.MNx lo hi w a3 x.fNexts
theorem MWs.src {lo : Nat} {w : World} {x : ty.Wo} {a0 a1 a2 a3 : Option Addr} (h : SrcW (some lo) w x a0 a1 a2 a3) : MWs lo w.heap.size w x a0 a1 a2 a3 := ⟨ty.MIt.src h.st, ty.MPr.src h.pr, ty.MPe.src h.pe, ty.MNx.src h.nx⟩
theorem MWs.shp {lo hi : Nat} {w w' : World} {x : ty.Wo} {a0 a1 a2 a3 : Option Addr} (h : MWs lo hi w x a0 a1 a2 a3) (hs : ty.Shp w w') : MWs lo hi w' x a0 a1 a2 a3 := ⟨h.st.shp hs, h.pr.shp hs, h.pe.shp hs, h.nx.shp hs⟩
end Go.Proofs.YtpfnnjfapcnbnaaGreatDoor.so
