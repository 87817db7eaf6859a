import Derived.Test.YtjbdklkingfmpaaGreatDoorWP4r
import Derived.Test.YtjbdklkingfmpaaGreatDoorYE1r
import Derived.Test.YtjbdklkingfmpaaGreatDoorYDr
import Derived.Test.YtjbdklkingfmpaaGreatDoorST1r
set_option linter.unusedVariables false
set_option linter.unusedSimpArgs false
set_option maxRecDepth 100000
set_option maxHeartbeats 16000000
namespace Go.Proofs.YtjbdklkingfmpaaGreatDoor.so
open Go.ChangeShapes Go.WideShapes Go.ChangeAt Go.RowKit Go.Deep
theorem rec_law (a0 a1 a2 a3 : Option Addr) (c0 c1 c2 c3 : Nat) (x : ty.Wo)  (w : World) (hm : tt.ML w) (hT : wd.TabB w) (hb : SrcW none w x a0 a1 a2 a3) (hs : ty.Sm1Wo x)  :
  Calls Tryz.prog 4 #[.agg #[.slice a0 x.fStore.length c0, .slice a1 x.fProfiles.length c1, .slice a2 x.fPending.length c2, .slice a3 x.fNexts.length c3]] w fun e w' => e = .returned (.bool true) ∧ Below w.heap.size w w' := by
 obtain ⟨s0_, s1_, s2_, s3_⟩ := hs
 have HSZ : Hid (∀ W, Below w.heap.size w W → Calls Tryz.prog 5 #[.agg #[.slice a0 x.fStore.length c0, .slice a1 x.fProfiles.length c1, .slice a2 x.fPending.length c2, .slice a3 x.fNexts.length c3], .int .i64 1048576] W fun e w' => (∃ r : Int, e = .returned (.int .i64 r) ∧ (r = -1 ∨ 0 ≤ r ∧ r = 1048576 - (ty.wt1Wo x : Int))) ∧ Below W.heap.size W w') := fun W h => by
  have hb' := hb.below h
  refine (ty.sz1Wo_any x.fStore x.fProfiles x.fPending x.fNexts a0 c0 a1 c1 a2 c2 a3 c3 1048576 W hb'.st s0_ hb'.pr s1_ hb'.pe s2_ hb'.nx s3_ ⟨by omega, by omega⟩).mono ?_
  rintro e w' ⟨⟨r, rfl, hr⟩, hl⟩
  exact ⟨⟨r, rfl, by unfold ty.wt1Wo; omega⟩, hl⟩
 have HTO : Hid (∀ W, Below w.heap.size w W → ty.wt1Wo x ≤ 1048576 → Calls Tryz.prog 7 #[.agg #[.slice a0 x.fStore.length c0, .slice a1 x.fProfiles.length c1, .slice a2 x.fPending.length c2, .slice a3 x.fNexts.length c3]] W fun e w' => (∃ g0 g1 g2 g3, e = .returned (.agg #[.slice (some ⟨g0, 0, none⟩) x.fStore.length x.fStore.length, .slice (some ⟨g1, 0, none⟩) x.fProfiles.length x.fProfiles.length, .slice (some ⟨g2, 0, none⟩) x.fPending.length x.fPending.length, .slice (some ⟨g3, 0, none⟩) x.fNexts.length x.fNexts.length]) ∧ SrcW (some W.heap.size) w' x (some ⟨g0, 0, none⟩) (some ⟨g1, 0, none⟩) (some ⟨g2, 0, none⟩) (some ⟨g3, 0, none⟩)) ∧ Below W.heap.size W w') := fun W h hw => by
  have hb' := hb.below h
  have hws : ty.wtIt x.fStore ≤ 1048576 ∧ ty.wtPr x.fProfiles ≤ 1048576 ∧ ty.wtPe x.fPending ≤ 1048576 ∧ ty.wtNx x.fNexts ≤ 1048576 := by unfold ty.wt1Wo at hw; omega
  refine (ty.to1Wo_any x.fStore x.fProfiles x.fPending x.fNexts a0 c0 a1 c1 a2 c2 a3 c3 W hb'.st hws.1 hb'.pr hws.2.1 hb'.pe hws.2.2.1 hb'.nx hws.2.2.2).mono ?_
  rintro e w' ⟨⟨g0, g1, g2, g3, rfl, q0, q1, q2, q3⟩, hl⟩
  exact ⟨⟨g0, g1, g2, g3, rfl, ⟨q0, q1, q2, q3⟩⟩, hl⟩
 have H_hm : Hid (tt.ML w) := hm
 have H_hT : Hid (wd.TabB w) := hT
 obtain ⟨rs, hrs⟩ : ∃ rs, recA x = rs := ⟨_, rfl⟩
 have HRL : Hid (ty.wt1Wo x ≤ 1048576 → ty.wt1Wo rs ≤ 1048576) := fun w0 => by rw [← hrs]; exact rec_wt x w0
 have HSP : Hid (∀ (lo : Nat) (A0 A1 A2 A3 : Option Addr) (C0 C1 C2 C3 : Nat) W, SrcW (some lo) W x A0 A1 A2 A3 → ty.wt1Wo x ≤ 1048576 → Calls Tryz.prog 14 #[.agg #[.slice A0 x.fStore.length C0, .slice A1 x.fProfiles.length C1, .slice A2 x.fPending.length C2, .slice A3 x.fNexts.length C3]] W fun e w' => (∃ v, e = .returned v ∧ CpW w' v rs) ∧ Below W.heap.size W w') := fun lo A0 A1 A2 A3 C0 C1 C2 C3 W H w0  => by
  rw [← hrs]
  exact srec_any lo x A0 A1 A2 A3 C0 C1 C2 C3 W H w0
 have HIP : Hid (∀ (lo : Nat) (A0 A1 A2 A3 : Option Addr) (C0 C1 C2 C3 : Nat) W, SrcW (some lo) W x A0 A1 A2 A3 → ty.wt1Wo x ≤ 1048576 → tt.ML W → wd.TabB W → Calls Tryz.prog 15 #[.agg #[.slice A0 x.fStore.length C0, .slice A1 x.fProfiles.length C1, .slice A2 x.fPending.length C2, .slice A3 x.fNexts.length C3]] W fun e w' => (∃ v, e = .returned v ∧ AnW W.heap.size w' v rs) ∧ Below W.heap.size W w') := fun lo A0 A1 A2 A3 C0 C1 C2 C3 W H w0  hm hT => by
  rw [← hrs]
  exact irec_any lo x A0 A1 A2 A3 C0 C1 C2 C3 W H w0 hm hT
 have HEQ : Hid (∀ (b0 b1 b2 b3 d0 d1 d2 d3 : Option Addr) (e0 e1 e2 e3 f0 f1 f2 f3 : Nat) W, SrcW none W x b0 b1 b2 b3 → SrcW none W x d0 d1 d2 d3 → ty.wt1Wo x ≤ 1048576 → Calls Tryz.prog 10 #[.agg #[.slice b0 x.fStore.length e0, .slice b1 x.fProfiles.length e1, .slice b2 x.fPending.length e2, .slice b3 x.fNexts.length e3], .agg #[.slice d0 x.fStore.length f0, .slice d1 x.fProfiles.length f1, .slice d2 x.fPending.length f2, .slice d3 x.fNexts.length f3]] W fun e w' => e = .returned (.bool true) ∧ Below W.heap.size W w') := fun b0 b1 b2 b3 d0 d1 d2 d3 e0 e1 e2 e3 f0 f1 f2 f3 W h h' hw => by
  have hws : ty.wtIt x.fStore ≤ 1048576 ∧ ty.wtPr x.fProfiles ≤ 1048576 ∧ ty.wtPe x.fPending ≤ 1048576 ∧ ty.wtNx x.fNexts ≤ 1048576 := by unfold ty.wt1Wo at hw; omega
  exact ty.eq1Wo_any x.fStore x.fProfiles x.fPending x.fNexts b0 d0 e0 f0 b1 d1 e1 f1 b2 d2 e2 f2 b3 d3 e3 f3 W h.st h'.st hws.1 h.pr h'.pr hws.2.1 h.pe h'.pe hws.2.2.1 h.nx h'.nx hws.2.2.2
 have HER : Hid (∀ (b0 b1 b2 b3 d0 d1 d2 d3 : Option Addr) (e0 e1 e2 e3 f0 f1 f2 f3 : Nat) W, SrcW none W rs b0 b1 b2 b3 → SrcW none W rs d0 d1 d2 d3 → ty.wt1Wo rs ≤ 1048576 → Calls Tryz.prog 10 #[.agg #[.slice b0 rs.fStore.length e0, .slice b1 rs.fProfiles.length e1, .slice b2 rs.fPending.length e2, .slice b3 rs.fNexts.length e3], .agg #[.slice d0 rs.fStore.length f0, .slice d1 rs.fProfiles.length f1, .slice d2 rs.fPending.length f2, .slice d3 rs.fNexts.length f3]] W fun e w' => e = .returned (.bool true) ∧ Below W.heap.size W w') := fun b0 b1 b2 b3 d0 d1 d2 d3 e0 e1 e2 e3 f0 f1 f2 f3 W h h' hw => by
  have hws : ty.wtIt rs.fStore ≤ 1048576 ∧ ty.wtPr rs.fProfiles ≤ 1048576 ∧ ty.wtPe rs.fPending ≤ 1048576 ∧ ty.wtNx rs.fNexts ≤ 1048576 := by unfold ty.wt1Wo at hw; omega
  exact ty.eq1Wo_any rs.fStore rs.fProfiles rs.fPending rs.fNexts b0 d0 e0 f0 b1 d1 e1 f1 b2 d2 e2 f2 b3 d3 e3 f3 W h.st h'.st hws.1 h.pr h'.pr hws.2.1 h.pe h'.pe hws.2.2.1 h.nx h'.nx hws.2.2.2
 have HMK : Hid (∀ (lo hi : Nat) (A0 A1 A2 A3 : Option Addr) (C0 C1 C2 C3 : Nat) W, MWs lo hi W x A0 A1 A2 A3 → hi ≤ W.heap.size → cnW x ≤ 8388608 → Calls Tryz.prog 11 #[.agg #[.slice A0 x.fStore.length C0, .slice A1 x.fProfiles.length C1, .slice A2 x.fPending.length C2, .slice A3 x.fNexts.length C3], .int .i64 1] W fun e w' => e = .returned (.int .i64 ((1 + cnW x : Nat) : Int)) ∧ ty.Rel lo hi W w') := fun lo hi A0 A1 A2 A3 C0 C1 C2 C3 W hM hhi hk => markMW_any lo hi A0 A1 A2 A3 C0 C1 C2 C3 x 1 W hM.st hM.pr hM.pe hM.nx hhi (by omega) (by omega)
 have HCN : Hid (ty.wt1Wo x ≤ 1048576 → cnW x ≤ 8388608) := fun h => by have := cnW_le x; omega
 have HEM : Hid (rs.fPending = [] ∧ rs.fNexts = []) := by show _ ∧ _; rw [← hrs]; unfold recA; split <;> exact ⟨rfl, rfl⟩
 have HCR : Hid (ty.wt1Wo rs ≤ 1048576 → cnW rs ≤ 8388608) := fun h => by have := cnW_le rs; omega
 have HMG : Hid (∀ (lo hi : Nat) (A0 A1 A2 A3 : Option Addr) (C0 C1 C2 C3 : Nat) W, GW lo hi W rs A0 A1 A2 A3 → cnW rs ≤ 8388608 → Calls Tryz.prog 11 #[.agg #[.slice A0 rs.fStore.length C0, .slice A1 rs.fProfiles.length C1, .slice A2 rs.fPending.length C2, .slice A3 rs.fNexts.length C3], .int .i64 1] W fun e w' => e = .returned (.int .i64 ((1 + cnW rs : Nat) : Int)) ∧ SrcW none w' (mkW 1 rs) A0 A1 A2 A3 ∧ ty.Md lo hi W w') := fun lo hi A0 A1 A2 A3 C0 C1 C2 C3 W hG hk => markGW_any lo hi A0 A1 A2 A3 C0 C1 C2 C3 rs 1 W hG (by omega) (by omega)
 have HHE : Hid (∀ (A0 A1 A2 A3 : Option Addr) (C0 C1 C2 C3 : Nat) W, SrcW none W (mkW 1 rs) A0 A1 A2 A3 → cnW rs ≤ 8388608 → Calls Tryz.prog 16 #[.agg #[.slice A0 rs.fStore.length C0, .slice A1 rs.fProfiles.length C1, .slice A2 rs.fPending.length C2, .slice A3 rs.fNexts.length C3], .int .i64 1] W fun e w' => e = .returned (.int .i64 ((1 + cnW rs : Nat) : Int)) ∧ Below W.heap.size W w') := fun A0 A1 A2 A3 C0 C1 C2 C3 W hS hk => heldW_any A0 A1 A2 A3 C0 C1 C2 C3 rs 1 W hS HEM.out (by omega) (by omega)
 clear hb s0_ s1_ s2_ s3_ hrs hm hT
 generalize x.fStore.length = n0 at *
 generalize x.fProfiles.length = n1 at *
 generalize x.fPending.length = n2 at *
 generalize x.fNexts.length = n3 at *
 obtain ⟨m0, hm0_⟩ : ∃ m, rs.fStore.length = m := ⟨_, rfl⟩
 obtain ⟨m1, hm1_⟩ : ∃ m, rs.fProfiles.length = m := ⟨_, rfl⟩
 obtain ⟨m2, hm2_⟩ : ∃ m, rs.fPending.length = m := ⟨_, rfl⟩
 obtain ⟨m3, hm3_⟩ : ∃ m, rs.fNexts.length = m := ⟨_, rfl⟩
 have HLR : Hid (rs.fStore.length = m0 ∧ rs.fProfiles.length = m1 ∧ rs.fPending.length = m2 ∧ rs.fNexts.length = m3) := ⟨hm0_, hm1_, hm2_, hm3_⟩
 rw [hm0_, hm1_, hm2_, hm3_] at HER HMG HHE
 clear hm0_ hm1_ hm2_ hm3_
 obtain ⟨kr, hkr⟩ : ∃ k, cnW rs = k := ⟨_, rfl⟩
 rw [hkr] at HCR HMG HHE
 clear hkr
 obtain ⟨k0, hk0⟩ : ∃ k, cnW x = k := ⟨_, rfl⟩
 rw [hk0] at HMK HCN
 clear hk0
 have HB0 : Hid (Below w.heap.size w (w.alloc (Obj.cells #[.slice a0 n0 c0, .slice a1 n1 c1, .slice a2 n2 c2, .slice a3 n3 c3] 27))) := (Below.refl _ _).alloc (Nat.le_refl _) _
 have HW0 : Hid (WoC (w.alloc (Obj.cells #[.slice a0 n0 c0, .slice a1 n1 c1, .slice a2 n2 c2, .slice a3 n3 c3] 27)) w.heap.size (.slice a0 n0 c0) (.slice a1 n1 c1) (.slice a2 n2 c2) (.slice a3 n3 c3)) := ⟨by simp [go_sem], by simp [go_sem], by simp [go_sem], by simp [go_sem]⟩
 go_enter Tryz.func4, Tryz.ntmps4
 go_wp2_with (go_at_call 5; refine (HSZ.out _ HB0.out).mono ?_; rintro e u0 ⟨⟨r0, rfl, hr0⟩, hlu0⟩; obtain ⟨j0, j1, j2, j3⟩ := HW0.out.below hlu0)
 ·go_ret
  exact ⟨rfl, HB0.out.trans (hlu0.mono HB0.out.size)⟩
 have HW : Hid (ty.wt1Wo x ≤ 1048576) := by
  have h := hr0.resolve_left (by omega)
  show _ ≤ _
  omega
 have HRL1 : Hid (ty.wt1Wo rs ≤ 1048576) := HRL.out HW.out
 have HC0 : Hid (k0 ≤ 8388608) := HCN.out HW.out
 have HCK : Hid (kr ≤ 8388608) := HCR.out HRL1.out
 have B_u0 : Below w.heap.size w u0 := HB0.out.trans (hlu0.mono HB0.out.size)
 have HK_u0 := Lib.hid (HW0.out.below hlu0)
 clear hr0 hlu0
 go_wp2_with (go_at_call 7; refine (HTO.out _ (B_u0) HW.out).mono ?_; rintro e wa ⟨⟨g0, g1, g2, g3, rfl, ho⟩, hl⟩; refine Hid.out ?_)
 refine Lib.hid ?_
 clear j0 j1 j2 j3
 have B_wa : Below w.heap.size w wa := (B_u0).trans (hl.mono (B_u0).size)
 have HK_wa := Lib.hid (HK_u0.out.below hl)
 have HS := Lib.hid ho
 clear ho hl
 go_wp2_with (go_at_call 14; refine (HSP.out _ _ _ _ _ _ _ _ _ _ HS.out HW.out ).mono ?_; rintro e wb ⟨⟨v3, rfl, hv3⟩, hl3⟩; refine Hid.out ?_)
 refine Lib.hid ?_
 obtain ⟨S0, S1, S2, S3, T0, T1, T2, T3, hve3, hss3⟩ := hv3
 rw [HLR.out.1] at hve3
 rw [HLR.out.2.1] at hve3
 rw [HLR.out.2.2.1] at hve3
 rw [HLR.out.2.2.2] at hve3
 subst hve3
 have B_wb : Below w.heap.size w wb := (B_wa).trans (hl3.mono (B_wa).size)
 have HK_wb := Lib.hid (HK_wa.out.below hl3)
 have HP0 := Lib.hid hss3
 clear hl3 hss3 HS
 have HA_s : Hid (Below wb.heap.size wb (wb.alloc (Obj.cells #[.slice S0 m0 T0, .slice S1 m1 T1, .slice S2 m2 T2, .slice S3 m3 T3] 36))) := (Below.refl _ _).alloc (Nat.le_refl _) _
 have B_s : Below w.heap.size w (wb.alloc (Obj.cells #[.slice S0 m0 T0, .slice S1 m1 T1, .slice S2 m2 T2, .slice S3 m3 T3] 36)) := (B_wb).trans (HA_s.out.mono (B_wb).size)
 have HK_s := Lib.hid (HK_wb.out.below HA_s.out)
 have HP_s := Lib.hid (HP0.out.below HA_s.out)
 have HSC_s : Hid (WoC (wb.alloc (Obj.cells #[.slice S0 m0 T0, .slice S1 m1 T1, .slice S2 m2 T2, .slice S3 m3 T3] 36)) wb.heap.size (.slice S0 m0 T0) (.slice S1 m1 T1) (.slice S2 m2 T2) (.slice S3 m3 T3)) := ⟨by simp [go_sem], by simp [go_sem], by simp [go_sem], by simp [go_sem]⟩
 obtain ⟨w3, hw3⟩ : ∃ w3, w3 = (wb.alloc (Obj.cells #[.slice S0 m0 T0, .slice S1 m1 T1, .slice S2 m2 T2, .slice S3 m3 T3] 36)) := ⟨_, rfl⟩
 have HW3 := Lib.hid hw3
 obtain ⟨j0, j1, j2, j3⟩ := HK_s.out
 have hwbl : w.heap.size < wb.heap.size := World.block_lt_of_cell? _ _ HK_wb.out.1
 obtain ⟨jj0, jj1, jj2, jj3⟩ := HK_wb.out
 rw [← hw3] at B_s
 rw [← hw3] at HK_s
 rw [← hw3] at HP_s
 rw [← hw3] at HSC_s
 have C_w3 : Below w3.heap.size w3 w3 := Below.refl _ _
 have HKW3 := Lib.hid HK_s
 have HSW3 := Lib.hid HSC_s
 have HPW3 : Hid (∀ W, Below w3.heap.size w3 W → SrcW none W rs S0 S1 S2 S3) := fun W h => HP_s.out.below h
 have hw3l : w.heap.size < w3.heap.size := World.block_lt_of_cell? _ _ HKW3.out.1
 have hs3l : wb.heap.size < w3.heap.size := World.block_lt_of_cell? _ _ HSW3.out.1
 have B3 : Below w.heap.size w w3 := B_s
 clear hw3
 go_wp2_with (go_at_call 7; rw [← HW3.out]; refine (HTO.out _ (B_s) HW.out).mono ?_; rintro e wx ⟨⟨x0, x1, x2, x3, rfl, ho⟩, hl⟩; refine Hid.out ?_)
 refine Lib.hid ?_
 clear j0 j1 j2 j3 jj0 jj1 jj2 jj3
 have B_wx : Below w.heap.size w wx := (B_s).trans (hl.mono (B_s).size)
 have C_wx : Below w3.heap.size w3 wx := (C_w3).trans (hl.mono (C_w3).size)
 have HK_wx := Lib.hid (HK_s.out.below hl)
 have HSC_wx := Lib.hid (HSC_s.out.below hl)
 have hlo : w3.heap.size ≤ wx.heap.size := hl.size
 have HX := Lib.hid ho
 have HM := Lib.hid (MWs.src ho)
 clear ho hl
 have HA_x : Hid (Below wx.heap.size wx (wx.alloc (Obj.cells #[.slice (some ⟨x0, 0, none⟩) n0 n0, .slice (some ⟨x1, 0, none⟩) n1 n1, .slice (some ⟨x2, 0, none⟩) n2 n2, .slice (some ⟨x3, 0, none⟩) n3 n3] 36))) := (Below.refl _ _).alloc (Nat.le_refl _) _
 have B_x : Below w.heap.size w (wx.alloc (Obj.cells #[.slice (some ⟨x0, 0, none⟩) n0 n0, .slice (some ⟨x1, 0, none⟩) n1 n1, .slice (some ⟨x2, 0, none⟩) n2 n2, .slice (some ⟨x3, 0, none⟩) n3 n3] 36)) := (B_wx).trans (HA_x.out.mono (B_wx).size)
 have C_x : Below w3.heap.size w3 (wx.alloc (Obj.cells #[.slice (some ⟨x0, 0, none⟩) n0 n0, .slice (some ⟨x1, 0, none⟩) n1 n1, .slice (some ⟨x2, 0, none⟩) n2 n2, .slice (some ⟨x3, 0, none⟩) n3 n3] 36)) := (C_wx).trans (HA_x.out.mono (C_wx).size)
 have HK_x := Lib.hid (HK_wx.out.below HA_x.out)
 have HSC_x := Lib.hid (HSC_wx.out.below HA_x.out)
 have HX_x := Lib.hid (HX.out.below HA_x.out)
 have HM_x : Hid (MWs w3.heap.size wx.heap.size (wx.alloc (Obj.cells #[.slice (some ⟨x0, 0, none⟩) n0 n0, .slice (some ⟨x1, 0, none⟩) n1 n1, .slice (some ⟨x2, 0, none⟩) n2 n2, .slice (some ⟨x3, 0, none⟩) n3 n3] 36)) x (some ⟨x0, 0, none⟩) (some ⟨x1, 0, none⟩) (some ⟨x2, 0, none⟩) (some ⟨x3, 0, none⟩)) := HM.out.shp (ty.Shp.below HA_x.out)
 have HXC_x : Hid (WoC (wx.alloc (Obj.cells #[.slice (some ⟨x0, 0, none⟩) n0 n0, .slice (some ⟨x1, 0, none⟩) n1 n1, .slice (some ⟨x2, 0, none⟩) n2 n2, .slice (some ⟨x3, 0, none⟩) n3 n3] 36)) wx.heap.size (.slice (some ⟨x0, 0, none⟩) n0 n0) (.slice (some ⟨x1, 0, none⟩) n1 n1) (.slice (some ⟨x2, 0, none⟩) n2 n2) (.slice (some ⟨x3, 0, none⟩) n3 n3)) := ⟨by simp [go_sem], by simp [go_sem], by simp [go_sem], by simp [go_sem]⟩
 go_wp2_with (go_at_call 15; refine (HIP.out _ _ _ _ _ _ _ _ _ _ HX_x.out HW.out  (H_hm.out.below B_x) (H_hT.out.below B_x)).mono ?_; rintro e w5 ⟨⟨v5, rfl, hv5⟩, hl5⟩; refine Hid.out ?_)
 refine Lib.hid ?_
 obtain ⟨G0, G1, G2, G3, U0, U1, U2, U3, hve5, hgw5⟩ := hv5
 rw [HLR.out.1] at hve5
 rw [HLR.out.2.1] at hve5
 rw [HLR.out.2.2.1] at hve5
 rw [HLR.out.2.2.2] at hve5
 subst hve5
 have B_w5 : Below w.heap.size w w5 := (B_x).trans (hl5.mono (B_x).size)
 have C_w5 : Below w3.heap.size w3 w5 := (C_x).trans (hl5.mono (C_x).size)
 have HK_w5 := Lib.hid (HK_x.out.below hl5)
 have HSC_w5 := Lib.hid (HSC_x.out.below hl5)
 have HX_w5 := Lib.hid (HX_x.out.below hl5)
 have HM_w5 : Hid (MWs w3.heap.size wx.heap.size w5 x (some ⟨x0, 0, none⟩) (some ⟨x1, 0, none⟩) (some ⟨x2, 0, none⟩) (some ⟨x3, 0, none⟩)) := HM_x.out.shp (ty.Shp.below hl5)
 have HXC_w5 := Lib.hid (HXC_x.out.below hl5)
 obtain ⟨lg, hlg⟩ : ∃ lg, (wx.alloc (Obj.cells #[.slice (some ⟨x0, 0, none⟩) n0 n0, .slice (some ⟨x1, 0, none⟩) n1 n1, .slice (some ⟨x2, 0, none⟩) n2 n2, .slice (some ⟨x3, 0, none⟩) n3 n3] 36)).heap.size = lg := ⟨_, rfl⟩
 have hxlg : wx.heap.size ≤ lg := hlg ▸ HA_x.out.size
 have hlg5 : lg ≤ w5.heap.size := hlg ▸ hl5.size
 rw [hlg] at hgw5
 have HG := Lib.hid hgw5
 clear hl5 hgw5 HA_s hlg
 have HA_g : Hid (Below w5.heap.size w5 (w5.alloc (Obj.cells #[.slice G0 m0 U0, .slice G1 m1 U1, .slice G2 m2 U2, .slice G3 m3 U3] 36))) := (Below.refl _ _).alloc (Nat.le_refl _) _
 have B_g : Below w.heap.size w (w5.alloc (Obj.cells #[.slice G0 m0 U0, .slice G1 m1 U1, .slice G2 m2 U2, .slice G3 m3 U3] 36)) := (B_w5).trans (HA_g.out.mono (B_w5).size)
 have C_g : Below w3.heap.size w3 (w5.alloc (Obj.cells #[.slice G0 m0 U0, .slice G1 m1 U1, .slice G2 m2 U2, .slice G3 m3 U3] 36)) := (C_w5).trans (HA_g.out.mono (C_w5).size)
 have HK_g := Lib.hid (HK_w5.out.below HA_g.out)
 have HSC_g := Lib.hid (HSC_w5.out.below HA_g.out)
 have HX_g := Lib.hid (HX_w5.out.below HA_g.out)
 have HM_g : Hid (MWs w3.heap.size wx.heap.size (w5.alloc (Obj.cells #[.slice G0 m0 U0, .slice G1 m1 U1, .slice G2 m2 U2, .slice G3 m3 U3] 36)) x (some ⟨x0, 0, none⟩) (some ⟨x1, 0, none⟩) (some ⟨x2, 0, none⟩) (some ⟨x3, 0, none⟩)) := HM_w5.out.shp (ty.Shp.below HA_g.out)
 have HXC_g := Lib.hid (HXC_w5.out.below HA_g.out)
 have HG_g := Lib.hid (HG.out.below HA_g.out)
 have HGC_g : Hid (WoC (w5.alloc (Obj.cells #[.slice G0 m0 U0, .slice G1 m1 U1, .slice G2 m2 U2, .slice G3 m3 U3] 36)) w5.heap.size (.slice G0 m0 U0) (.slice G1 m1 U1) (.slice G2 m2 U2) (.slice G3 m3 U3)) := ⟨by simp [go_sem], by simp [go_sem], by simp [go_sem], by simp [go_sem]⟩
 obtain ⟨y0_, y1_, y2_, y3_⟩ := HGC_g.out
 obtain ⟨z0_, z1_, z2_, z3_⟩ := HSC_g.out
 obtain ⟨zz0_, zz1_, zz2_, zz3_⟩ := HSC_w5.out
 have hsl5 : wb.heap.size < w5.heap.size := World.block_lt_of_cell? _ _ HSC_w5.out.1
 go_wp2_with (go_at_call 10; refine (HER.out _ _ _ _ _ _ _ _ _ _ _ _ _ _ _ _ _ HG_g.out.src (HPW3.out _ C_g) HRL1.out).mono ?_; rintro e w6 ⟨rfl, hl⟩; refine Hid.out ?_)
 refine Lib.hid ?_
 clear y0_ y1_ y2_ y3_ z0_ z1_ z2_ z3_
 clear zz0_ zz1_ zz2_ zz3_ hsl5
 have B_w6 : Below w.heap.size w w6 := (B_g).trans (hl.mono (B_g).size)
 have C_w6 : Below w3.heap.size w3 w6 := (C_g).trans (hl.mono (C_g).size)
 have HK_w6 := Lib.hid (HK_g.out.below hl)
 have HSC_w6 := Lib.hid (HSC_g.out.below hl)
 have HX_w6 := Lib.hid (HX_g.out.below hl)
 have HM_w6 : Hid (MWs w3.heap.size wx.heap.size w6 x (some ⟨x0, 0, none⟩) (some ⟨x1, 0, none⟩) (some ⟨x2, 0, none⟩) (some ⟨x3, 0, none⟩)) := HM_g.out.shp (ty.Shp.below hl)
 have HXC_w6 := Lib.hid (HXC_g.out.below hl)
 have HG_w6 := Lib.hid (HG_g.out.below hl)
 have HGC_w6 := Lib.hid (HGC_g.out.below hl)
 clear hl
 have HSS : Hid (∀ W, Below w6.heap.size w6 W → WoC W wx.heap.size (.slice (some ⟨x0, 0, none⟩) n0 n0) (.slice (some ⟨x1, 0, none⟩) n1 n1) (.slice (some ⟨x2, 0, none⟩) n2 n2) (.slice (some ⟨x3, 0, none⟩) n3 n3) ∧ WoC W w.heap.size (.slice a0 n0 c0) (.slice a1 n1 c1) (.slice a2 n2 c2) (.slice a3 n3 c3)) := fun W h => ⟨HXC_w6.out.below h, HK_w6.out.below h⟩
 have HSX := Lib.hid HX_w6.out.any
 have HBX : Hid (Below w.heap.size w w6) := B_w6
 have hltb : wx.heap.size < w6.heap.size := World.block_lt_of_cell? _ _ HXC_w6.out.1
 have hltw : w.heap.size < w6.heap.size := World.block_lt_of_cell? _ _ HK_w6.out.1
 obtain ⟨xb, hxb⟩ : ∃ xb, wx.heap.size = xb := ⟨_, rfl⟩
 have hlx : w3.heap.size ≤ xb := hxb ▸ hlo
 rw [hxb] at HSS hltb
 unfold WoC at HSS
 go_wp2_with fail
 go_region_held3 (fun w' => (w'.cell? ⟨xb, 0, none⟩ = some (.slice (some ⟨x0, 0, none⟩) n0 n0) ∧ w'.cell? ⟨xb, 1, none⟩ = some (.slice (some ⟨x1, 0, none⟩) n1 n1) ∧ w'.cell? ⟨xb, 2, none⟩ = some (.slice (some ⟨x2, 0, none⟩) n2 n2) ∧ w'.cell? ⟨xb, 3, none⟩ = some (.slice (some ⟨x3, 0, none⟩) n3 n3)) ∧ w'.cell? ⟨w.heap.size, 0, none⟩ = some (.slice a0 n0 c0) ∧ w'.cell? ⟨w.heap.size, 1, none⟩ = some (.slice a1 n1 c1) ∧ w'.cell? ⟨w.heap.size, 2, none⟩ = some (.slice a2 n2 c2) ∧ w'.cell? ⟨w.heap.size, 3, none⟩ = some (.slice a3 n3 c3))
  (first | exact HSS.out _ (Below.refl _ _).drew | exact HSS.out _ hb8 | exact HSS.out _ hb7 | exact HSS.out _ (Below.refl _ _) | go_keep)
  (first
   | (go_at_call 7; refine (HTO.out _ HBX.out.drew HW.out).mono ?_; rintro e w7 ⟨⟨d0, d1, d2, d3, rfl, ho7⟩, hl7⟩; have hb7 : Below w6.heap.size w6 w7 := (Below.refl w6.heap.size w6).drew.trans hl7; have hs7 := HSX.out.below hb7)
   | (go_at_call 10; refine (HEQ.out _ _ _ _ _ _ _ _ _ _ _ _ _ _ _ _ _ hs7 ho7.any HW.out).mono ?_; rintro e w8 ⟨rfl, hl8⟩; have hb8 : Below w6.heap.size w6 w8 := hb7.trans (hl8.mono hb7.size)))
 refine Hid.out ?_
 refine Lib.hid ?_
 clear hs7 ho7 hl7 hl8 hb7 HSS HSX HBX
 have B_w8 : Below w.heap.size w w8 := (B_w6).trans (hb8.mono (B_w6).size)
 have C_w8 : Below w3.heap.size w3 w8 := (C_w6).trans (hb8.mono (C_w6).size)
 have HK_w8 := Lib.hid (HK_w6.out.below hb8)
 have HSC_w8 := Lib.hid (HSC_w6.out.below hb8)
 have HM_w8 : Hid (MWs w3.heap.size wx.heap.size w8 x (some ⟨x0, 0, none⟩) (some ⟨x1, 0, none⟩) (some ⟨x2, 0, none⟩) (some ⟨x3, 0, none⟩)) := HM_w6.out.shp (ty.Shp.below hb8)
 have HXC_w8 := Lib.hid (HXC_w6.out.below hb8)
 have HG_w8 := Lib.hid (HG_w6.out.below hb8)
 have HGC_w8 := Lib.hid (HGC_w6.out.below hb8)
 clear hb8
 obtain ⟨v0_, v1_, v2_, v3_⟩ := HXC_w8.out
 rw [hxb] at v0_ v1_ v2_ v3_
 have HMC : Hid (∀ W, MWs w3.heap.size wx.heap.size W x (some ⟨x0, 0, none⟩) (some ⟨x1, 0, none⟩) (some ⟨x2, 0, none⟩) (some ⟨x3, 0, none⟩) → wx.heap.size ≤ W.heap.size → Calls Tryz.prog 11 #[.agg #[.slice (some ⟨x0, 0, none⟩) n0 n0, .slice (some ⟨x1, 0, none⟩) n1 n1, .slice (some ⟨x2, 0, none⟩) n2 n2, .slice (some ⟨x3, 0, none⟩) n3 n3], .int .i64 1] W fun e w' => e = .returned (.int .i64 ((1 + k0 : Nat) : Int)) ∧ ty.Rel w3.heap.size wx.heap.size W w') := fun W h h2 => HMK.out _ _ _ _ _ _ _ _ _ _ W h h2 HC0.out
 obtain ⟨K0, hK0⟩ : ∃ K : Nat, 1 + k0 = K := ⟨_, rfl⟩
 rw [hK0] at HMC
 have hKb0 : 0 < K0 ∧ K0 ≤ 8388609 := by have := HC0.out; omega
 have hKn : ¬ (K0 : Int) < 0 := by omega
 clear hK0
 have hxs : wx.heap.size ≤ w8.heap.size := by rw [hxb]; exact Nat.le_of_lt (World.block_lt_of_cell? _ _ v0_)
 go_wp2_with (go_at_call 11; refine (HMC.out _ HM_w8.out hxs).mono ?_; rintro e wm ⟨rfl, hR⟩; refine Hid.out ?_)
 refine Lib.hid ?_
 clear v0_ v1_ v2_ v3_
 have B_wm : Below w.heap.size w wm := (B_w8).trans (hR.toBelow B3.size (B_w8).size)
 have C_wm : Below w3.heap.size w3 wm := (C_w8).trans (hR.toBelow (Nat.le_refl _) (C_w8).size)
 have HG_wm := Lib.hid (HG_w8.out.rel hR hxlg)
 have HK_wm : Hid (WoC wm w.heap.size (.slice a0 n0 c0) (.slice a1 n1 c1) (.slice a2 n2 c2) (.slice a3 n3 c3)) := by
  obtain ⟨y0, y1, y2, y3⟩ := HK_w8.out
  have hbk := hR.2.2.1 w.heap.size (World.block_lt_of_cell? _ _ y0) (.inl (by have := hw3l; omega))
  exact ⟨(World.cell?_of_block (a := ⟨w.heap.size, 0, none⟩) hbk).trans y0, (World.cell?_of_block (a := ⟨w.heap.size, 1, none⟩) hbk).trans y1, (World.cell?_of_block (a := ⟨w.heap.size, 2, none⟩) hbk).trans y2, (World.cell?_of_block (a := ⟨w.heap.size, 3, none⟩) hbk).trans y3⟩
 have HSC_wm : Hid (WoC wm wb.heap.size (.slice S0 m0 T0) (.slice S1 m1 T1) (.slice S2 m2 T2) (.slice S3 m3 T3)) := by
  obtain ⟨y0, y1, y2, y3⟩ := HSC_w8.out
  have hbk := hR.2.2.1 wb.heap.size (World.block_lt_of_cell? _ _ y0) (.inl (by have := hs3l; omega))
  exact ⟨(World.cell?_of_block (a := ⟨wb.heap.size, 0, none⟩) hbk).trans y0, (World.cell?_of_block (a := ⟨wb.heap.size, 1, none⟩) hbk).trans y1, (World.cell?_of_block (a := ⟨wb.heap.size, 2, none⟩) hbk).trans y2, (World.cell?_of_block (a := ⟨wb.heap.size, 3, none⟩) hbk).trans y3⟩
 have HGC_wm : Hid (WoC wm w5.heap.size (.slice G0 m0 U0) (.slice G1 m1 U1) (.slice G2 m2 U2) (.slice G3 m3 U3)) := by
  obtain ⟨y0, y1, y2, y3⟩ := HGC_w8.out
  have hbk := hR.2.2.1 w5.heap.size (World.block_lt_of_cell? _ _ y0) (.inr (by omega))
  exact ⟨(World.cell?_of_block (a := ⟨w5.heap.size, 0, none⟩) hbk).trans y0, (World.cell?_of_block (a := ⟨w5.heap.size, 1, none⟩) hbk).trans y1, (World.cell?_of_block (a := ⟨w5.heap.size, 2, none⟩) hbk).trans y2, (World.cell?_of_block (a := ⟨w5.heap.size, 3, none⟩) hbk).trans y3⟩
 clear hR
 obtain ⟨y0_, y1_, y2_, y3_⟩ := HGC_wm.out
 obtain ⟨z0_, z1_, z2_, z3_⟩ := HSC_wm.out
 go_wp2_with (go_at_call 10; refine (HER.out _ _ _ _ _ _ _ _ _ _ _ _ _ _ _ _ _ HG_wm.out.src (HPW3.out _ C_wm) HRL1.out).mono ?_; rintro e w9 ⟨rfl, hl⟩; refine Hid.out ?_)
 refine Lib.hid ?_
 clear y0_ y1_ y2_ y3_ z0_ z1_ z2_ z3_
 have B_w9 : Below w.heap.size w w9 := (B_wm).trans (hl.mono (B_wm).size)
 have C_w9 : Below w3.heap.size w3 w9 := (C_wm).trans (hl.mono (C_wm).size)
 have HK_w9 := Lib.hid (HK_wm.out.below hl)
 have HSC_w9 := Lib.hid (HSC_wm.out.below hl)
 have HG_w9 := Lib.hid (HG_wm.out.below hl)
 have HGC_w9 := Lib.hid (HGC_wm.out.below hl)
 clear hl
 have HMR : Hid (∀ W, GW lg w5.heap.size W rs G0 G1 G2 G3 → Calls Tryz.prog 11 #[.agg #[.slice G0 m0 U0, .slice G1 m1 U1, .slice G2 m2 U2, .slice G3 m3 U3], .int .i64 1] W fun e w' => e = .returned (.int .i64 ((1 + kr : Nat) : Int)) ∧ SrcW none w' (mkW 1 rs) G0 G1 G2 G3 ∧ ty.Md lg w5.heap.size W w') := fun W h => HMG.out _ _ _ _ _ _ _ _ _ _ W h HCK.out
 have HHR : Hid (∀ W, SrcW none W (mkW 1 rs) G0 G1 G2 G3 → Calls Tryz.prog 16 #[.agg #[.slice G0 m0 U0, .slice G1 m1 U1, .slice G2 m2 U2, .slice G3 m3 U3], .int .i64 1] W fun e w' => e = .returned (.int .i64 ((1 + kr : Nat) : Int)) ∧ Below W.heap.size W w') := fun W h => HHE.out _ _ _ _ _ _ _ _ W h HCK.out
 obtain ⟨KR, hKR⟩ : ∃ K : Nat, 1 + kr = K := ⟨_, rfl⟩
 rw [hKR] at HMR HHR
 have hKb1 : 0 < KR ∧ KR ≤ 8388609 := by have := HCK.out; omega
 have hKm : ¬ (KR : Int) < 0 := by omega
 clear hKR
 obtain ⟨y0_, y1_, y2_, y3_⟩ := HGC_w9.out
 go_wp2_with (go_at_call 11; refine (HMR.out _ HG_w9.out).mono ?_; rintro e w10 ⟨rfl, hmk, hR⟩; refine Hid.out ?_)
 refine Lib.hid ?_
 clear y0_ y1_ y2_ y3_
 have hlg3 : w3.heap.size ≤ lg := Nat.le_trans hlo hxlg
 have C_w10 : Below w3.heap.size w3 w10 := (C_w9).trans (hR.toBelow hlg3 (C_w9).size)
 have B_w10 : Below w.heap.size w w10 := B3.trans (C_w10.mono B3.size)
 have HQ_w10 := Lib.hid hmk
 have HGC_w10 : Hid (WoC w10 w5.heap.size (.slice G0 m0 U0) (.slice G1 m1 U1) (.slice G2 m2 U2) (.slice G3 m3 U3)) := by
  obtain ⟨y0, y1, y2, y3⟩ := HGC_w9.out
  have hbk := hR.2.2 w5.heap.size (World.block_lt_of_cell? _ _ y0) (.inr (Nat.le_refl _))
  exact ⟨(World.cell?_of_block (a := ⟨w5.heap.size, 0, none⟩) hbk).trans y0, (World.cell?_of_block (a := ⟨w5.heap.size, 1, none⟩) hbk).trans y1, (World.cell?_of_block (a := ⟨w5.heap.size, 2, none⟩) hbk).trans y2, (World.cell?_of_block (a := ⟨w5.heap.size, 3, none⟩) hbk).trans y3⟩
 have HK_w10 := Lib.hid (HKW3.out.below C_w10)
 have HSC_w10 := Lib.hid (HSW3.out.below C_w10)
 clear hmk hR
 obtain ⟨y0_, y1_, y2_, y3_⟩ := HGC_w10.out
 go_wp2_with (go_at_call 16; refine (HHR.out _ HQ_w10.out).mono ?_; rintro e w11 ⟨rfl, hl⟩; refine Hid.out ?_)
 refine Lib.hid ?_
 clear y0_ y1_ y2_ y3_
 have B_w11 : Below w.heap.size w w11 := (B_w10).trans (hl.mono (B_w10).size)
 have C_w11 : Below w3.heap.size w3 w11 := (C_w10).trans (hl.mono (C_w10).size)
 have HK_w11 := Lib.hid (HK_w10.out.below hl)
 have HSC_w11 := Lib.hid (HSC_w10.out.below hl)
 have HGC_w11 := Lib.hid (HGC_w10.out.below hl)
 have HQ_w11 := Lib.hid (HQ_w10.out.below hl)
 clear hl
 obtain ⟨j0, j1, j2, j3⟩ := HK_w11.out
 go_wp2_with (go_at_call 7; refine (HTO.out _ (B_w11) HW.out).mono ?_; rintro e wc ⟨⟨h0, h1, h2, h3, rfl, ho⟩, hl⟩; refine Hid.out ?_)
 refine Lib.hid ?_
 clear j0 j1 j2 j3
 have B_wc : Below w.heap.size w wc := (B_w11).trans (hl.mono (B_w11).size)
 have C_wc : Below w3.heap.size w3 wc := (C_w11).trans (hl.mono (C_w11).size)
 have HK_wc := Lib.hid (HK_w11.out.below hl)
 have HSC_wc := Lib.hid (HSC_w11.out.below hl)
 have HGC_wc := Lib.hid (HGC_w11.out.below hl)
 have HQ_wc := Lib.hid (HQ_w11.out.below hl)
 have HV := Lib.hid ho
 clear ho hl
 go_wp2_with (go_at_call 15; refine (HIP.out _ _ _ _ _ _ _ _ _ _ HV.out HW.out  (H_hm.out.below B_wc) (H_hT.out.below B_wc)).mono ?_; rintro e w13 ⟨⟨v13, rfl, hv13⟩, hl⟩; refine Hid.out ?_)
 refine Lib.hid ?_
 obtain ⟨E0, E1, E2, E3, F0, F1, F2, F3, hve13, hgw13⟩ := hv13
 rw [HLR.out.1] at hve13
 rw [HLR.out.2.1] at hve13
 rw [HLR.out.2.2.1] at hve13
 rw [HLR.out.2.2.2] at hve13
 subst hve13
 have B_w13 : Below w.heap.size w w13 := (B_wc).trans (hl.mono (B_wc).size)
 have C_w13 : Below w3.heap.size w3 w13 := (C_wc).trans (hl.mono (C_wc).size)
 have HK_w13 := Lib.hid (HK_wc.out.below hl)
 have HSC_w13 := Lib.hid (HSC_wc.out.below hl)
 have HGC_w13 := Lib.hid (HGC_wc.out.below hl)
 have HQ_w13 := Lib.hid (HQ_wc.out.below hl)
 have HH13 := Lib.hid hgw13.src
 clear hl hgw13 HV
 have HA_h : Hid (Below w13.heap.size w13 (w13.alloc (Obj.cells #[.slice E0 m0 F0, .slice E1 m1 F1, .slice E2 m2 F2, .slice E3 m3 F3] 36))) := (Below.refl _ _).alloc (Nat.le_refl _) _
 have B_h : Below w.heap.size w (w13.alloc (Obj.cells #[.slice E0 m0 F0, .slice E1 m1 F1, .slice E2 m2 F2, .slice E3 m3 F3] 36)) := (B_w13).trans (HA_h.out.mono (B_w13).size)
 have C_h : Below w3.heap.size w3 (w13.alloc (Obj.cells #[.slice E0 m0 F0, .slice E1 m1 F1, .slice E2 m2 F2, .slice E3 m3 F3] 36)) := (C_w13).trans (HA_h.out.mono (C_w13).size)
 have HK_h := Lib.hid (HK_w13.out.below HA_h.out)
 have HSC_h := Lib.hid (HSC_w13.out.below HA_h.out)
 have HGC_h := Lib.hid (HGC_w13.out.below HA_h.out)
 have HQ_h := Lib.hid (HQ_w13.out.below HA_h.out)
 have HH_h := Lib.hid (HH13.out.below HA_h.out)
 have HHC_h : Hid (WoC (w13.alloc (Obj.cells #[.slice E0 m0 F0, .slice E1 m1 F1, .slice E2 m2 F2, .slice E3 m3 F3] 36)) w13.heap.size (.slice E0 m0 F0) (.slice E1 m1 F1) (.slice E2 m2 F2) (.slice E3 m3 F3)) := ⟨by simp [go_sem], by simp [go_sem], by simp [go_sem], by simp [go_sem]⟩
 obtain ⟨y0_, y1_, y2_, y3_⟩ := HHC_h.out
 obtain ⟨z0_, z1_, z2_, z3_⟩ := HSC_h.out
 obtain ⟨zz0_, zz1_, zz2_, zz3_⟩ := HSC_w13.out
 have hsl13 : wb.heap.size < w13.heap.size := World.block_lt_of_cell? _ _ HSC_w13.out.1
 go_wp2_with (go_at_call 10; refine (HER.out _ _ _ _ _ _ _ _ _ _ _ _ _ _ _ _ _ HH_h.out (HPW3.out _ C_h) HRL1.out).mono ?_; rintro e w14 ⟨rfl, hl⟩; refine Hid.out ?_)
 refine Lib.hid ?_
 clear y0_ y1_ y2_ y3_ z0_ z1_ z2_ z3_ zz0_ zz1_ zz2_ zz3_ hsl13
 have B_w14 : Below w.heap.size w w14 := (B_h).trans (hl.mono (B_h).size)
 have C_w14 : Below w3.heap.size w3 w14 := (C_h).trans (hl.mono (C_h).size)
 have HK_w14 := Lib.hid (HK_h.out.below hl)
 have HSC_w14 := Lib.hid (HSC_h.out.below hl)
 have HGC_w14 := Lib.hid (HGC_h.out.below hl)
 have HQ_w14 := Lib.hid (HQ_h.out.below hl)
 have HH_w14 := Lib.hid (HH_h.out.below hl)
 have HHC_w14 := Lib.hid (HHC_h.out.below hl)
 clear hl
 obtain ⟨y0_, y1_, y2_, y3_⟩ := HGC_w14.out
 go_wp2_with (go_at_call 16; refine (HHR.out _ HQ_w14.out).mono ?_; rintro e w15 ⟨rfl, hl⟩; refine Hid.out ?_)
 refine Lib.hid ?_
 clear y0_ y1_ y2_ y3_
 have B_w15 : Below w.heap.size w w15 := (B_w14).trans (hl.mono (B_w14).size)
 have C_w15 : Below w3.heap.size w3 w15 := (C_w14).trans (hl.mono (C_w14).size)
 have HK_w15 := Lib.hid (HK_w14.out.below hl)
 have HSC_w15 := Lib.hid (HSC_w14.out.below hl)
 have HGC_w15 := Lib.hid (HGC_w14.out.below hl)
 have HQ_w15 := Lib.hid (HQ_w14.out.below hl)
 have HH_w15 := Lib.hid (HH_w14.out.below hl)
 have HHC_w15 := Lib.hid (HHC_w14.out.below hl)
 clear hl
 go_wp2
 go_ret
 exact ⟨rfl, B_w15⟩
end Go.Proofs.YtjbdklkingfmpaaGreatDoor.so
