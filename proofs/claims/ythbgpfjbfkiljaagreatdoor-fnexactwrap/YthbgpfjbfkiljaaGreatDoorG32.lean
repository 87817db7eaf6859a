import Derived.Test.YthbgpfjbfkiljaaGreatDoorG30
import Derived.Test.YthbgpfjbfkiljaaGreatDoorG31
import Derived.Test.YthbgpfjbfkiljaaGreatDoorG20
import Derived.Test.YthbgpfjbfkiljaaGreatDoorG21
import Derived.Test.YthbgpfjbfkiljaaGreatDoorG27
import Derived.Test.YthbgpfjbfkiljaaGreatDoorG28
import Derived.Test.YthbgpfjbfkiljaaGreatDoorG26
import Derived.Test.YthbgpfjbfkiljaaGreatDoorG01
import Derived.Test.YthbgpfjbfkiljaaGreatDoorG06
import Derived.Lib.LaidTab
set_option linter.unusedVariables false
set_option linter.unusedSimpArgs false
set_option maxRecDepth 100000
set_option maxHeartbeats 16000000
namespace Go.Proofs.YthbgpfjbfkiljaaGreatDoor.so
open Go.ChangeShapes Go.WideShapes Go.ChangeAt Go.RowKit Go.Deep
def GZ (lo hi : Nat) (w : World) (a : Option Addr) (l : List ty.Et) : Prop := ty.GEt lo hi w a l ∧ hi ≤ w.heap.size
theorem GZ.below {lo hi : Nat} {w w' : World} {a : Option Addr} {l : List ty.Et} (h : GZ lo hi w a l) (hb : Below w.heap.size w w') : GZ lo hi w' a l := ⟨h.1.kept fun p _ hp => hb.block p (Nat.lt_of_lt_of_le hp h.2), Nat.le_trans h.2 hb.size⟩
theorem GZ.rel {lo hi lo' hi' : Nat} {w w' : World} {a : Option Addr} {l : List ty.Et} (h : GZ lo hi w a l) (hR : ty.Rel lo' hi' w w') (hd : hi' ≤ lo) : GZ lo hi w' a l := ⟨h.1.kept fun p h1 h2 => hR.2.2.1 p (Nat.lt_of_lt_of_le h2 h.2) (.inr (Nat.le_trans hd h1)), Nat.le_trans h.2 hR.2.1⟩
theorem wrap_law (a0 a1 a2 a3 : Option Addr) (c0 c1 c2 c3 : Nat) (x : ty.Wo) (b1 : Option Addr) (d1 : Nat) (p1 : List ByteArray) (w : World) (hm : tt.ML w) (hT : wd.TabB w) (hb : SrcW none w x a0 a1 a2 a3) (hs : ty.Sm1Wo x) (hb1 : ty.SrcS none w b1 p1) (hs1 : ty.SmS p1) :
  Calls Tryz.prog 3 #[.agg #[.slice a0 x.fStore.length c0, .slice a1 x.fProfiles.length c1, .slice a2 x.fPending.length c2, .slice a3 x.fNexts.length c3], .slice b1 p1.length d1] w fun e w' => e = .returned (.bool true) ∧ Below w.heap.size w w' := by
 obtain ⟨s0_, s1_, s2_, s3_⟩ := hs
 have HSZ : Hid (∀ W, Below w.heap.size w W → Calls Tryz.prog 4 #[.agg #[.slice a0 x.fStore.length c0, .slice a1 x.fProfiles.length c1, .slice a2 x.fPending.length c2, .slice a3 x.fNexts.length c3], .int .i64 1048576] W fun e w' => (∃ r : Int, e = .returned (.int .i64 r) ∧ (r = -1 ∨ 0 ≤ r ∧ r = 1048576 - (ty.wt1Wo x : Int))) ∧ Below W.heap.size W w') := fun W h => by
  have hb' := hb.below h
  refine (ty.sz1Wo_any x.fStore x.fProfiles x.fPending x.fNexts a0 c0 a1 c1 a2 c2 a3 c3 1048576 W hb'.st s0_ hb'.pr s1_ hb'.pe s2_ hb'.nx s3_ ⟨by omega, by omega⟩).mono ?_
  rintro e w' ⟨⟨r, rfl, hr⟩, hl⟩
  exact ⟨⟨r, rfl, by unfold ty.wt1Wo; omega⟩, hl⟩
 have HTO : Hid (∀ W, Below w.heap.size w W → ty.wt1Wo x ≤ 1048576 → Calls Tryz.prog 7 #[.agg #[.slice a0 x.fStore.length c0, .slice a1 x.fProfiles.length c1, .slice a2 x.fPending.length c2, .slice a3 x.fNexts.length c3]] W fun e w' => (∃ g0 g1 g2 g3, e = .returned (.agg #[.slice (some ⟨g0, 0, none⟩) x.fStore.length x.fStore.length, .slice (some ⟨g1, 0, none⟩) x.fProfiles.length x.fProfiles.length, .slice (some ⟨g2, 0, none⟩) x.fPending.length x.fPending.length, .slice (some ⟨g3, 0, none⟩) x.fNexts.length x.fNexts.length]) ∧ SrcW (some W.heap.size) w' x (some ⟨g0, 0, none⟩) (some ⟨g1, 0, none⟩) (some ⟨g2, 0, none⟩) (some ⟨g3, 0, none⟩)) ∧ Below W.heap.size W w') := fun W h hw => by
  have hb' := hb.below h
  have hws : ty.wtIt x.fStore ≤ 1048576 ∧ ty.wtPr x.fProfiles ≤ 1048576 ∧ ty.wtPe x.fPending ≤ 1048576 ∧ ty.wtNx x.fNexts ≤ 1048576 := by unfold ty.wt1Wo at hw; omega
  refine (ty.to1Wo_any x.fStore x.fProfiles x.fPending x.fNexts a0 c0 a1 c1 a2 c2 a3 c3 W hb'.st hws.1 hb'.pr hws.2.1 hb'.pe hws.2.2.1 hb'.nx hws.2.2.2).mono ?_
  rintro e w' ⟨⟨g0, g1, g2, g3, rfl, q0, q1, q2, q3⟩, hl⟩
  exact ⟨⟨g0, g1, g2, g3, rfl, ⟨q0, q1, q2, q3⟩⟩, hl⟩
 have HSZ1 : Hid (∀ (W : World) (L : Int), Below w.heap.size w W → 0 ≤ L → L ≤ 1048576 → Calls Tryz.prog 5 #[.slice b1 p1.length d1, .int .i64 L] W fun e w' => (∃ r : Int, e = .returned (.int .i64 r) ∧ (r = -1 ∨ 0 ≤ r ∧ r = L - (ty.wtS p1 : Int))) ∧ Below W.heap.size W w') := fun W L h h0 h1 => ty.szS_any b1 d1 p1 L W (hb1.below h) hs1 ⟨h0, h1⟩
 have HTO1 : Hid (∀ W, Below w.heap.size w W → ty.wtS p1 ≤ 1048576 → Calls Tryz.prog 8 #[.slice b1 p1.length d1] W fun e w' => e = .returned (.slice (some ⟨W.heap.size, 0, none⟩) p1.length p1.length) ∧ ty.SrcS (some W.heap.size) w' (some ⟨W.heap.size, 0, none⟩) p1 ∧ Below W.heap.size W w') := fun W h hw => ty.toS_any b1 d1 p1 W (hb1.below h) hw
 have H_hm : Hid (tt.ML w) := hm
 have H_hT : Hid (wd.TabB w) := hT
 obtain ⟨rs, hrs⟩ : ∃ rs, (wr.ansW x p1).1 = rs := ⟨_, rfl⟩
 obtain ⟨r2, hr2⟩ : ∃ r, (wr.ansW x p1).2 = r := ⟨_, rfl⟩
 have HRL : Hid (ty.wt1Wo x ≤ 1048576 → ty.wtS p1 ≤ 1048576 → wr.BigE rs) := fun w0 w1  => by rw [← hrs]; exact wr.ans_big x p1
 have HSP : Hid (∀ (lo : Nat) (A0 A1 A2 A3 : Option Addr) (lo1 : Nat) (B1 : Option Addr) W, SrcW (some lo) W x A0 A1 A2 A3 → ty.wt1Wo x ≤ 1048576 → ty.SrcS (some lo1) W B1 p1 → ty.wtS p1 ≤ 1048576 → Calls Tryz.prog 6 #[.agg #[.slice A0 x.fStore.length x.fStore.length, .slice A1 x.fProfiles.length x.fProfiles.length, .slice A2 x.fPending.length x.fPending.length, .slice A3 x.fNexts.length x.fNexts.length], .slice B1 p1.length p1.length] W fun e w' => (∃ v, e = .returned (.tuple #[v, .bool r2]) ∧ wr.CpE w' v rs) ∧ Below W.heap.size W w') := fun lo A0 A1 A2 A3 lo1 B1 W H w0 H1 w1  => by
  rw [← hrs, ← hr2]
  exact wr.sw_any lo lo1 x p1 A0 A1 A2 A3 B1 _ _ _ _ _ W H w0 H1
 have HIP : Hid (∀ (lo : Nat) (A0 A1 A2 A3 : Option Addr) (lo1 : Nat) (B1 : Option Addr) W, SrcW (some lo) W x A0 A1 A2 A3 → ty.wt1Wo x ≤ 1048576 → ty.SrcS (some lo1) W B1 p1 → ty.wtS p1 ≤ 1048576 → tt.ML W → wd.TabB W → Calls Tryz.prog 9 #[.agg #[.slice A0 x.fStore.length x.fStore.length, .slice A1 x.fProfiles.length x.fProfiles.length, .slice A2 x.fPending.length x.fPending.length, .slice A3 x.fNexts.length x.fNexts.length], .slice B1 p1.length p1.length] W fun e w' => (∃ v, e = .returned (.tuple #[v, .bool r2]) ∧ wr.AnE W.heap.size w' v rs) ∧ Below W.heap.size W w') := fun lo A0 A1 A2 A3 lo1 B1 W H w0 H1 w1  hm hT => by
  rw [← hrs, ← hr2]
  exact wr.iw_any lo lo1 x p1 A0 A1 A2 A3 B1 _ _ _ _ _ W H w0 H1 hm hT
 have HEQ : Hid (∀ (b0 b1 b2 b3 d0 d1 d2 d3 : Option Addr) (e0 e1 e2 e3 f0 f1 f2 f3 : Nat) W, SrcW none W x b0 b1 b2 b3 → SrcW none W x d0 d1 d2 d3 → ty.wt1Wo x ≤ 1048576 → Calls Tryz.prog 11 #[.agg #[.slice b0 x.fStore.length e0, .slice b1 x.fProfiles.length e1, .slice b2 x.fPending.length e2, .slice b3 x.fNexts.length e3], .agg #[.slice d0 x.fStore.length f0, .slice d1 x.fProfiles.length f1, .slice d2 x.fPending.length f2, .slice d3 x.fNexts.length f3]] W fun e w' => e = .returned (.bool true) ∧ Below W.heap.size W w') := fun b0 b1 b2 b3 d0 d1 d2 d3 e0 e1 e2 e3 f0 f1 f2 f3 W h h' hw => by
  have hws : ty.wtIt x.fStore ≤ 1048576 ∧ ty.wtPr x.fProfiles ≤ 1048576 ∧ ty.wtPe x.fPending ≤ 1048576 ∧ ty.wtNx x.fNexts ≤ 1048576 := by unfold ty.wt1Wo at hw; omega
  exact ty.eq1Wo_any x.fStore x.fProfiles x.fPending x.fNexts b0 d0 e0 f0 b1 d1 e1 f1 b2 d2 e2 f2 b3 d3 e3 f3 W h.st h'.st hws.1 h.pr h'.pr hws.2.1 h.pe h'.pe hws.2.2.1 h.nx h'.nx hws.2.2.2
 have HMK : Hid (∀ (lo hi : Nat) (A0 A1 A2 A3 : Option Addr) (C0 C1 C2 C3 : Nat) W, MWs lo hi W x A0 A1 A2 A3 → hi ≤ W.heap.size → cnW x ≤ 8388608 → Calls Tryz.prog 13 #[.agg #[.slice A0 x.fStore.length C0, .slice A1 x.fProfiles.length C1, .slice A2 x.fPending.length C2, .slice A3 x.fNexts.length C3], .int .i64 1] W fun e w' => e = .returned (.int .i64 ((1 + cnW x : Nat) : Int)) ∧ ty.Rel lo hi W w') := fun lo hi A0 A1 A2 A3 C0 C1 C2 C3 W hM hhi hk => markMW_any lo hi A0 A1 A2 A3 C0 C1 C2 C3 x 1 W hM.st hM.pr hM.pe hM.nx hhi (by omega) (by omega)
 have HCN : Hid (ty.wt1Wo x ≤ 1048576 → cnW x ≤ 8388608) := fun h => by have := cnW_le x; omega
 have HEQ1 : Hid (∀ (A A' : Option Addr) (c c' : Nat) W, ty.SrcS none W A p1 → ty.SrcS none W A' p1 → ty.wtS p1 ≤ 1048576 → Calls Tryz.prog 12 #[.slice A p1.length c, .slice A' p1.length c'] W fun e w' => e = .returned (.bool true) ∧ Below W.heap.size W w') := fun A A' c c' W h h' hw => ty.eqS_any A A' c c' p1 W h h' hw
 have HMK1 : Hid (∀ (lo hi : Nat) (A : Option Addr) (c k : Nat) W, ty.MS lo hi W A p1 → 0 < k → k + ty.cnS p1 ≤ 100000000 → Calls Tryz.prog 14 #[.slice A p1.length c, .int .i64 (k : Int)] W fun e w' => e = .returned (.int .i64 ((k + ty.cnS p1 : Nat) : Int)) ∧ ty.Rel lo hi W w') := fun lo hi A c k W hM h0 hk => ty.markS_all lo hi A c p1 k W hM h0 hk
 have HCN1 : Hid (ty.wtS p1 ≤ 1048576 → ty.cnS p1 ≤ 8388608) := fun h => by have := ty.cnS_le p1; omega
 clear hb s0_ s1_ s2_ s3_ hrs hr2 hb1 hs1 hm hT
 generalize x.fStore.length = n0 at *
 generalize x.fProfiles.length = n1 at *
 generalize x.fPending.length = n2 at *
 generalize x.fNexts.length = n3 at *
 generalize p1.length = m1 at *
 obtain ⟨k0, hk0⟩ : ∃ k, cnW x = k := ⟨_, rfl⟩
 rw [hk0] at HMK HCN
 clear hk0
 obtain ⟨k1, hk1⟩ : ∃ k, ty.cnS p1 = k := ⟨_, rfl⟩
 rw [hk1] at HMK1 HCN1
 clear hk1
 have HB0 : Hid (Below w.heap.size w (w.alloc (Obj.cells #[.slice a0 n0 c0, .slice a1 n1 c1, .slice a2 n2 c2, .slice a3 n3 c3] 27))) := (Below.refl _ _).alloc (Nat.le_refl _) _
 have HW0 : Hid (WoC (w.alloc (Obj.cells #[.slice a0 n0 c0, .slice a1 n1 c1, .slice a2 n2 c2, .slice a3 n3 c3] 27)) w.heap.size (.slice a0 n0 c0) (.slice a1 n1 c1) (.slice a2 n2 c2) (.slice a3 n3 c3)) := ⟨by simp [go_sem], by simp [go_sem], by simp [go_sem], by simp [go_sem]⟩
 go_enter Tryz.func3, Tryz.ntmps3
 go_wp2_with (go_at_call 4; refine (HSZ.out _ HB0.out).mono ?_; rintro e u0 ⟨⟨r0, rfl, hr0⟩, hlu0⟩)
 ·go_ret
  exact ⟨rfl, HB0.out.trans (hlu0.mono HB0.out.size)⟩
 have HW : Hid (ty.wt1Wo x ≤ 1048576) := by
  have h := hr0.resolve_left (by omega)
  show _ ≤ _
  omega
 have hrr0 : 0 ≤ r0 ∧ r0 ≤ 1048576 := by omega
 have HC0 : Hid (k0 ≤ 8388608) := HCN.out HW.out
 have B_u0 : Below w.heap.size w u0 := HB0.out.trans (hlu0.mono HB0.out.size)
 have HK_u0 : Hid (WoC u0 w.heap.size (.slice a0 n0 c0) (.slice a1 n1 c1) (.slice a2 n2 c2) (.slice a3 n3 c3)) := HW0.out.below hlu0
 clear hr0 hlu0
 go_wp2_with (go_at_call 5; refine (HSZ1.out _ _ (B_u0) (by omega) (by omega)).mono ?_; rintro e u1 ⟨⟨r1, rfl, hr1⟩, hlu1⟩; obtain ⟨j0, j1, j2, j3⟩ := HK_u0.out.below hlu1)
 ·go_ret
  exact ⟨rfl, (B_u0).trans (hlu1.mono (B_u0).size)⟩
 have HW1 : Hid (ty.wtS p1 ≤ 1048576) := by
  have h := hr1.resolve_left (by omega)
  show _ ≤ _
  omega
 have hrr1 : 0 ≤ r1 ∧ r1 ≤ 1048576 := by omega
 clear hr1
 have B_u1 : Below w.heap.size w u1 := (B_u0).trans (hlu1.mono (B_u0).size)
 have HK_u1 : Hid (WoC u1 w.heap.size (.slice a0 n0 c0) (.slice a1 n1 c1) (.slice a2 n2 c2) (.slice a3 n3 c3)) := HK_u0.out.below hlu1
 clear hlu1
 have HC1 : Hid (k1 ≤ 8388608) := HCN1.out HW1.out
 have HRL1 : Hid (wr.BigE rs) := HRL.out HW.out HW1.out 
 have HCR : Hid (ty.cnEt rs ≤ 33555200) := by show _ ≤ _; have h1 := ty.cnEt_le rs; have h2 := HRL1.out.2; omega
 go_wp2_with (go_at_call 7; refine (HTO.out _ (B_u1) HW.out).mono ?_; rintro e wa ⟨⟨g0, g1, g2, g3, rfl, ho⟩, hl⟩; refine Hid.out ?_)
 refine Lib.hid ?_
 clear j0 j1 j2 j3
 have B_wa : Below w.heap.size w wa := (B_u1).trans (hl.mono (B_u1).size)
 have HK_wa : Hid (WoC wa w.heap.size (.slice a0 n0 c0) (.slice a1 n1 c1) (.slice a2 n2 c2) (.slice a3 n3 c3)) := HK_u1.out.below hl
 have HS : Hid (SrcW (some u1.heap.size) wa x (some ⟨g0, 0, none⟩) (some ⟨g1, 0, none⟩) (some ⟨g2, 0, none⟩) (some ⟨g3, 0, none⟩)) := ho
 clear ho hl
 go_wp2_with (go_at_call 8; refine (HTO1.out _ (B_wa) HW1.out).mono ?_; rintro e wa1 ⟨rfl, ho, hl⟩; refine Hid.out ?_)
 refine Lib.hid ?_
 have B_wa1 : Below w.heap.size w wa1 := (B_wa).trans (hl.mono (B_wa).size)
 have HK_wa1 : Hid (WoC wa1 w.heap.size (.slice a0 n0 c0) (.slice a1 n1 c1) (.slice a2 n2 c2) (.slice a3 n3 c3)) := HK_wa.out.below hl
 have HS_wa1 : Hid (SrcW (some u1.heap.size) wa1 x (some ⟨g0, 0, none⟩) (some ⟨g1, 0, none⟩) (some ⟨g2, 0, none⟩) (some ⟨g3, 0, none⟩)) := HS.out.below hl
 have HS1 : Hid (ty.SrcS (some wa.heap.size) wa1 (some ⟨wa.heap.size, 0, none⟩) p1) := ho
 clear ho hl
 go_wp2_with (go_at_call 6; refine (HSP.out _ _ _ _ _ _ _ _ HS_wa1.out HW.out HS1.out HW1.out ).mono ?_; rintro e w3 ⟨⟨v3, rfl, hv3⟩, hl3⟩; refine Hid.out ?_)
 refine Lib.hid ?_
 obtain ⟨g3, c3_, hve3, hss3⟩ := hv3
 subst hve3
 have HP : Hid (∀ W, Below w3.heap.size w3 W → ty.SrcEt none W (some ⟨g3, 0, none⟩) rs) := fun W h => hss3.below h
 have B_w3 : Below w.heap.size w w3 := (B_wa1).trans (hl3.mono (B_wa1).size)
 have HK_w3 : Hid (WoC w3 w.heap.size (.slice a0 n0 c0) (.slice a1 n1 c1) (.slice a2 n2 c2) (.slice a3 n3 c3)) := HK_wa1.out.below hl3
 clear hl3 hss3 HS_wa1 HS1
 have C_w3 : Below w3.heap.size w3 w3 := Below.refl _ _
 have HKW3 : Hid (WoC w3 w.heap.size (.slice a0 n0 c0) (.slice a1 n1 c1) (.slice a2 n2 c2) (.slice a3 n3 c3)) := HK_w3
 have hw3l : w.heap.size < w3.heap.size := World.block_lt_of_cell? _ _ HK_w3.out.1
 obtain ⟨j0, j1, j2, j3⟩ := HK_w3.out
 go_wp2_with (go_at_call 7; refine (HTO.out _ (B_w3) HW.out).mono ?_; rintro e wx ⟨⟨x0, x1, x2, x3, rfl, ho⟩, hl⟩; refine Hid.out ?_)
 refine Lib.hid ?_
 clear j0 j1 j2 j3
 have B_wx : Below w.heap.size w wx := (B_w3).trans (hl.mono (B_w3).size)
 have C_wx : Below w3.heap.size w3 wx := (C_w3).trans (hl.mono (C_w3).size)
 have HK_wx : Hid (WoC wx w.heap.size (.slice a0 n0 c0) (.slice a1 n1 c1) (.slice a2 n2 c2) (.slice a3 n3 c3)) := HK_w3.out.below hl
 have hlo : w3.heap.size ≤ wx.heap.size := hl.size
 have HX : Hid (SrcW (some w3.heap.size) wx x (some ⟨x0, 0, none⟩) (some ⟨x1, 0, none⟩) (some ⟨x2, 0, none⟩) (some ⟨x3, 0, none⟩)) := ho
 have HM : Hid (MWs w3.heap.size wx.heap.size wx x (some ⟨x0, 0, none⟩) (some ⟨x1, 0, none⟩) (some ⟨x2, 0, none⟩) (some ⟨x3, 0, none⟩)) := MWs.src ho
 clear ho hl
 have HA : Hid (Below wx.heap.size wx (wx.alloc (Obj.cells #[.slice (some ⟨x0, 0, none⟩) n0 n0, .slice (some ⟨x1, 0, none⟩) n1 n1, .slice (some ⟨x2, 0, none⟩) n2 n2, .slice (some ⟨x3, 0, none⟩) n3 n3] 39))) := (Below.refl _ _).alloc (Nat.le_refl _) _
 have HXC0 : Hid (WoC (wx.alloc (Obj.cells #[.slice (some ⟨x0, 0, none⟩) n0 n0, .slice (some ⟨x1, 0, none⟩) n1 n1, .slice (some ⟨x2, 0, none⟩) n2 n2, .slice (some ⟨x3, 0, none⟩) n3 n3] 39)) wx.heap.size (.slice (some ⟨x0, 0, none⟩) n0 n0) (.slice (some ⟨x1, 0, none⟩) n1 n1) (.slice (some ⟨x2, 0, none⟩) n2 n2) (.slice (some ⟨x3, 0, none⟩) n3 n3)) := ⟨by simp [go_sem], by simp [go_sem], by simp [go_sem], by simp [go_sem]⟩
 have BA : Below w.heap.size w (wx.alloc (Obj.cells #[.slice (some ⟨x0, 0, none⟩) n0 n0, .slice (some ⟨x1, 0, none⟩) n1 n1, .slice (some ⟨x2, 0, none⟩) n2 n2, .slice (some ⟨x3, 0, none⟩) n3 n3] 39)) := (B_wx).trans (HA.out.mono (B_wx).size)
 have CA : Below w3.heap.size w3 (wx.alloc (Obj.cells #[.slice (some ⟨x0, 0, none⟩) n0 n0, .slice (some ⟨x1, 0, none⟩) n1 n1, .slice (some ⟨x2, 0, none⟩) n2 n2, .slice (some ⟨x3, 0, none⟩) n3 n3] 39)) := (C_wx).trans (HA.out.mono (C_wx).size)
 have HKA : Hid (WoC (wx.alloc (Obj.cells #[.slice (some ⟨x0, 0, none⟩) n0 n0, .slice (some ⟨x1, 0, none⟩) n1 n1, .slice (some ⟨x2, 0, none⟩) n2 n2, .slice (some ⟨x3, 0, none⟩) n3 n3] 39)) w.heap.size (.slice a0 n0 c0) (.slice a1 n1 c1) (.slice a2 n2 c2) (.slice a3 n3 c3)) := HK_wx.out.below HA.out
 have HXA : Hid (SrcW (some w3.heap.size) (wx.alloc (Obj.cells #[.slice (some ⟨x0, 0, none⟩) n0 n0, .slice (some ⟨x1, 0, none⟩) n1 n1, .slice (some ⟨x2, 0, none⟩) n2 n2, .slice (some ⟨x3, 0, none⟩) n3 n3] 39)) x (some ⟨x0, 0, none⟩) (some ⟨x1, 0, none⟩) (some ⟨x2, 0, none⟩) (some ⟨x3, 0, none⟩)) := HX.out.below HA.out
 have HMA : Hid (MWs w3.heap.size wx.heap.size (wx.alloc (Obj.cells #[.slice (some ⟨x0, 0, none⟩) n0 n0, .slice (some ⟨x1, 0, none⟩) n1 n1, .slice (some ⟨x2, 0, none⟩) n2 n2, .slice (some ⟨x3, 0, none⟩) n3 n3] 39)) x (some ⟨x0, 0, none⟩) (some ⟨x1, 0, none⟩) (some ⟨x2, 0, none⟩) (some ⟨x3, 0, none⟩)) := HM.out.shp (ty.Shp.below HA.out)
 have HTX1 : Hid (Calls Tryz.prog 8 #[.slice b1 m1 d1] (wx.alloc (Obj.cells #[.slice (some ⟨x0, 0, none⟩) n0 n0, .slice (some ⟨x1, 0, none⟩) n1 n1, .slice (some ⟨x2, 0, none⟩) n2 n2, .slice (some ⟨x3, 0, none⟩) n3 n3] 39)) fun e w' => e = .returned (.slice (some ⟨wx.heap.size + 1, 0, none⟩) m1 m1) ∧ ty.SrcS (some (wx.heap.size + 1)) w' (some ⟨wx.heap.size + 1, 0, none⟩) p1 ∧ Below (wx.heap.size + 1) (wx.alloc (Obj.cells #[.slice (some ⟨x0, 0, none⟩) n0 n0, .slice (some ⟨x1, 0, none⟩) n1 n1, .slice (some ⟨x2, 0, none⟩) n2 n2, .slice (some ⟨x3, 0, none⟩) n3 n3] 39)) w') := by
  have h := HTO1.out (wx.alloc (Obj.cells #[.slice (some ⟨x0, 0, none⟩) n0 n0, .slice (some ⟨x1, 0, none⟩) n1 n1, .slice (some ⟨x2, 0, none⟩) n2 n2, .slice (some ⟨x3, 0, none⟩) n3 n3] 39)) BA HW1.out
  have hsz : (wx.alloc (Obj.cells #[.slice (some ⟨x0, 0, none⟩) n0 n0, .slice (some ⟨x1, 0, none⟩) n1 n1, .slice (some ⟨x2, 0, none⟩) n2 n2, .slice (some ⟨x3, 0, none⟩) n3 n3] 39)).heap.size = wx.heap.size + 1 := by simp
  rw [hsz] at h
  exact h
 go_wp2_with (go_at_call 8; refine (HTX1.out).mono ?_; rintro e wx1 ⟨rfl, ho, hl_⟩; refine Hid.out ?_)
 refine Lib.hid ?_
 have hl : Below (wx.alloc (Obj.cells #[.slice (some ⟨x0, 0, none⟩) n0 n0, .slice (some ⟨x1, 0, none⟩) n1 n1, .slice (some ⟨x2, 0, none⟩) n2 n2, .slice (some ⟨x3, 0, none⟩) n3 n3] 39)).heap.size (wx.alloc (Obj.cells #[.slice (some ⟨x0, 0, none⟩) n0 n0, .slice (some ⟨x1, 0, none⟩) n1 n1, .slice (some ⟨x2, 0, none⟩) n2 n2, .slice (some ⟨x3, 0, none⟩) n3 n3] 39)) wx1 := by have hsz : (wx.alloc (Obj.cells #[.slice (some ⟨x0, 0, none⟩) n0 n0, .slice (some ⟨x1, 0, none⟩) n1 n1, .slice (some ⟨x2, 0, none⟩) n2 n2, .slice (some ⟨x3, 0, none⟩) n3 n3] 39)).heap.size = wx.heap.size + 1 := (by simp); rw [hsz]; exact hl_
 have hax : wx.heap.size + 1 ≤ wx1.heap.size := by have := hl.size; simp at this; omega
 have B_wx1 : Below w.heap.size w wx1 := (BA).trans (hl.mono (BA).size)
 have C_wx1 : Below w3.heap.size w3 wx1 := (CA).trans (hl.mono (CA).size)
 have HK_wx1 : Hid (WoC wx1 w.heap.size (.slice a0 n0 c0) (.slice a1 n1 c1) (.slice a2 n2 c2) (.slice a3 n3 c3)) := HKA.out.below hl
 have HX_wx1 : Hid (SrcW (some w3.heap.size) wx1 x (some ⟨x0, 0, none⟩) (some ⟨x1, 0, none⟩) (some ⟨x2, 0, none⟩) (some ⟨x3, 0, none⟩)) := HXA.out.below hl
 have HM_wx1 : Hid (MWs w3.heap.size wx.heap.size wx1 x (some ⟨x0, 0, none⟩) (some ⟨x1, 0, none⟩) (some ⟨x2, 0, none⟩) (some ⟨x3, 0, none⟩)) := HMA.out.shp (ty.Shp.below hl)
 have HXC_wx1 : Hid (WoC wx1 wx.heap.size (.slice (some ⟨x0, 0, none⟩) n0 n0) (.slice (some ⟨x1, 0, none⟩) n1 n1) (.slice (some ⟨x2, 0, none⟩) n2 n2) (.slice (some ⟨x3, 0, none⟩) n3 n3)) := HXC0.out.below hl
 have hlo1 : wx.heap.size ≤ wx.heap.size + 1 ∧ wx.heap.size + 1 ≤ wx1.heap.size := ⟨by omega, hax⟩
 have HX1 : Hid (ty.SrcS (some (wx.heap.size + 1)) wx1 (some ⟨wx.heap.size + 1, 0, none⟩) p1) := ho
 have HM1 : Hid (ty.MS (wx.heap.size + 1) wx1.heap.size wx1 (some ⟨wx.heap.size + 1, 0, none⟩) p1) := ty.MS.src ho
 clear ho hl hl_
 obtain ⟨q0_, q1_, q2_, q3_⟩ := HXC_wx1.out
 go_wp2_with (go_at_call 9; refine (HIP.out _ _ _ _ _ _ _ _ HX_wx1.out HW.out HX1.out HW1.out  (H_hm.out.below B_wx1) (H_hT.out.below B_wx1)).mono ?_; rintro e w5 ⟨⟨v5, rfl, hv5⟩, hl5⟩; refine Hid.out ?_)
 refine Lib.hid ?_
 clear q0_ q1_ q2_ q3_
 obtain ⟨g5, c5, hve5, hgb5⟩ := hv5
 subst hve5
 have B_w5 : Below w.heap.size w w5 := (B_wx1).trans (hl5.mono (B_wx1).size)
 have C_w5 : Below w3.heap.size w3 w5 := (C_wx1).trans (hl5.mono (C_wx1).size)
 have HK_w5 : Hid (WoC w5 w.heap.size (.slice a0 n0 c0) (.slice a1 n1 c1) (.slice a2 n2 c2) (.slice a3 n3 c3)) := HK_wx1.out.below hl5
 have HX_w5 : Hid (SrcW (some w3.heap.size) w5 x (some ⟨x0, 0, none⟩) (some ⟨x1, 0, none⟩) (some ⟨x2, 0, none⟩) (some ⟨x3, 0, none⟩)) := HX_wx1.out.below hl5
 have HM_w5 : Hid (MWs w3.heap.size wx.heap.size w5 x (some ⟨x0, 0, none⟩) (some ⟨x1, 0, none⟩) (some ⟨x2, 0, none⟩) (some ⟨x3, 0, none⟩)) := HM_wx1.out.shp (ty.Shp.below hl5)
 have HXC_w5 : Hid (WoC w5 wx.heap.size (.slice (some ⟨x0, 0, none⟩) n0 n0) (.slice (some ⟨x1, 0, none⟩) n1 n1) (.slice (some ⟨x2, 0, none⟩) n2 n2) (.slice (some ⟨x3, 0, none⟩) n3 n3)) := HXC_wx1.out.below hl5
 have HX1_w5 : Hid (ty.SrcS (some (wx.heap.size + 1)) w5 (some ⟨wx.heap.size + 1, 0, none⟩) p1) := HX1.out.below hl5
 have HM1_w5 : Hid (ty.MS (wx.heap.size + 1) wx1.heap.size w5 (some ⟨wx.heap.size + 1, 0, none⟩) p1) := HM1.out.shp (ty.Shp.below hl5)
 have HG : Hid (GZ wx1.heap.size w5.heap.size w5 (some ⟨g5, 0, none⟩) rs) := ⟨hgb5, Nat.le_refl _⟩
 have hgx : wx.heap.size ≤ wx1.heap.size := by omega
 have hgx1 : wx1.heap.size ≤ wx1.heap.size := Nat.le_refl _
 have hg3 : w3.heap.size ≤ wx1.heap.size := Nat.le_trans hlo hgx
 clear hl5 hgb5 HA BA CA HKA HXA HMA HXC0
 go_wp2_with (go_at_call 10; refine (ty.eqEt_bd _ _ _ _ rs _ HG.out.1.src (HP.out _ C_w5) HRL1.out.1.1 HRL1.out.1.2).mono ?_; rintro e w6 ⟨rfl, hl⟩; refine Hid.out ?_)
 refine Lib.hid ?_
 have B_w6 : Below w.heap.size w w6 := (B_w5).trans (hl.mono (B_w5).size)
 have C_w6 : Below w3.heap.size w3 w6 := (C_w5).trans (hl.mono (C_w5).size)
 have HK_w6 : Hid (WoC w6 w.heap.size (.slice a0 n0 c0) (.slice a1 n1 c1) (.slice a2 n2 c2) (.slice a3 n3 c3)) := HK_w5.out.below hl
 have HX_w6 : Hid (SrcW (some w3.heap.size) w6 x (some ⟨x0, 0, none⟩) (some ⟨x1, 0, none⟩) (some ⟨x2, 0, none⟩) (some ⟨x3, 0, none⟩)) := HX_w5.out.below hl
 have HM_w6 : Hid (MWs w3.heap.size wx.heap.size w6 x (some ⟨x0, 0, none⟩) (some ⟨x1, 0, none⟩) (some ⟨x2, 0, none⟩) (some ⟨x3, 0, none⟩)) := HM_w5.out.shp (ty.Shp.below hl)
 have HXC_w6 : Hid (WoC w6 wx.heap.size (.slice (some ⟨x0, 0, none⟩) n0 n0) (.slice (some ⟨x1, 0, none⟩) n1 n1) (.slice (some ⟨x2, 0, none⟩) n2 n2) (.slice (some ⟨x3, 0, none⟩) n3 n3)) := HXC_w5.out.below hl
 have HX1_w6 : Hid (ty.SrcS (some (wx.heap.size + 1)) w6 (some ⟨wx.heap.size + 1, 0, none⟩) p1) := HX1_w5.out.below hl
 have HM1_w6 : Hid (ty.MS (wx.heap.size + 1) wx1.heap.size w6 (some ⟨wx.heap.size + 1, 0, none⟩) p1) := HM1_w5.out.shp (ty.Shp.below hl)
 have HG_w6 : Hid (GZ wx1.heap.size w5.heap.size w6 (some ⟨g5, 0, none⟩) rs) := HG.out.below hl
 clear hl
 have HSS : Hid (∀ W, Below w6.heap.size w6 W → WoC W wx.heap.size (.slice (some ⟨x0, 0, none⟩) n0 n0) (.slice (some ⟨x1, 0, none⟩) n1 n1) (.slice (some ⟨x2, 0, none⟩) n2 n2) (.slice (some ⟨x3, 0, none⟩) n3 n3) ∧ WoC W w.heap.size (.slice a0 n0 c0) (.slice a1 n1 c1) (.slice a2 n2 c2) (.slice a3 n3 c3)) := fun W h => ⟨HXC_w6.out.below h, HK_w6.out.below h⟩
 have HSX : Hid (SrcW none w6 x (some ⟨x0, 0, none⟩) (some ⟨x1, 0, none⟩) (some ⟨x2, 0, none⟩) (some ⟨x3, 0, none⟩)) := HX_w6.out.any
 have HBX : Hid (Below w.heap.size w w6) := B_w6
 have hltb : wx.heap.size < w6.heap.size := World.block_lt_of_cell? _ _ HXC_w6.out.1
 have hltw : w.heap.size < w6.heap.size := World.block_lt_of_cell? _ _ HK_w6.out.1
 obtain ⟨xb, hxb⟩ : ∃ xb, wx.heap.size = xb := ⟨_, rfl⟩
 have hlx : w3.heap.size ≤ xb := hxb ▸ hlo
 rw [hxb] at HSS hltb
 unfold WoC at HSS
 rw [hxb]
 go_wp2_with fail
 go_region_held3 (fun w' => (w'.cell? ⟨xb, 0, none⟩ = some (.slice (some ⟨x0, 0, none⟩) n0 n0) ∧ w'.cell? ⟨xb, 1, none⟩ = some (.slice (some ⟨x1, 0, none⟩) n1 n1) ∧ w'.cell? ⟨xb, 2, none⟩ = some (.slice (some ⟨x2, 0, none⟩) n2 n2) ∧ w'.cell? ⟨xb, 3, none⟩ = some (.slice (some ⟨x3, 0, none⟩) n3 n3)) ∧ w'.cell? ⟨w.heap.size, 0, none⟩ = some (.slice a0 n0 c0) ∧ w'.cell? ⟨w.heap.size, 1, none⟩ = some (.slice a1 n1 c1) ∧ w'.cell? ⟨w.heap.size, 2, none⟩ = some (.slice a2 n2 c2) ∧ w'.cell? ⟨w.heap.size, 3, none⟩ = some (.slice a3 n3 c3))
  (first | exact HSS.out _ (Below.refl _ _).drew | exact HSS.out _ hb8 | exact HSS.out _ hb7 | exact HSS.out _ (Below.refl _ _) | go_keep)
  (first
   | (go_at_call 7; refine (HTO.out _ HBX.out.drew HW.out).mono ?_; rintro e w7 ⟨⟨d0, d1, d2, d3, rfl, ho7⟩, hl7⟩; have hb7 : Below w6.heap.size w6 w7 := (Below.refl w6.heap.size w6).drew.trans hl7; have hs7 := HSX.out.below hb7)
   | (go_at_call 11; refine (HEQ.out _ _ _ _ _ _ _ _ _ _ _ _ _ _ _ _ _ hs7 ho7.any HW.out).mono ?_; rintro e w8 ⟨rfl, hl8⟩; have hb8 : Below w6.heap.size w6 w8 := hb7.trans (hl8.mono hb7.size)))
 refine Hid.out ?_
 refine Lib.hid ?_
 clear hs7 ho7 hl7 hl8 hb7 HSS HSX HBX
 have B_w8 : Below w.heap.size w w8 := (B_w6).trans (hb8.mono (B_w6).size)
 have C_w8 : Below w3.heap.size w3 w8 := (C_w6).trans (hb8.mono (C_w6).size)
 have HK_w8 : Hid (WoC w8 w.heap.size (.slice a0 n0 c0) (.slice a1 n1 c1) (.slice a2 n2 c2) (.slice a3 n3 c3)) := HK_w6.out.below hb8
 have HM_w8 : Hid (MWs w3.heap.size wx.heap.size w8 x (some ⟨x0, 0, none⟩) (some ⟨x1, 0, none⟩) (some ⟨x2, 0, none⟩) (some ⟨x3, 0, none⟩)) := HM_w6.out.shp (ty.Shp.below hb8)
 have HXC_w8 : Hid (WoC w8 wx.heap.size (.slice (some ⟨x0, 0, none⟩) n0 n0) (.slice (some ⟨x1, 0, none⟩) n1 n1) (.slice (some ⟨x2, 0, none⟩) n2 n2) (.slice (some ⟨x3, 0, none⟩) n3 n3)) := HXC_w6.out.below hb8
 have HX1_w8 : Hid (ty.SrcS (some (wx.heap.size + 1)) w8 (some ⟨wx.heap.size + 1, 0, none⟩) p1) := HX1_w6.out.below hb8
 have HM1_w8 : Hid (ty.MS (wx.heap.size + 1) wx1.heap.size w8 (some ⟨wx.heap.size + 1, 0, none⟩) p1) := HM1_w6.out.shp (ty.Shp.below hb8)
 have HG_w8 : Hid (GZ wx1.heap.size w5.heap.size w8 (some ⟨g5, 0, none⟩) rs) := HG_w6.out.below hb8
 clear hb8
 go_wp2_with (go_at_call 8; refine (HTO1.out _ (B_w8) HW1.out).mono ?_; rintro e wt1 ⟨rfl, ho, hl⟩; refine Hid.out ?_)
 refine Lib.hid ?_
 have B_wt1 : Below w.heap.size w wt1 := (B_w8).trans (hl.mono (B_w8).size)
 have C_wt1 : Below w3.heap.size w3 wt1 := (C_w8).trans (hl.mono (C_w8).size)
 have HK_wt1 : Hid (WoC wt1 w.heap.size (.slice a0 n0 c0) (.slice a1 n1 c1) (.slice a2 n2 c2) (.slice a3 n3 c3)) := HK_w8.out.below hl
 have HM_wt1 : Hid (MWs w3.heap.size wx.heap.size wt1 x (some ⟨x0, 0, none⟩) (some ⟨x1, 0, none⟩) (some ⟨x2, 0, none⟩) (some ⟨x3, 0, none⟩)) := HM_w8.out.shp (ty.Shp.below hl)
 have HXC_wt1 : Hid (WoC wt1 wx.heap.size (.slice (some ⟨x0, 0, none⟩) n0 n0) (.slice (some ⟨x1, 0, none⟩) n1 n1) (.slice (some ⟨x2, 0, none⟩) n2 n2) (.slice (some ⟨x3, 0, none⟩) n3 n3)) := HXC_w8.out.below hl
 have HX1_wt1 : Hid (ty.SrcS (some (wx.heap.size + 1)) wt1 (some ⟨wx.heap.size + 1, 0, none⟩) p1) := HX1_w8.out.below hl
 have HM1_wt1 : Hid (ty.MS (wx.heap.size + 1) wx1.heap.size wt1 (some ⟨wx.heap.size + 1, 0, none⟩) p1) := HM1_w8.out.shp (ty.Shp.below hl)
 have HG_wt1 : Hid (GZ wx1.heap.size w5.heap.size wt1 (some ⟨g5, 0, none⟩) rs) := HG_w8.out.below hl
 have HY1 : Hid (ty.SrcS none wt1 (some ⟨w8.heap.size, 0, none⟩) p1) := ho.any
 clear ho hl
 have HXY1 : Hid (ty.SrcS none wt1 (some ⟨xb + 1, 0, none⟩) p1) := by rw [← hxb]; exact HX1_wt1.out.any
 go_wp2_with (go_at_call 12; refine (HEQ1.out _ _ _ _ _ HXY1.out HY1.out HW1.out).mono ?_; rintro e we1 ⟨rfl, hl⟩; refine Hid.out ?_)
 refine Lib.hid ?_
 have B_we1 : Below w.heap.size w we1 := (B_wt1).trans (hl.mono (B_wt1).size)
 have C_we1 : Below w3.heap.size w3 we1 := (C_wt1).trans (hl.mono (C_wt1).size)
 have HK_we1 : Hid (WoC we1 w.heap.size (.slice a0 n0 c0) (.slice a1 n1 c1) (.slice a2 n2 c2) (.slice a3 n3 c3)) := HK_wt1.out.below hl
 have HM_we1 : Hid (MWs w3.heap.size wx.heap.size we1 x (some ⟨x0, 0, none⟩) (some ⟨x1, 0, none⟩) (some ⟨x2, 0, none⟩) (some ⟨x3, 0, none⟩)) := HM_wt1.out.shp (ty.Shp.below hl)
 have HXC_we1 : Hid (WoC we1 wx.heap.size (.slice (some ⟨x0, 0, none⟩) n0 n0) (.slice (some ⟨x1, 0, none⟩) n1 n1) (.slice (some ⟨x2, 0, none⟩) n2 n2) (.slice (some ⟨x3, 0, none⟩) n3 n3)) := HXC_wt1.out.below hl
 have HX1_we1 : Hid (ty.SrcS (some (wx.heap.size + 1)) we1 (some ⟨wx.heap.size + 1, 0, none⟩) p1) := HX1_wt1.out.below hl
 have HM1_we1 : Hid (ty.MS (wx.heap.size + 1) wx1.heap.size we1 (some ⟨wx.heap.size + 1, 0, none⟩) p1) := HM1_wt1.out.shp (ty.Shp.below hl)
 have HG_we1 : Hid (GZ wx1.heap.size w5.heap.size we1 (some ⟨g5, 0, none⟩) rs) := HG_wt1.out.below hl
 clear hl HY1
 obtain ⟨v0_, v1_, v2_, v3_⟩ := HXC_we1.out
 rw [hxb] at v0_ v1_ v2_ v3_
 have HMC : Hid (∀ W, MWs w3.heap.size wx.heap.size W x (some ⟨x0, 0, none⟩) (some ⟨x1, 0, none⟩) (some ⟨x2, 0, none⟩) (some ⟨x3, 0, none⟩) → wx.heap.size ≤ W.heap.size → Calls Tryz.prog 13 #[.agg #[.slice (some ⟨x0, 0, none⟩) n0 n0, .slice (some ⟨x1, 0, none⟩) n1 n1, .slice (some ⟨x2, 0, none⟩) n2 n2, .slice (some ⟨x3, 0, none⟩) n3 n3], .int .i64 1] W fun e w' => e = .returned (.int .i64 ((1 + k0 : Nat) : Int)) ∧ ty.Rel w3.heap.size wx.heap.size W w') := fun W h h2 => HMK.out _ _ _ _ _ _ _ _ _ _ W h h2 HC0.out
 obtain ⟨K0, hK0⟩ : ∃ K : Nat, 1 + k0 = K := ⟨_, rfl⟩
 rw [hK0] at HMC
 have hKb0 : 0 < K0 ∧ K0 ≤ 8388609 := by have := HC0.out; omega
 have hKn : ¬ (K0 : Int) < 0 := by omega
 clear hK0
 have hxs : wx.heap.size ≤ we1.heap.size := by rw [hxb]; exact Nat.le_of_lt (World.block_lt_of_cell? _ _ v0_)
 go_wp2_with (go_at_call 13; refine (HMC.out _ HM_we1.out hxs).mono ?_; rintro e wm ⟨rfl, hR⟩; refine Hid.out ?_)
 refine Lib.hid ?_
 clear v0_ v1_ v2_ v3_
 have B_wm : Below w.heap.size w wm := (B_we1).trans (hR.toBelow B_w3.size (B_we1).size)
 have C_wm : Below w3.heap.size w3 wm := (C_we1).trans (hR.toBelow (Nat.le_refl _) (C_we1).size)
 have HG_wm : Hid (GZ wx1.heap.size w5.heap.size wm (some ⟨g5, 0, none⟩) rs) := HG_we1.out.rel hR hgx
 have HK_wm : Hid (WoC wm w.heap.size (.slice a0 n0 c0) (.slice a1 n1 c1) (.slice a2 n2 c2) (.slice a3 n3 c3)) := HKW3.out.below C_wm
 have HM1_wm : Hid (ty.MS (wx.heap.size + 1) wx1.heap.size wm (some ⟨wx.heap.size + 1, 0, none⟩) p1) := HM1_we1.out.shp hR.2.2.2
 clear hR
 have HMC1 : Hid (∀ W, ty.MS (wx.heap.size + 1) wx1.heap.size W (some ⟨wx.heap.size + 1, 0, none⟩) p1 → Calls Tryz.prog 14 #[.slice (some ⟨xb + 1, 0, none⟩) m1 m1, .int .i64 (K0 : Int)] W fun e w' => e = .returned (.int .i64 ((K0 + k1 : Nat) : Int)) ∧ ty.Rel (wx.heap.size + 1) wx1.heap.size W w') := fun W h => by
  rw [← hxb]
  exact HMK1.out _ _ _ m1 K0 W h (by omega) (by have := HC1.out; omega)
 obtain ⟨K1, hK1⟩ : ∃ K : Nat, K0 + k1 = K := ⟨_, rfl⟩
 rw [hK1] at HMC1
 have hKb1 : 0 < K1 ∧ K1 ≤ 16777217 := by have := HC1.out; omega
 have hKn1 : ¬ (K1 : Int) < 0 := by omega
 clear hK1
 go_wp2_with (go_at_call 14; refine (HMC1.out _ HM1_wm.out).mono ?_; rintro e wm1 ⟨rfl, hR⟩; refine Hid.out ?_)
 refine Lib.hid ?_
 have B_wm1 : Below w.heap.size w wm1 := (B_wm).trans (hR.toBelow (by have := hlo1; have := B_w3.size; omega) (B_wm).size)
 have C_wm1 : Below w3.heap.size w3 wm1 := (C_wm).trans (hR.toBelow (by have := hlo1; omega) (C_wm).size)
 have HG_wm1 : Hid (GZ wx1.heap.size w5.heap.size wm1 (some ⟨g5, 0, none⟩) rs) := HG_wm.out.rel hR hgx1
 have HK_wm1 : Hid (WoC wm1 w.heap.size (.slice a0 n0 c0) (.slice a1 n1 c1) (.slice a2 n2 c2) (.slice a3 n3 c3)) := HKW3.out.below C_wm1
 clear hR
 go_wp2_with (go_at_call 10; refine (ty.eqEt_bd _ _ _ _ rs _ HG_wm1.out.1.src (HP.out _ C_wm1) HRL1.out.1.1 HRL1.out.1.2).mono ?_; rintro e w9 ⟨rfl, hl⟩; refine Hid.out ?_)
 refine Lib.hid ?_
 have B_w9 : Below w.heap.size w w9 := (B_wm1).trans (hl.mono (B_wm1).size)
 have C_w9 : Below w3.heap.size w3 w9 := (C_wm1).trans (hl.mono (C_wm1).size)
 have HK_w9 : Hid (WoC w9 w.heap.size (.slice a0 n0 c0) (.slice a1 n1 c1) (.slice a2 n2 c2) (.slice a3 n3 c3)) := HK_wm1.out.below hl
 have HG_w9 : Hid (GZ wx1.heap.size w5.heap.size w9 (some ⟨g5, 0, none⟩) rs) := HG_wm1.out.below hl
 clear hl
 have HMG : Hid (∀ W, GZ wx1.heap.size w5.heap.size W (some ⟨g5, 0, none⟩) rs → Calls Tryz.prog 15 #[.slice (some ⟨g5, 0, none⟩) rs.length c5, .int .i64 1] W fun e w' => e = .returned (.int .i64 ((1 + ty.cnEt rs : Nat) : Int)) ∧ ty.GEt wx1.heap.size w5.heap.size w' (some ⟨g5, 0, none⟩) (ty.mkEt 1 rs) ∧ ty.Md wx1.heap.size w5.heap.size W w') := fun W h => ty.markGEt_any _ _ _ c5 rs 1 W h.1 h.2 (by omega) (by have := HCR.out; omega)
 have HHD : Hid (∀ W, ty.SrcEt none W (some ⟨g5, 0, none⟩) (ty.mkEt 1 rs) → Calls Tryz.prog 16 #[.slice (some ⟨g5, 0, none⟩) rs.length c5, .int .i64 1] W fun e w' => e = .returned (.int .i64 ((1 + ty.cnEt rs : Nat) : Int)) ∧ Below W.heap.size W w') := fun W h => ty.heldEt_any _ c5 rs 1 W h (by omega) (by have := HCR.out; omega)
 obtain ⟨KR, hKR⟩ : ∃ K : Nat, 1 + ty.cnEt rs = K := ⟨_, rfl⟩
 rw [hKR] at HMG HHD
 have hKR0 : ¬ (KR : Int) < 0 := by omega
 clear hKR
 go_wp2_with (go_at_call 15; refine (HMG.out _ HG_w9.out).mono ?_; rintro e w10 ⟨rfl, hmk, hmd⟩; refine Hid.out ?_)
 refine Lib.hid ?_
 have C_w10 : Below w3.heap.size w3 w10 := (C_w9).trans (hmd.toBelow hg3 (C_w9).size)
 have B_w10 : Below w.heap.size w w10 := (B_w9).trans (hmd.toBelow (Nat.le_trans B_w3.size hg3) (B_w9).size)
 have HKQ : Hid (ty.SrcEt none w10 (some ⟨g5, 0, none⟩) (ty.mkEt 1 rs)) := hmk.src
 have HK_w10 : Hid (WoC w10 w.heap.size (.slice a0 n0 c0) (.slice a1 n1 c1) (.slice a2 n2 c2) (.slice a3 n3 c3)) := HKW3.out.below C_w10
 clear hmk hmd HG_w9
 go_wp2_with (go_at_call 16; refine (HHD.out _ HKQ.out).mono ?_; rintro e w11 ⟨rfl, hl⟩; refine Hid.out ?_)
 refine Lib.hid ?_
 have B_w11 : Below w.heap.size w w11 := (B_w10).trans (hl.mono (B_w10).size)
 have C_w11 : Below w3.heap.size w3 w11 := (C_w10).trans (hl.mono (C_w10).size)
 have HK_w11 : Hid (WoC w11 w.heap.size (.slice a0 n0 c0) (.slice a1 n1 c1) (.slice a2 n2 c2) (.slice a3 n3 c3)) := HK_w10.out.below hl
 have HKQ_w11 : Hid (ty.SrcEt none w11 (some ⟨g5, 0, none⟩) (ty.mkEt 1 rs)) := HKQ.out.below hl
 clear hl
 obtain ⟨j0, j1, j2, j3⟩ := HK_w11.out
 go_wp2_with (go_at_call 7; refine (HTO.out _ (B_w11) HW.out).mono ?_; rintro e wc ⟨⟨h0, h1, h2, h3, rfl, ho⟩, hl⟩; refine Hid.out ?_)
 refine Lib.hid ?_
 clear j0 j1 j2 j3
 have B_wc : Below w.heap.size w wc := (B_w11).trans (hl.mono (B_w11).size)
 have C_wc : Below w3.heap.size w3 wc := (C_w11).trans (hl.mono (C_w11).size)
 have HK_wc : Hid (WoC wc w.heap.size (.slice a0 n0 c0) (.slice a1 n1 c1) (.slice a2 n2 c2) (.slice a3 n3 c3)) := HK_w11.out.below hl
 have HKQ_wc : Hid (ty.SrcEt none wc (some ⟨g5, 0, none⟩) (ty.mkEt 1 rs)) := HKQ_w11.out.below hl
 have HV : Hid (SrcW (some w11.heap.size) wc x (some ⟨h0, 0, none⟩) (some ⟨h1, 0, none⟩) (some ⟨h2, 0, none⟩) (some ⟨h3, 0, none⟩)) := ho
 clear ho hl
 go_wp2_with (go_at_call 8; refine (HTO1.out _ (B_wc) HW1.out).mono ?_; rintro e wc1 ⟨rfl, ho, hl⟩; refine Hid.out ?_)
 refine Lib.hid ?_
 have B_wc1 : Below w.heap.size w wc1 := (B_wc).trans (hl.mono (B_wc).size)
 have C_wc1 : Below w3.heap.size w3 wc1 := (C_wc).trans (hl.mono (C_wc).size)
 have HK_wc1 : Hid (WoC wc1 w.heap.size (.slice a0 n0 c0) (.slice a1 n1 c1) (.slice a2 n2 c2) (.slice a3 n3 c3)) := HK_wc.out.below hl
 have HKQ_wc1 : Hid (ty.SrcEt none wc1 (some ⟨g5, 0, none⟩) (ty.mkEt 1 rs)) := HKQ_wc.out.below hl
 have HV_wc1 : Hid (SrcW (some w11.heap.size) wc1 x (some ⟨h0, 0, none⟩) (some ⟨h1, 0, none⟩) (some ⟨h2, 0, none⟩) (some ⟨h3, 0, none⟩)) := HV.out.below hl
 have HV1 : Hid (ty.SrcS (some wc.heap.size) wc1 (some ⟨wc.heap.size, 0, none⟩) p1) := ho
 clear ho hl
 go_wp2_with (go_at_call 9; refine (HIP.out _ _ _ _ _ _ _ _ HV_wc1.out HW.out HV1.out HW1.out  (H_hm.out.below B_wc1) (H_hT.out.below B_wc1)).mono ?_; rintro e w13 ⟨⟨v13, rfl, hv13⟩, hl⟩; refine Hid.out ?_)
 refine Lib.hid ?_
 obtain ⟨g13, c13, hve13, hss13⟩ := hv13
 subst hve13
 have B_w13 : Below w.heap.size w w13 := (B_wc1).trans (hl.mono (B_wc1).size)
 have C_w13 : Below w3.heap.size w3 w13 := (C_wc1).trans (hl.mono (C_wc1).size)
 have HK_w13 : Hid (WoC w13 w.heap.size (.slice a0 n0 c0) (.slice a1 n1 c1) (.slice a2 n2 c2) (.slice a3 n3 c3)) := HK_wc1.out.below hl
 have HKQ_w13 : Hid (ty.SrcEt none w13 (some ⟨g5, 0, none⟩) (ty.mkEt 1 rs)) := HKQ_wc1.out.below hl
 have HQ13 : Hid (ty.SrcEt none w13 (some ⟨g13, 0, none⟩) rs) := hss13.src
 clear hl hss13 HV_wc1 HV1
 go_wp2_with (go_at_call 10; refine (ty.eqEt_bd _ _ _ _ rs _ HQ13.out (HP.out _ C_w13) HRL1.out.1.1 HRL1.out.1.2).mono ?_; rintro e w14 ⟨rfl, hl⟩; refine Hid.out ?_)
 refine Lib.hid ?_
 have B_w14 : Below w.heap.size w w14 := (B_w13).trans (hl.mono (B_w13).size)
 have C_w14 : Below w3.heap.size w3 w14 := (C_w13).trans (hl.mono (C_w13).size)
 have HK_w14 : Hid (WoC w14 w.heap.size (.slice a0 n0 c0) (.slice a1 n1 c1) (.slice a2 n2 c2) (.slice a3 n3 c3)) := HK_w13.out.below hl
 have HKQ_w14 : Hid (ty.SrcEt none w14 (some ⟨g5, 0, none⟩) (ty.mkEt 1 rs)) := HKQ_w13.out.below hl
 clear hl
 go_wp2_with (go_at_call 16; refine (HHD.out _ HKQ_w14.out).mono ?_; rintro e w15 ⟨rfl, hl⟩; refine Hid.out ?_)
 refine Lib.hid ?_
 have B_w15 : Below w.heap.size w w15 := (B_w14).trans (hl.mono (B_w14).size)
 have C_w15 : Below w3.heap.size w3 w15 := (C_w14).trans (hl.mono (C_w14).size)
 have HK_w15 : Hid (WoC w15 w.heap.size (.slice a0 n0 c0) (.slice a1 n1 c1) (.slice a2 n2 c2) (.slice a3 n3 c3)) := HK_w14.out.below hl
 have HKQ_w15 : Hid (ty.SrcEt none w15 (some ⟨g5, 0, none⟩) (ty.mkEt 1 rs)) := HKQ_w14.out.below hl
 clear hl
 go_wp2
 go_ret
 exact ⟨rfl, B_w15⟩
end Go.Proofs.YthbgpfjbfkiljaaGreatDoor.so

set_option linter.unusedVariables false
set_option linter.unusedSimpArgs false
set_option maxRecDepth 100000
set_option maxHeartbeats 16000000
namespace Go.Proofs.YthbgpfjbfkiljaaGreatDoor.lt
open Go.ChangeShapes Go.WideShapes Go.ChangeAt Go.RowKit Go.Deep
theorem laid_skip {P : Program} {W : World} {x : String × DataW Unit} {rest : List (String × DataW Unit)} {ps : List MemPlace} (h : DataW.LaidVars P W (x :: rest) ps) : ∃ q, DataW.LaidVars P W rest q := by
 obtain ⟨g, t, cs, fuel, p, q, _, _, _, _, hr, _⟩ := h
 exact ⟨q, hr⟩
theorem laid_tab {P : Program} {W : World} {name : String} {k : IntKind} {zs : List Int} {rest : List (String × DataW Unit)} {ps : List MemPlace} {g : Nat} {t e : TypeId} {n : Nat}
  (hg : P.globalNamed name = some g) (hty : (P.globals[g]?).map (·.type) = some t) (ht : P.underlying t = some (.array n e)) (he : P.underlying e = some (.int k)) (hce : P.cellsOf e = 1) (hct : P.cellsOf t = n)
  (h : DataW.LaidVars P W ((name, Lib.tabData k zs) :: rest) ps) : Lib.TabIs P W name k zs := by
 obtain ⟨g', t', cs, fuel, p, q, hg', ht', hvar, hd, _, _⟩ := h
 obtain rfl := Option.some.inj (hg.symm.trans hg')
 obtain rfl := Option.some.inj (hty.symm.trans ht')
 unfold Lib.TabIs
 rw [hvar, ← Lib.cells_of_tab ht he hce hct hd]
def letZ : List Int := [48, 49, 50, 51, 52, 53, 54, 55, 56, 57, 97, 98, 99, 100, 102, 103, 104, 105, 106, 107, 108, 109, 110, 112, 113, 114, 115, 118, 119, 120, 121, 122]
theorem gLet : Tryz.prog.globalNamed "loop.example/g00023/impl.wordLetters" = some 0 := by kernel_rfl
theorem gLetType : (Tryz.prog.globals[0]?).map (·.type) = some 177 := by kernel_rfl
theorem cLet : Tryz.prog.cellsOf 177 = 32 := by kernel_rfl
theorem cLetE : Tryz.prog.cellsOf 5 = 1 := by kernel_rfl
theorem let_of {W : World} {ps : List MemPlace} {rest : List (String × DataW Unit)} (h : DataW.LaidVars Tryz.prog W (("loop.example/g00023/impl.wordLetters", Lib.tabData .u8 letZ) :: rest) ps) : Lib.TabIs Tryz.prog W "loop.example/g00023/impl.wordLetters" .u8 letZ :=
 laid_tab gLet gLetType Tryz.underlying177 Tryz.underlying5 cLetE cLet h
theorem tabB_of {W : World} (h : Lib.TabIs Tryz.prog W "loop.example/g00023/impl.wordLetters" .u8 letZ) : wd.TabB W := by
 unfold Lib.TabIs World.var? at h
 rw [gLet] at h
 simp only [Option.bind_some] at h
 split at h
 ·rename_i cs t fr hb
  rw [Option.some.injEq] at h
  subst h
  exact ⟨t, fr, hb⟩
 ·cases h
end Go.Proofs.YthbgpfjbfkiljaaGreatDoor.lt
