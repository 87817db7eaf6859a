import Derived.Test.YtpfnnjfapcnbnaaGreatDoorPQ2p
import Derived.Test.YtpfnnjfapcnbnaaGreatDoorYW1p
import Derived.Test.YtpfnnjfapcnbnaaGreatDoorWG1p
import Derived.Test.YtpfnnjfapcnbnaaGreatDoorYE1p
import Derived.Test.YtpfnnjfapcnbnaaGreatDoorYEp
import Derived.Test.YtpfnnjfapcnbnaaGreatDoorYHp
import Derived.Test.YtpfnnjfapcnbnaaGreatDoorST1p
set_option linter.unusedVariables false
set_option linter.unusedSimpArgs false
set_option maxRecDepth 100000
set_option maxHeartbeats 16000000
namespace Go.Proofs.YtpfnnjfapcnbnaaGreatDoor.so
open Go.ChangeShapes Go.WideShapes Go.ChangeAt Go.RowKit Go.Deep
def GZ (lo hi : Nat) (w : World) (a : Option Addr) (l : List ty.Wr) : Prop := ty.GWr lo hi w a l ∧ hi ≤ w.heap.size
theorem GZ.below {lo hi : Nat} {w w' : World} {a : Option Addr} {l : List ty.Wr} (h : GZ lo hi w a l) (hb : Below w.heap.size w w') : GZ lo hi w' a l := ⟨h.1.kept fun p _ hp => hb.block p (Nat.lt_of_lt_of_le hp h.2), Nat.le_trans h.2 hb.size⟩
theorem GZ.rel {lo hi lo' hi' : Nat} {w w' : World} {a : Option Addr} {l : List ty.Wr} (h : GZ lo hi w a l) (hR : ty.Rel lo' hi' w w') (hd : hi' ≤ lo) : GZ lo hi w' a l := ⟨h.1.kept fun p h1 h2 => hR.2.2.1 p (Nat.lt_of_lt_of_le h2 h.2) (.inr (Nat.le_trans hd h1)), Nat.le_trans h.2 hR.2.1⟩
theorem pla_law (a0 a1 a2 a3 : Option Addr) (c0 c1 c2 c3 : Nat) (x : ty.Wo) (s1 : ByteArray) (b2 : Option Addr) (d2 : Nat) (p2 : List ty.Et) (s3 : ByteArray) (w : World) (hm : tt.ML w) (hT : wd.TabB w) (hb : SrcW none w x a0 a1 a2 a3) (hs : ty.Sm1Wo x) (hz1 : s1.size ≤ maxLen) (hb2 : ty.SrcEt none w b2 p2) (hs2 : ty.SmEt p2) (hz3 : s3.size ≤ maxLen) :
  Calls Tryz.prog 5 #[.agg #[.slice a0 x.fStore.length c0, .slice a1 x.fProfiles.length c1, .slice a2 x.fPending.length c2, .slice a3 x.fNexts.length c3], .string s1, .slice b2 p2.length d2, .string s3] w fun e w' => e = .returned (.bool true) ∧ Below w.heap.size w w' := by
 unfold maxLen at hz1 hz3
 obtain ⟨s0_, s1_, s2_, s3_⟩ := hs
 have HSZ : Hid (∀ W, Below w.heap.size w W → Calls Tryz.prog 6 #[.agg #[.slice a0 x.fStore.length c0, .slice a1 x.fProfiles.length c1, .slice a2 x.fPending.length c2, .slice a3 x.fNexts.length c3], .int .i64 1048576] W fun e w' => (∃ r : Int, e = .returned (.int .i64 r) ∧ (r = -1 ∨ 0 ≤ r ∧ r = 1048576 - (ty.wt1Wo x : Int))) ∧ Below W.heap.size W w') := fun W h => by
  have hb' := hb.below h
  refine (ty.sz1Wo_any x.fStore x.fProfiles x.fPending x.fNexts a0 c0 a1 c1 a2 c2 a3 c3 1048576 W hb'.st s0_ hb'.pr s1_ hb'.pe s2_ hb'.nx s3_ ⟨by omega, by omega⟩).mono ?_
  rintro e w' ⟨⟨r, rfl, hr⟩, hl⟩
  exact ⟨⟨r, rfl, by unfold ty.wt1Wo; omega⟩, hl⟩
 have HTO : Hid (∀ W, Below w.heap.size w W → ty.wt1Wo x ≤ 1048576 → Calls Tryz.prog 8 #[.agg #[.slice a0 x.fStore.length c0, .slice a1 x.fProfiles.length c1, .slice a2 x.fPending.length c2, .slice a3 x.fNexts.length c3]] W fun e w' => (∃ g0 g1 g2 g3, e = .returned (.agg #[.slice (some ⟨g0, 0, none⟩) x.fStore.length x.fStore.length, .slice (some ⟨g1, 0, none⟩) x.fProfiles.length x.fProfiles.length, .slice (some ⟨g2, 0, none⟩) x.fPending.length x.fPending.length, .slice (some ⟨g3, 0, none⟩) x.fNexts.length x.fNexts.length]) ∧ SrcW (some W.heap.size) w' x (some ⟨g0, 0, none⟩) (some ⟨g1, 0, none⟩) (some ⟨g2, 0, none⟩) (some ⟨g3, 0, none⟩)) ∧ Below W.heap.size W w') := fun W h hw => by
  have hb' := hb.below h
  have hws : ty.wtIt x.fStore ≤ 1048576 ∧ ty.wtPr x.fProfiles ≤ 1048576 ∧ ty.wtPe x.fPending ≤ 1048576 ∧ ty.wtNx x.fNexts ≤ 1048576 := by unfold ty.wt1Wo at hw; omega
  refine (ty.to1Wo_any x.fStore x.fProfiles x.fPending x.fNexts a0 c0 a1 c1 a2 c2 a3 c3 W hb'.st hws.1 hb'.pr hws.2.1 hb'.pe hws.2.2.1 hb'.nx hws.2.2.2).mono ?_
  rintro e w' ⟨⟨g0, g1, g2, g3, rfl, q0, q1, q2, q3⟩, hl⟩
  exact ⟨⟨g0, g1, g2, g3, rfl, ⟨q0, q1, q2, q3⟩⟩, hl⟩
 have HSZ2 : Hid (∀ (W : World) (L : Int), Below w.heap.size w W → 0 ≤ L → L ≤ 1048576 → Calls Tryz.prog 12 #[.slice b2 p2.length d2, .int .i64 L] W fun e w' => (∃ r : Int, e = .returned (.int .i64 r) ∧ (r = -1 ∨ 0 ≤ r ∧ r = L - (ty.wtEt p2 : Int))) ∧ Below W.heap.size W w') := fun W L h h0 h1 => ty.szEt_any b2 d2 p2 L W (hb2.below h) hs2 ⟨h0, h1⟩
 have HTO2 : Hid (∀ W, Below w.heap.size w W → ty.wtEt p2 ≤ 1048576 → Calls Tryz.prog 15 #[.slice b2 p2.length d2] W fun e w' => e = .returned (.slice (some ⟨W.heap.size, 0, none⟩) p2.length p2.length) ∧ ty.SrcEt (some W.heap.size) w' (some ⟨W.heap.size, 0, none⟩) p2 ∧ Below W.heap.size W w') := fun W h hw => ty.toEt_any b2 d2 p2 W (hb2.below h) hw
 have H_hm : Hid (tt.ML w) := hm
 have H_hT : Hid (wd.TabB w) := hT
 obtain ⟨rs, hrs⟩ : ∃ rs, plaA x s1 s3 p2 = rs := ⟨_, rfl⟩
 have HRL : Hid (ty.wt1Wo x ≤ 1048576 → ty.wtEt p2 ≤ 1048576 → s1.size ≤ 1048576 → s3.size ≤ 1048576 → BigW rs) := fun w0 w2 z1 z3 => by rw [← hrs]; exact pla_big z1 z3 w2
 have HSP : Hid (∀ (lo : Nat) (A0 A1 A2 A3 : Option Addr) (lo2 : Nat) (B2 : Option Addr) W, SrcW (some lo) W x A0 A1 A2 A3 → ty.wt1Wo x ≤ 1048576 → ty.SrcEt (some lo2) W B2 p2 → ty.wtEt p2 ≤ 1048576 → s1.size ≤ 1048576 → s3.size ≤ 1048576 → Calls Tryz.prog 22 #[.agg #[.slice A0 x.fStore.length x.fStore.length, .slice A1 x.fProfiles.length x.fProfiles.length, .slice A2 x.fPending.length x.fPending.length, .slice A3 x.fNexts.length x.fNexts.length], .string s1, .slice B2 p2.length p2.length, .string s3] W fun e w' => (∃ v, e = .returned v ∧ CpWr w' v rs) ∧ Below W.heap.size W w') := fun lo A0 A1 A2 A3 lo2 B2 W H w0 H2 w2 z1 z3 => by
  rw [← hrs]
  exact spla_any lo lo2 x s1 s3 p2 A0 A1 A2 A3 B2 _ _ _ _ W H w0 H2 w2 z1 z3
 have HIP : Hid (∀ (lo : Nat) (A0 A1 A2 A3 : Option Addr) (lo2 : Nat) (B2 : Option Addr) W, SrcW (some lo) W x A0 A1 A2 A3 → ty.wt1Wo x ≤ 1048576 → ty.SrcEt (some lo2) W B2 p2 → ty.wtEt p2 ≤ 1048576 → s1.size ≤ 1048576 → s3.size ≤ 1048576 → tt.ML W → wd.TabB W → Calls Tryz.prog 23 #[.agg #[.slice A0 x.fStore.length x.fStore.length, .slice A1 x.fProfiles.length x.fProfiles.length, .slice A2 x.fPending.length x.fPending.length, .slice A3 x.fNexts.length x.fNexts.length], .string s1, .slice B2 p2.length p2.length, .string s3] W fun e w' => (∃ v, e = .returned v ∧ AnW W.heap.size w' v rs) ∧ Below W.heap.size W w') := fun lo A0 A1 A2 A3 lo2 B2 W H w0 H2 w2 z1 z3 hm hT => by
  rw [← hrs]
  exact ipla_any lo lo2 x s1 s3 p2 A0 A1 A2 A3 B2 _ _ _ W H w0 H2 w2 z1 z3 hm hT
 have HEQ : Hid (∀ (b0 b1 b2 b3 d0 d1 d2 d3 : Option Addr) (e0 e1 e2 e3 f0 f1 f2 f3 : Nat) W, SrcW none W x b0 b1 b2 b3 → SrcW none W x d0 d1 d2 d3 → ty.wt1Wo x ≤ 1048576 → Calls Tryz.prog 10 #[.agg #[.slice b0 x.fStore.length e0, .slice b1 x.fProfiles.length e1, .slice b2 x.fPending.length e2, .slice b3 x.fNexts.length e3], .agg #[.slice d0 x.fStore.length f0, .slice d1 x.fProfiles.length f1, .slice d2 x.fPending.length f2, .slice d3 x.fNexts.length f3]] W fun e w' => e = .returned (.bool true) ∧ Below W.heap.size W w') := fun b0 b1 b2 b3 d0 d1 d2 d3 e0 e1 e2 e3 f0 f1 f2 f3 W h h' hw => by
  have hws : ty.wtIt x.fStore ≤ 1048576 ∧ ty.wtPr x.fProfiles ≤ 1048576 ∧ ty.wtPe x.fPending ≤ 1048576 ∧ ty.wtNx x.fNexts ≤ 1048576 := by unfold ty.wt1Wo at hw; omega
  exact ty.eq1Wo_any x.fStore x.fProfiles x.fPending x.fNexts b0 d0 e0 f0 b1 d1 e1 f1 b2 d2 e2 f2 b3 d3 e3 f3 W h.st h'.st hws.1 h.pr h'.pr hws.2.1 h.pe h'.pe hws.2.2.1 h.nx h'.nx hws.2.2.2
 have HMK : Hid (∀ (lo hi : Nat) (A0 A1 A2 A3 : Option Addr) (C0 C1 C2 C3 : Nat) W, MWs lo hi W x A0 A1 A2 A3 → hi ≤ W.heap.size → cnW x ≤ 8388608 → Calls Tryz.prog 25 #[.agg #[.slice A0 x.fStore.length C0, .slice A1 x.fProfiles.length C1, .slice A2 x.fPending.length C2, .slice A3 x.fNexts.length C3], .int .i64 1] W fun e w' => e = .returned (.int .i64 ((1 + cnW x : Nat) : Int)) ∧ ty.Rel lo hi W w') := fun lo hi A0 A1 A2 A3 C0 C1 C2 C3 W hM hhi hk => markMW_any lo hi A0 A1 A2 A3 C0 C1 C2 C3 x 1 W hM.st hM.pr hM.pe hM.nx hhi (by omega) (by omega)
 have HCN : Hid (ty.wt1Wo x ≤ 1048576 → cnW x ≤ 8388608) := fun h => by have := cnW_le x; omega
 have HEQ2 : Hid (∀ (A A' : Option Addr) (c c' : Nat) W, ty.SrcEt none W A p2 → ty.SrcEt none W A' p2 → ty.wtEt p2 ≤ 1048576 → Calls Tryz.prog 18 #[.slice A p2.length c, .slice A' p2.length c'] W fun e w' => e = .returned (.bool true) ∧ Below W.heap.size W w') := fun A A' c c' W h h' hw => ty.eqEt_any A A' c c' p2 W h h' hw
 have HMK2 : Hid (∀ (lo hi : Nat) (A : Option Addr) (c k : Nat) W, ty.MEt lo hi W A p2 → 0 < k → k + ty.cnEt p2 ≤ 100000000 → Calls Tryz.prog 20 #[.slice A p2.length c, .int .i64 (k : Int)] W fun e w' => e = .returned (.int .i64 ((k + ty.cnEt p2 : Nat) : Int)) ∧ ty.Rel lo hi W w') := fun lo hi A c k W hM h0 hk => ty.markEt_any lo hi A c p2 k W hM h0 hk
 have HCN2 : Hid (ty.wtEt p2 ≤ 1048576 → ty.cnEt p2 ≤ 8388608) := fun h => by have := ty.cnEt_le p2; omega
 clear hb s0_ s1_ s2_ s3_ hrs hb2 hs2 hm hT
 generalize x.fStore.length = n0 at *
 generalize x.fProfiles.length = n1 at *
 generalize x.fPending.length = n2 at *
 generalize x.fNexts.length = n3 at *
 generalize p2.length = m2 at *
 obtain ⟨k0, hk0⟩ : ∃ k, cnW x = k := ⟨_, rfl⟩
 rw [hk0] at HMK HCN
 clear hk0
 obtain ⟨k2, hk2⟩ : ∃ k, ty.cnEt p2 = k := ⟨_, rfl⟩
 rw [hk2] at HMK2 HCN2
 clear hk2
 have HB0 : Hid (Below w.heap.size w (w.alloc (Obj.cells #[.slice a0 n0 c0, .slice a1 n1 c1, .slice a2 n2 c2, .slice a3 n3 c3] 27))) := (Below.refl _ _).alloc (Nat.le_refl _) _
 have HW0 : Hid (WoC (w.alloc (Obj.cells #[.slice a0 n0 c0, .slice a1 n1 c1, .slice a2 n2 c2, .slice a3 n3 c3] 27)) w.heap.size (.slice a0 n0 c0) (.slice a1 n1 c1) (.slice a2 n2 c2) (.slice a3 n3 c3)) := ⟨by simp [go_sem], by simp [go_sem], by simp [go_sem], by simp [go_sem]⟩
 by_cases hzb1 : 1048576 < s1.size
 ·have hzc1 : (1048576 : Int) < (s1.size : Int) := by omega
  go_enter Tryz.func5, Tryz.ntmps5
  go_wp2
  go_ret
  exact ⟨rfl, HB0.out⟩
 have hzc1 : ¬ (1048576 : Int) < (s1.size : Int) := by omega
 have HZ1 : Hid (s1.size ≤ 1048576) := by show _ ≤ _; omega
 by_cases hzb3 : 1048576 < s3.size
 ·have hzc3 : (1048576 : Int) < (s3.size : Int) := by omega
  go_enter Tryz.func5, Tryz.ntmps5
  go_wp2
  go_ret
  exact ⟨rfl, HB0.out⟩
 have hzc3 : ¬ (1048576 : Int) < (s3.size : Int) := by omega
 have HZ3 : Hid (s3.size ≤ 1048576) := by show _ ≤ _; omega
 go_enter Tryz.func5, Tryz.ntmps5
 go_wp2_with (go_at_call 6; refine (HSZ.out _ HB0.out).mono ?_; rintro e u0 ⟨⟨r0, rfl, hr0⟩, hlu0⟩)
 ·go_ret
  exact ⟨rfl, HB0.out.trans (hlu0.mono HB0.out.size)⟩
 have HW : Hid (ty.wt1Wo x ≤ 1048576) := by
  have h := hr0.resolve_left (by omega)
  show _ ≤ _
  omega
 have hrr0 : 0 ≤ r0 ∧ r0 ≤ 1048576 := by omega
 have HC0 : Hid (k0 ≤ 8388608) := HCN.out HW.out
 have B_u0 : Below w.heap.size w u0 := HB0.out.trans (hlu0.mono HB0.out.size)
 have HK_u0 : Hid (WoC u0 w.heap.size (.slice a0 n0 c0) (.slice a1 n1 c1) (.slice a2 n2 c2) (.slice a3 n3 c3)) := HW0.out.below hlu0
 clear hr0 hlu0
 go_wp2_with (go_at_call 12; refine (HSZ2.out _ _ (B_u0) (by omega) (by omega)).mono ?_; rintro e u2 ⟨⟨r2, rfl, hr2⟩, hlu2⟩; obtain ⟨j0, j1, j2, j3⟩ := HK_u0.out.below hlu2)
 ·go_ret
  exact ⟨rfl, (B_u0).trans (hlu2.mono (B_u0).size)⟩
 have HW2 : Hid (ty.wtEt p2 ≤ 1048576) := by
  have h := hr2.resolve_left (by omega)
  show _ ≤ _
  omega
 have hrr2 : 0 ≤ r2 ∧ r2 ≤ 1048576 := by omega
 clear hr2
 have B_u2 : Below w.heap.size w u2 := (B_u0).trans (hlu2.mono (B_u0).size)
 have HK_u2 : Hid (WoC u2 w.heap.size (.slice a0 n0 c0) (.slice a1 n1 c1) (.slice a2 n2 c2) (.slice a3 n3 c3)) := HK_u0.out.below hlu2
 clear hlu2
 have HC2 : Hid (k2 ≤ 8388608) := HCN2.out HW2.out
 have HRL1 : Hid (BigW rs) := HRL.out HW.out HW2.out HZ1.out HZ3.out
 have HCR : Hid (ty.cnWr rs ≤ 33555200) := by show _ ≤ _; have h1 := ty.cnWr_le rs; have h2 := HRL1.out.2; omega
 go_wp2_with (go_at_call 8; refine (HTO.out _ (B_u2) HW.out).mono ?_; rintro e wa ⟨⟨g0, g1, g2, g3, rfl, ho⟩, hl⟩; refine Hid.out ?_)
 refine Lib.hid ?_
 clear j0 j1 j2 j3
 have B_wa : Below w.heap.size w wa := (B_u2).trans (hl.mono (B_u2).size)
 have HK_wa : Hid (WoC wa w.heap.size (.slice a0 n0 c0) (.slice a1 n1 c1) (.slice a2 n2 c2) (.slice a3 n3 c3)) := HK_u2.out.below hl
 have HS : Hid (SrcW (some u2.heap.size) wa x (some ⟨g0, 0, none⟩) (some ⟨g1, 0, none⟩) (some ⟨g2, 0, none⟩) (some ⟨g3, 0, none⟩)) := ho
 clear ho hl
 go_wp2_with (go_at_call 15; refine (HTO2.out _ (B_wa) HW2.out).mono ?_; rintro e wa2 ⟨rfl, ho, hl⟩; refine Hid.out ?_)
 refine Lib.hid ?_
 have B_wa2 : Below w.heap.size w wa2 := (B_wa).trans (hl.mono (B_wa).size)
 have HK_wa2 : Hid (WoC wa2 w.heap.size (.slice a0 n0 c0) (.slice a1 n1 c1) (.slice a2 n2 c2) (.slice a3 n3 c3)) := HK_wa.out.below hl
 have HS_wa2 : Hid (SrcW (some u2.heap.size) wa2 x (some ⟨g0, 0, none⟩) (some ⟨g1, 0, none⟩) (some ⟨g2, 0, none⟩) (some ⟨g3, 0, none⟩)) := HS.out.below hl
 have HS2 : Hid (ty.SrcEt (some wa.heap.size) wa2 (some ⟨wa.heap.size, 0, none⟩) p2) := ho
 clear ho hl
 go_wp2_with (go_at_call 22; refine (HSP.out _ _ _ _ _ _ _ _ HS_wa2.out HW.out HS2.out HW2.out HZ1.out HZ3.out).mono ?_; rintro e w3 ⟨⟨v3, rfl, hv3⟩, hl3⟩; refine Hid.out ?_)
 refine Lib.hid ?_
 obtain ⟨g3, c3_, hve3, hss3⟩ := hv3
 subst hve3
 have HP : Hid (∀ W, Below w3.heap.size w3 W → ty.SrcWr none W (some ⟨g3, 0, none⟩) rs) := fun W h => hss3.below h
 have B_w3 : Below w.heap.size w w3 := (B_wa2).trans (hl3.mono (B_wa2).size)
 have HK_w3 : Hid (WoC w3 w.heap.size (.slice a0 n0 c0) (.slice a1 n1 c1) (.slice a2 n2 c2) (.slice a3 n3 c3)) := HK_wa2.out.below hl3
 clear hl3 hss3 HS_wa2 HS2
 have C_w3 : Below w3.heap.size w3 w3 := Below.refl _ _
 have HKW3 : Hid (WoC w3 w.heap.size (.slice a0 n0 c0) (.slice a1 n1 c1) (.slice a2 n2 c2) (.slice a3 n3 c3)) := HK_w3
 have hw3l : w.heap.size < w3.heap.size := World.block_lt_of_cell? _ _ HK_w3.out.1
 obtain ⟨j0, j1, j2, j3⟩ := HK_w3.out
 go_wp2_with (go_at_call 8; refine (HTO.out _ (B_w3) HW.out).mono ?_; rintro e wx ⟨⟨x0, x1, x2, x3, rfl, ho⟩, hl⟩; refine Hid.out ?_)
 refine Lib.hid ?_
 clear j0 j1 j2 j3
 have B_wx : Below w.heap.size w wx := (B_w3).trans (hl.mono (B_w3).size)
 have C_wx : Below w3.heap.size w3 wx := (C_w3).trans (hl.mono (C_w3).size)
 have HK_wx : Hid (WoC wx w.heap.size (.slice a0 n0 c0) (.slice a1 n1 c1) (.slice a2 n2 c2) (.slice a3 n3 c3)) := HK_w3.out.below hl
 have hlo : w3.heap.size ≤ wx.heap.size := hl.size
 have HX : Hid (SrcW (some w3.heap.size) wx x (some ⟨x0, 0, none⟩) (some ⟨x1, 0, none⟩) (some ⟨x2, 0, none⟩) (some ⟨x3, 0, none⟩)) := ho
 have HM : Hid (MWs w3.heap.size wx.heap.size wx x (some ⟨x0, 0, none⟩) (some ⟨x1, 0, none⟩) (some ⟨x2, 0, none⟩) (some ⟨x3, 0, none⟩)) := MWs.src ho
 clear ho hl
 have HA : Hid (Below wx.heap.size wx (wx.alloc (Obj.cells #[.slice (some ⟨x0, 0, none⟩) n0 n0, .slice (some ⟨x1, 0, none⟩) n1 n1, .slice (some ⟨x2, 0, none⟩) n2 n2, .slice (some ⟨x3, 0, none⟩) n3 n3] 35))) := (Below.refl _ _).alloc (Nat.le_refl _) _
 have HXC0 : Hid (WoC (wx.alloc (Obj.cells #[.slice (some ⟨x0, 0, none⟩) n0 n0, .slice (some ⟨x1, 0, none⟩) n1 n1, .slice (some ⟨x2, 0, none⟩) n2 n2, .slice (some ⟨x3, 0, none⟩) n3 n3] 35)) wx.heap.size (.slice (some ⟨x0, 0, none⟩) n0 n0) (.slice (some ⟨x1, 0, none⟩) n1 n1) (.slice (some ⟨x2, 0, none⟩) n2 n2) (.slice (some ⟨x3, 0, none⟩) n3 n3)) := ⟨by simp [go_sem], by simp [go_sem], by simp [go_sem], by simp [go_sem]⟩
 have BA : Below w.heap.size w (wx.alloc (Obj.cells #[.slice (some ⟨x0, 0, none⟩) n0 n0, .slice (some ⟨x1, 0, none⟩) n1 n1, .slice (some ⟨x2, 0, none⟩) n2 n2, .slice (some ⟨x3, 0, none⟩) n3 n3] 35)) := (B_wx).trans (HA.out.mono (B_wx).size)
 have CA : Below w3.heap.size w3 (wx.alloc (Obj.cells #[.slice (some ⟨x0, 0, none⟩) n0 n0, .slice (some ⟨x1, 0, none⟩) n1 n1, .slice (some ⟨x2, 0, none⟩) n2 n2, .slice (some ⟨x3, 0, none⟩) n3 n3] 35)) := (C_wx).trans (HA.out.mono (C_wx).size)
 have HKA : Hid (WoC (wx.alloc (Obj.cells #[.slice (some ⟨x0, 0, none⟩) n0 n0, .slice (some ⟨x1, 0, none⟩) n1 n1, .slice (some ⟨x2, 0, none⟩) n2 n2, .slice (some ⟨x3, 0, none⟩) n3 n3] 35)) w.heap.size (.slice a0 n0 c0) (.slice a1 n1 c1) (.slice a2 n2 c2) (.slice a3 n3 c3)) := HK_wx.out.below HA.out
 have HXA : Hid (SrcW (some w3.heap.size) (wx.alloc (Obj.cells #[.slice (some ⟨x0, 0, none⟩) n0 n0, .slice (some ⟨x1, 0, none⟩) n1 n1, .slice (some ⟨x2, 0, none⟩) n2 n2, .slice (some ⟨x3, 0, none⟩) n3 n3] 35)) x (some ⟨x0, 0, none⟩) (some ⟨x1, 0, none⟩) (some ⟨x2, 0, none⟩) (some ⟨x3, 0, none⟩)) := HX.out.below HA.out
 have HMA : Hid (MWs w3.heap.size wx.heap.size (wx.alloc (Obj.cells #[.slice (some ⟨x0, 0, none⟩) n0 n0, .slice (some ⟨x1, 0, none⟩) n1 n1, .slice (some ⟨x2, 0, none⟩) n2 n2, .slice (some ⟨x3, 0, none⟩) n3 n3] 35)) x (some ⟨x0, 0, none⟩) (some ⟨x1, 0, none⟩) (some ⟨x2, 0, none⟩) (some ⟨x3, 0, none⟩)) := HM.out.shp (ty.Shp.below HA.out)
 have HTX2 : Hid (Calls Tryz.prog 15 #[.slice b2 m2 d2] (wx.alloc (Obj.cells #[.slice (some ⟨x0, 0, none⟩) n0 n0, .slice (some ⟨x1, 0, none⟩) n1 n1, .slice (some ⟨x2, 0, none⟩) n2 n2, .slice (some ⟨x3, 0, none⟩) n3 n3] 35)) fun e w' => e = .returned (.slice (some ⟨wx.heap.size + 1, 0, none⟩) m2 m2) ∧ ty.SrcEt (some (wx.heap.size + 1)) w' (some ⟨wx.heap.size + 1, 0, none⟩) p2 ∧ Below (wx.heap.size + 1) (wx.alloc (Obj.cells #[.slice (some ⟨x0, 0, none⟩) n0 n0, .slice (some ⟨x1, 0, none⟩) n1 n1, .slice (some ⟨x2, 0, none⟩) n2 n2, .slice (some ⟨x3, 0, none⟩) n3 n3] 35)) w') := by
  have h := HTO2.out (wx.alloc (Obj.cells #[.slice (some ⟨x0, 0, none⟩) n0 n0, .slice (some ⟨x1, 0, none⟩) n1 n1, .slice (some ⟨x2, 0, none⟩) n2 n2, .slice (some ⟨x3, 0, none⟩) n3 n3] 35)) BA HW2.out
  have hsz : (wx.alloc (Obj.cells #[.slice (some ⟨x0, 0, none⟩) n0 n0, .slice (some ⟨x1, 0, none⟩) n1 n1, .slice (some ⟨x2, 0, none⟩) n2 n2, .slice (some ⟨x3, 0, none⟩) n3 n3] 35)).heap.size = wx.heap.size + 1 := by simp
  rw [hsz] at h
  exact h
 go_wp2_with (go_at_call 15; refine (HTX2.out).mono ?_; rintro e wx2 ⟨rfl, ho, hl_⟩; refine Hid.out ?_)
 refine Lib.hid ?_
 have hl : Below (wx.alloc (Obj.cells #[.slice (some ⟨x0, 0, none⟩) n0 n0, .slice (some ⟨x1, 0, none⟩) n1 n1, .slice (some ⟨x2, 0, none⟩) n2 n2, .slice (some ⟨x3, 0, none⟩) n3 n3] 35)).heap.size (wx.alloc (Obj.cells #[.slice (some ⟨x0, 0, none⟩) n0 n0, .slice (some ⟨x1, 0, none⟩) n1 n1, .slice (some ⟨x2, 0, none⟩) n2 n2, .slice (some ⟨x3, 0, none⟩) n3 n3] 35)) wx2 := by have hsz : (wx.alloc (Obj.cells #[.slice (some ⟨x0, 0, none⟩) n0 n0, .slice (some ⟨x1, 0, none⟩) n1 n1, .slice (some ⟨x2, 0, none⟩) n2 n2, .slice (some ⟨x3, 0, none⟩) n3 n3] 35)).heap.size = wx.heap.size + 1 := (by simp); rw [hsz]; exact hl_
 have hax : wx.heap.size + 1 ≤ wx2.heap.size := by have := hl.size; simp at this; omega
 have B_wx2 : Below w.heap.size w wx2 := (BA).trans (hl.mono (BA).size)
 have C_wx2 : Below w3.heap.size w3 wx2 := (CA).trans (hl.mono (CA).size)
 have HK_wx2 : Hid (WoC wx2 w.heap.size (.slice a0 n0 c0) (.slice a1 n1 c1) (.slice a2 n2 c2) (.slice a3 n3 c3)) := HKA.out.below hl
 have HX_wx2 : Hid (SrcW (some w3.heap.size) wx2 x (some ⟨x0, 0, none⟩) (some ⟨x1, 0, none⟩) (some ⟨x2, 0, none⟩) (some ⟨x3, 0, none⟩)) := HXA.out.below hl
 have HM_wx2 : Hid (MWs w3.heap.size wx.heap.size wx2 x (some ⟨x0, 0, none⟩) (some ⟨x1, 0, none⟩) (some ⟨x2, 0, none⟩) (some ⟨x3, 0, none⟩)) := HMA.out.shp (ty.Shp.below hl)
 have HXC_wx2 : Hid (WoC wx2 wx.heap.size (.slice (some ⟨x0, 0, none⟩) n0 n0) (.slice (some ⟨x1, 0, none⟩) n1 n1) (.slice (some ⟨x2, 0, none⟩) n2 n2) (.slice (some ⟨x3, 0, none⟩) n3 n3)) := HXC0.out.below hl
 have hlo2 : wx.heap.size ≤ wx.heap.size + 1 ∧ wx.heap.size + 1 ≤ wx2.heap.size := ⟨by omega, hax⟩
 have HX2 : Hid (ty.SrcEt (some (wx.heap.size + 1)) wx2 (some ⟨wx.heap.size + 1, 0, none⟩) p2) := ho
 have HM2 : Hid (ty.MEt (wx.heap.size + 1) wx2.heap.size wx2 (some ⟨wx.heap.size + 1, 0, none⟩) p2) := ty.MEt.src ho
 clear ho hl hl_
 obtain ⟨q0_, q1_, q2_, q3_⟩ := HXC_wx2.out
 go_wp2_with (go_at_call 23; refine (HIP.out _ _ _ _ _ _ _ _ HX_wx2.out HW.out HX2.out HW2.out HZ1.out HZ3.out (H_hm.out.below B_wx2) (H_hT.out.below B_wx2)).mono ?_; rintro e w5 ⟨⟨v5, rfl, hv5⟩, hl5⟩; refine Hid.out ?_)
 refine Lib.hid ?_
 clear q0_ q1_ q2_ q3_
 obtain ⟨g5, c5, hve5, hgb5⟩ := hv5
 subst hve5
 have B_w5 : Below w.heap.size w w5 := (B_wx2).trans (hl5.mono (B_wx2).size)
 have C_w5 : Below w3.heap.size w3 w5 := (C_wx2).trans (hl5.mono (C_wx2).size)
 have HK_w5 : Hid (WoC w5 w.heap.size (.slice a0 n0 c0) (.slice a1 n1 c1) (.slice a2 n2 c2) (.slice a3 n3 c3)) := HK_wx2.out.below hl5
 have HX_w5 : Hid (SrcW (some w3.heap.size) w5 x (some ⟨x0, 0, none⟩) (some ⟨x1, 0, none⟩) (some ⟨x2, 0, none⟩) (some ⟨x3, 0, none⟩)) := HX_wx2.out.below hl5
 have HM_w5 : Hid (MWs w3.heap.size wx.heap.size w5 x (some ⟨x0, 0, none⟩) (some ⟨x1, 0, none⟩) (some ⟨x2, 0, none⟩) (some ⟨x3, 0, none⟩)) := HM_wx2.out.shp (ty.Shp.below hl5)
 have HXC_w5 : Hid (WoC w5 wx.heap.size (.slice (some ⟨x0, 0, none⟩) n0 n0) (.slice (some ⟨x1, 0, none⟩) n1 n1) (.slice (some ⟨x2, 0, none⟩) n2 n2) (.slice (some ⟨x3, 0, none⟩) n3 n3)) := HXC_wx2.out.below hl5
 have HX2_w5 : Hid (ty.SrcEt (some (wx.heap.size + 1)) w5 (some ⟨wx.heap.size + 1, 0, none⟩) p2) := HX2.out.below hl5
 have HM2_w5 : Hid (ty.MEt (wx.heap.size + 1) wx2.heap.size w5 (some ⟨wx.heap.size + 1, 0, none⟩) p2) := HM2.out.shp (ty.Shp.below hl5)
 have HG : Hid (GZ wx2.heap.size w5.heap.size w5 (some ⟨g5, 0, none⟩) rs) := ⟨hgb5, Nat.le_refl _⟩
 have hgx : wx.heap.size ≤ wx2.heap.size := by omega
 have hgx2 : wx2.heap.size ≤ wx2.heap.size := Nat.le_refl _
 have hg3 : w3.heap.size ≤ wx2.heap.size := Nat.le_trans hlo hgx
 clear hl5 hgb5 HA BA CA HKA HXA HMA HXC0
 go_wp2_with (go_at_call 24; refine (ty.eqWr_bd _ _ _ _ rs _ HG.out.1.src (HP.out _ C_w5) HRL1.out.1.1 HRL1.out.1.2).mono ?_; rintro e w6 ⟨rfl, hl⟩; refine Hid.out ?_)
 refine Lib.hid ?_
 have B_w6 : Below w.heap.size w w6 := (B_w5).trans (hl.mono (B_w5).size)
 have C_w6 : Below w3.heap.size w3 w6 := (C_w5).trans (hl.mono (C_w5).size)
 have HK_w6 : Hid (WoC w6 w.heap.size (.slice a0 n0 c0) (.slice a1 n1 c1) (.slice a2 n2 c2) (.slice a3 n3 c3)) := HK_w5.out.below hl
 have HX_w6 : Hid (SrcW (some w3.heap.size) w6 x (some ⟨x0, 0, none⟩) (some ⟨x1, 0, none⟩) (some ⟨x2, 0, none⟩) (some ⟨x3, 0, none⟩)) := HX_w5.out.below hl
 have HM_w6 : Hid (MWs w3.heap.size wx.heap.size w6 x (some ⟨x0, 0, none⟩) (some ⟨x1, 0, none⟩) (some ⟨x2, 0, none⟩) (some ⟨x3, 0, none⟩)) := HM_w5.out.shp (ty.Shp.below hl)
 have HXC_w6 : Hid (WoC w6 wx.heap.size (.slice (some ⟨x0, 0, none⟩) n0 n0) (.slice (some ⟨x1, 0, none⟩) n1 n1) (.slice (some ⟨x2, 0, none⟩) n2 n2) (.slice (some ⟨x3, 0, none⟩) n3 n3)) := HXC_w5.out.below hl
 have HX2_w6 : Hid (ty.SrcEt (some (wx.heap.size + 1)) w6 (some ⟨wx.heap.size + 1, 0, none⟩) p2) := HX2_w5.out.below hl
 have HM2_w6 : Hid (ty.MEt (wx.heap.size + 1) wx2.heap.size w6 (some ⟨wx.heap.size + 1, 0, none⟩) p2) := HM2_w5.out.shp (ty.Shp.below hl)
 have HG_w6 : Hid (GZ wx2.heap.size w5.heap.size w6 (some ⟨g5, 0, none⟩) rs) := HG.out.below hl
 clear hl
 have HSS : Hid (∀ W, Below w6.heap.size w6 W → WoC W wx.heap.size (.slice (some ⟨x0, 0, none⟩) n0 n0) (.slice (some ⟨x1, 0, none⟩) n1 n1) (.slice (some ⟨x2, 0, none⟩) n2 n2) (.slice (some ⟨x3, 0, none⟩) n3 n3) ∧ WoC W w.heap.size (.slice a0 n0 c0) (.slice a1 n1 c1) (.slice a2 n2 c2) (.slice a3 n3 c3)) := fun W h => ⟨HXC_w6.out.below h, HK_w6.out.below h⟩
 have HSX : Hid (SrcW none w6 x (some ⟨x0, 0, none⟩) (some ⟨x1, 0, none⟩) (some ⟨x2, 0, none⟩) (some ⟨x3, 0, none⟩)) := HX_w6.out.any
 have HBX : Hid (Below w.heap.size w w6) := B_w6
 have hltb : wx.heap.size < w6.heap.size := World.block_lt_of_cell? _ _ HXC_w6.out.1
 have hltw : w.heap.size < w6.heap.size := World.block_lt_of_cell? _ _ HK_w6.out.1
 obtain ⟨xb, hxb⟩ : ∃ xb, wx.heap.size = xb := ⟨_, rfl⟩
 have hlx : w3.heap.size ≤ xb := hxb ▸ hlo
 rw [hxb] at HSS hltb
 unfold WoC at HSS
 rw [hxb]
 go_wp2_with fail
 go_region_held3 (fun w' => (w'.cell? ⟨xb, 0, none⟩ = some (.slice (some ⟨x0, 0, none⟩) n0 n0) ∧ w'.cell? ⟨xb, 1, none⟩ = some (.slice (some ⟨x1, 0, none⟩) n1 n1) ∧ w'.cell? ⟨xb, 2, none⟩ = some (.slice (some ⟨x2, 0, none⟩) n2 n2) ∧ w'.cell? ⟨xb, 3, none⟩ = some (.slice (some ⟨x3, 0, none⟩) n3 n3)) ∧ w'.cell? ⟨w.heap.size, 0, none⟩ = some (.slice a0 n0 c0) ∧ w'.cell? ⟨w.heap.size, 1, none⟩ = some (.slice a1 n1 c1) ∧ w'.cell? ⟨w.heap.size, 2, none⟩ = some (.slice a2 n2 c2) ∧ w'.cell? ⟨w.heap.size, 3, none⟩ = some (.slice a3 n3 c3))
  (first | exact HSS.out _ (Below.refl _ _).drew | exact HSS.out _ hb8 | exact HSS.out _ hb7 | exact HSS.out _ (Below.refl _ _) | go_keep)
  (first
   | (go_at_call 8; refine (HTO.out _ HBX.out.drew HW.out).mono ?_; rintro e w7 ⟨⟨d0, d1, d2, d3, rfl, ho7⟩, hl7⟩; have hb7 : Below w6.heap.size w6 w7 := (Below.refl w6.heap.size w6).drew.trans hl7; have hs7 := HSX.out.below hb7)
   | (go_at_call 10; refine (HEQ.out _ _ _ _ _ _ _ _ _ _ _ _ _ _ _ _ _ hs7 ho7.any HW.out).mono ?_; rintro e w8 ⟨rfl, hl8⟩; have hb8 : Below w6.heap.size w6 w8 := hb7.trans (hl8.mono hb7.size)))
 refine Hid.out ?_
 refine Lib.hid ?_
 clear hs7 ho7 hl7 hl8 hb7 HSS HSX HBX
 have B_w8 : Below w.heap.size w w8 := (B_w6).trans (hb8.mono (B_w6).size)
 have C_w8 : Below w3.heap.size w3 w8 := (C_w6).trans (hb8.mono (C_w6).size)
 have HK_w8 : Hid (WoC w8 w.heap.size (.slice a0 n0 c0) (.slice a1 n1 c1) (.slice a2 n2 c2) (.slice a3 n3 c3)) := HK_w6.out.below hb8
 have HM_w8 : Hid (MWs w3.heap.size wx.heap.size w8 x (some ⟨x0, 0, none⟩) (some ⟨x1, 0, none⟩) (some ⟨x2, 0, none⟩) (some ⟨x3, 0, none⟩)) := HM_w6.out.shp (ty.Shp.below hb8)
 have HXC_w8 : Hid (WoC w8 wx.heap.size (.slice (some ⟨x0, 0, none⟩) n0 n0) (.slice (some ⟨x1, 0, none⟩) n1 n1) (.slice (some ⟨x2, 0, none⟩) n2 n2) (.slice (some ⟨x3, 0, none⟩) n3 n3)) := HXC_w6.out.below hb8
 have HX2_w8 : Hid (ty.SrcEt (some (wx.heap.size + 1)) w8 (some ⟨wx.heap.size + 1, 0, none⟩) p2) := HX2_w6.out.below hb8
 have HM2_w8 : Hid (ty.MEt (wx.heap.size + 1) wx2.heap.size w8 (some ⟨wx.heap.size + 1, 0, none⟩) p2) := HM2_w6.out.shp (ty.Shp.below hb8)
 have HG_w8 : Hid (GZ wx2.heap.size w5.heap.size w8 (some ⟨g5, 0, none⟩) rs) := HG_w6.out.below hb8
 clear hb8
 go_wp2_with (go_at_call 15; refine (HTO2.out _ (B_w8) HW2.out).mono ?_; rintro e wt2 ⟨rfl, ho, hl⟩; refine Hid.out ?_)
 refine Lib.hid ?_
 have B_wt2 : Below w.heap.size w wt2 := (B_w8).trans (hl.mono (B_w8).size)
 have C_wt2 : Below w3.heap.size w3 wt2 := (C_w8).trans (hl.mono (C_w8).size)
 have HK_wt2 : Hid (WoC wt2 w.heap.size (.slice a0 n0 c0) (.slice a1 n1 c1) (.slice a2 n2 c2) (.slice a3 n3 c3)) := HK_w8.out.below hl
 have HM_wt2 : Hid (MWs w3.heap.size wx.heap.size wt2 x (some ⟨x0, 0, none⟩) (some ⟨x1, 0, none⟩) (some ⟨x2, 0, none⟩) (some ⟨x3, 0, none⟩)) := HM_w8.out.shp (ty.Shp.below hl)
 have HXC_wt2 : Hid (WoC wt2 wx.heap.size (.slice (some ⟨x0, 0, none⟩) n0 n0) (.slice (some ⟨x1, 0, none⟩) n1 n1) (.slice (some ⟨x2, 0, none⟩) n2 n2) (.slice (some ⟨x3, 0, none⟩) n3 n3)) := HXC_w8.out.below hl
 have HX2_wt2 : Hid (ty.SrcEt (some (wx.heap.size + 1)) wt2 (some ⟨wx.heap.size + 1, 0, none⟩) p2) := HX2_w8.out.below hl
 have HM2_wt2 : Hid (ty.MEt (wx.heap.size + 1) wx2.heap.size wt2 (some ⟨wx.heap.size + 1, 0, none⟩) p2) := HM2_w8.out.shp (ty.Shp.below hl)
 have HG_wt2 : Hid (GZ wx2.heap.size w5.heap.size wt2 (some ⟨g5, 0, none⟩) rs) := HG_w8.out.below hl
 have HY2 : Hid (ty.SrcEt none wt2 (some ⟨w8.heap.size, 0, none⟩) p2) := ho.any
 clear ho hl
 have HXY2 : Hid (ty.SrcEt none wt2 (some ⟨xb + 1, 0, none⟩) p2) := by rw [← hxb]; exact HX2_wt2.out.any
 go_wp2_with (go_at_call 18; refine (HEQ2.out _ _ _ _ _ HXY2.out HY2.out HW2.out).mono ?_; rintro e we2 ⟨rfl, hl⟩; refine Hid.out ?_)
 refine Lib.hid ?_
 have B_we2 : Below w.heap.size w we2 := (B_wt2).trans (hl.mono (B_wt2).size)
 have C_we2 : Below w3.heap.size w3 we2 := (C_wt2).trans (hl.mono (C_wt2).size)
 have HK_we2 : Hid (WoC we2 w.heap.size (.slice a0 n0 c0) (.slice a1 n1 c1) (.slice a2 n2 c2) (.slice a3 n3 c3)) := HK_wt2.out.below hl
 have HM_we2 : Hid (MWs w3.heap.size wx.heap.size we2 x (some ⟨x0, 0, none⟩) (some ⟨x1, 0, none⟩) (some ⟨x2, 0, none⟩) (some ⟨x3, 0, none⟩)) := HM_wt2.out.shp (ty.Shp.below hl)
 have HXC_we2 : Hid (WoC we2 wx.heap.size (.slice (some ⟨x0, 0, none⟩) n0 n0) (.slice (some ⟨x1, 0, none⟩) n1 n1) (.slice (some ⟨x2, 0, none⟩) n2 n2) (.slice (some ⟨x3, 0, none⟩) n3 n3)) := HXC_wt2.out.below hl
 have HX2_we2 : Hid (ty.SrcEt (some (wx.heap.size + 1)) we2 (some ⟨wx.heap.size + 1, 0, none⟩) p2) := HX2_wt2.out.below hl
 have HM2_we2 : Hid (ty.MEt (wx.heap.size + 1) wx2.heap.size we2 (some ⟨wx.heap.size + 1, 0, none⟩) p2) := HM2_wt2.out.shp (ty.Shp.below hl)
 have HG_we2 : Hid (GZ wx2.heap.size w5.heap.size we2 (some ⟨g5, 0, none⟩) rs) := HG_wt2.out.below hl
 clear hl HY2
 obtain ⟨v0_, v1_, v2_, v3_⟩ := HXC_we2.out
 rw [hxb] at v0_ v1_ v2_ v3_
 have HMC : Hid (∀ W, MWs w3.heap.size wx.heap.size W x (some ⟨x0, 0, none⟩) (some ⟨x1, 0, none⟩) (some ⟨x2, 0, none⟩) (some ⟨x3, 0, none⟩) → wx.heap.size ≤ W.heap.size → Calls Tryz.prog 25 #[.agg #[.slice (some ⟨x0, 0, none⟩) n0 n0, .slice (some ⟨x1, 0, none⟩) n1 n1, .slice (some ⟨x2, 0, none⟩) n2 n2, .slice (some ⟨x3, 0, none⟩) n3 n3], .int .i64 1] W fun e w' => e = .returned (.int .i64 ((1 + k0 : Nat) : Int)) ∧ ty.Rel w3.heap.size wx.heap.size W w') := fun W h h2 => HMK.out _ _ _ _ _ _ _ _ _ _ W h h2 HC0.out
 obtain ⟨K0, hK0⟩ : ∃ K : Nat, 1 + k0 = K := ⟨_, rfl⟩
 rw [hK0] at HMC
 have hKb0 : 0 < K0 ∧ K0 ≤ 8388609 := by have := HC0.out; omega
 have hKn : ¬ (K0 : Int) < 0 := by omega
 clear hK0
 have hxs : wx.heap.size ≤ we2.heap.size := by rw [hxb]; exact Nat.le_of_lt (World.block_lt_of_cell? _ _ v0_)
 go_wp2_with (go_at_call 25; refine (HMC.out _ HM_we2.out hxs).mono ?_; rintro e wm ⟨rfl, hR⟩; refine Hid.out ?_)
 refine Lib.hid ?_
 clear v0_ v1_ v2_ v3_
 have B_wm : Below w.heap.size w wm := (B_we2).trans (hR.toBelow B_w3.size (B_we2).size)
 have C_wm : Below w3.heap.size w3 wm := (C_we2).trans (hR.toBelow (Nat.le_refl _) (C_we2).size)
 have HG_wm : Hid (GZ wx2.heap.size w5.heap.size wm (some ⟨g5, 0, none⟩) rs) := HG_we2.out.rel hR hgx
 have HK_wm : Hid (WoC wm w.heap.size (.slice a0 n0 c0) (.slice a1 n1 c1) (.slice a2 n2 c2) (.slice a3 n3 c3)) := HKW3.out.below C_wm
 have HM2_wm : Hid (ty.MEt (wx.heap.size + 1) wx2.heap.size wm (some ⟨wx.heap.size + 1, 0, none⟩) p2) := HM2_we2.out.shp hR.2.2.2
 clear hR
 have HMC2 : Hid (∀ W, ty.MEt (wx.heap.size + 1) wx2.heap.size W (some ⟨wx.heap.size + 1, 0, none⟩) p2 → Calls Tryz.prog 20 #[.slice (some ⟨xb + 1, 0, none⟩) m2 m2, .int .i64 (K0 : Int)] W fun e w' => e = .returned (.int .i64 ((K0 + k2 : Nat) : Int)) ∧ ty.Rel (wx.heap.size + 1) wx2.heap.size W w') := fun W h => by
  rw [← hxb]
  exact HMK2.out _ _ _ m2 K0 W h (by omega) (by have := HC2.out; omega)
 obtain ⟨K2, hK2⟩ : ∃ K : Nat, K0 + k2 = K := ⟨_, rfl⟩
 rw [hK2] at HMC2
 have hKb2 : 0 < K2 ∧ K2 ≤ 16777217 := by have := HC2.out; omega
 have hKn2 : ¬ (K2 : Int) < 0 := by omega
 clear hK2
 go_wp2_with (go_at_call 20; refine (HMC2.out _ HM2_wm.out).mono ?_; rintro e wm2 ⟨rfl, hR⟩; refine Hid.out ?_)
 refine Lib.hid ?_
 have B_wm2 : Below w.heap.size w wm2 := (B_wm).trans (hR.toBelow (by have := hlo2; have := B_w3.size; omega) (B_wm).size)
 have C_wm2 : Below w3.heap.size w3 wm2 := (C_wm).trans (hR.toBelow (by have := hlo2; omega) (C_wm).size)
 have HG_wm2 : Hid (GZ wx2.heap.size w5.heap.size wm2 (some ⟨g5, 0, none⟩) rs) := HG_wm.out.rel hR hgx2
 have HK_wm2 : Hid (WoC wm2 w.heap.size (.slice a0 n0 c0) (.slice a1 n1 c1) (.slice a2 n2 c2) (.slice a3 n3 c3)) := HKW3.out.below C_wm2
 clear hR
 go_wp2_with (go_at_call 24; refine (ty.eqWr_bd _ _ _ _ rs _ HG_wm2.out.1.src (HP.out _ C_wm2) HRL1.out.1.1 HRL1.out.1.2).mono ?_; rintro e w9 ⟨rfl, hl⟩; refine Hid.out ?_)
 refine Lib.hid ?_
 have B_w9 : Below w.heap.size w w9 := (B_wm2).trans (hl.mono (B_wm2).size)
 have C_w9 : Below w3.heap.size w3 w9 := (C_wm2).trans (hl.mono (C_wm2).size)
 have HK_w9 : Hid (WoC w9 w.heap.size (.slice a0 n0 c0) (.slice a1 n1 c1) (.slice a2 n2 c2) (.slice a3 n3 c3)) := HK_wm2.out.below hl
 have HG_w9 : Hid (GZ wx2.heap.size w5.heap.size w9 (some ⟨g5, 0, none⟩) rs) := HG_wm2.out.below hl
 clear hl
 have HMG : Hid (∀ W, GZ wx2.heap.size w5.heap.size W (some ⟨g5, 0, none⟩) rs → Calls Tryz.prog 26 #[.slice (some ⟨g5, 0, none⟩) rs.length c5, .int .i64 1] W fun e w' => e = .returned (.int .i64 ((1 + ty.cnWr rs : Nat) : Int)) ∧ ty.GWr wx2.heap.size w5.heap.size w' (some ⟨g5, 0, none⟩) (ty.mkWr 1 rs) ∧ ty.Md wx2.heap.size w5.heap.size W w') := fun W h => ty.markGWr_any _ _ _ c5 rs 1 W h.1 h.2 (by omega) (by have := HCR.out; omega)
 have HHD : Hid (∀ W, ty.SrcWr none W (some ⟨g5, 0, none⟩) (ty.mkWr 1 rs) → Calls Tryz.prog 27 #[.slice (some ⟨g5, 0, none⟩) rs.length c5, .int .i64 1] W fun e w' => e = .returned (.int .i64 ((1 + ty.cnWr rs : Nat) : Int)) ∧ Below W.heap.size W w') := fun W h => ty.heldWr_any _ c5 rs 1 W h (by omega) (by have := HCR.out; omega)
 obtain ⟨KR, hKR⟩ : ∃ K : Nat, 1 + ty.cnWr rs = K := ⟨_, rfl⟩
 rw [hKR] at HMG HHD
 have hKR0 : ¬ (KR : Int) < 0 := by omega
 clear hKR
 go_wp2_with (go_at_call 26; refine (HMG.out _ HG_w9.out).mono ?_; rintro e w10 ⟨rfl, hmk, hmd⟩; refine Hid.out ?_)
 refine Lib.hid ?_
 have C_w10 : Below w3.heap.size w3 w10 := (C_w9).trans (hmd.toBelow hg3 (C_w9).size)
 have B_w10 : Below w.heap.size w w10 := (B_w9).trans (hmd.toBelow (Nat.le_trans B_w3.size hg3) (B_w9).size)
 have HKQ : Hid (ty.SrcWr none w10 (some ⟨g5, 0, none⟩) (ty.mkWr 1 rs)) := hmk.src
 have HK_w10 : Hid (WoC w10 w.heap.size (.slice a0 n0 c0) (.slice a1 n1 c1) (.slice a2 n2 c2) (.slice a3 n3 c3)) := HKW3.out.below C_w10
 clear hmk hmd HG_w9
 go_wp2_with (go_at_call 27; refine (HHD.out _ HKQ.out).mono ?_; rintro e w11 ⟨rfl, hl⟩; refine Hid.out ?_)
 refine Lib.hid ?_
 have B_w11 : Below w.heap.size w w11 := (B_w10).trans (hl.mono (B_w10).size)
 have C_w11 : Below w3.heap.size w3 w11 := (C_w10).trans (hl.mono (C_w10).size)
 have HK_w11 : Hid (WoC w11 w.heap.size (.slice a0 n0 c0) (.slice a1 n1 c1) (.slice a2 n2 c2) (.slice a3 n3 c3)) := HK_w10.out.below hl
 have HKQ_w11 : Hid (ty.SrcWr none w11 (some ⟨g5, 0, none⟩) (ty.mkWr 1 rs)) := HKQ.out.below hl
 clear hl
 obtain ⟨j0, j1, j2, j3⟩ := HK_w11.out
 go_wp2_with (go_at_call 8; refine (HTO.out _ (B_w11) HW.out).mono ?_; rintro e wc ⟨⟨h0, h1, h2, h3, rfl, ho⟩, hl⟩; refine Hid.out ?_)
 refine Lib.hid ?_
 clear j0 j1 j2 j3
 have B_wc : Below w.heap.size w wc := (B_w11).trans (hl.mono (B_w11).size)
 have C_wc : Below w3.heap.size w3 wc := (C_w11).trans (hl.mono (C_w11).size)
 have HK_wc : Hid (WoC wc w.heap.size (.slice a0 n0 c0) (.slice a1 n1 c1) (.slice a2 n2 c2) (.slice a3 n3 c3)) := HK_w11.out.below hl
 have HKQ_wc : Hid (ty.SrcWr none wc (some ⟨g5, 0, none⟩) (ty.mkWr 1 rs)) := HKQ_w11.out.below hl
 have HV : Hid (SrcW (some w11.heap.size) wc x (some ⟨h0, 0, none⟩) (some ⟨h1, 0, none⟩) (some ⟨h2, 0, none⟩) (some ⟨h3, 0, none⟩)) := ho
 clear ho hl
 go_wp2_with (go_at_call 15; refine (HTO2.out _ (B_wc) HW2.out).mono ?_; rintro e wc2 ⟨rfl, ho, hl⟩; refine Hid.out ?_)
 refine Lib.hid ?_
 have B_wc2 : Below w.heap.size w wc2 := (B_wc).trans (hl.mono (B_wc).size)
 have C_wc2 : Below w3.heap.size w3 wc2 := (C_wc).trans (hl.mono (C_wc).size)
 have HK_wc2 : Hid (WoC wc2 w.heap.size (.slice a0 n0 c0) (.slice a1 n1 c1) (.slice a2 n2 c2) (.slice a3 n3 c3)) := HK_wc.out.below hl
 have HKQ_wc2 : Hid (ty.SrcWr none wc2 (some ⟨g5, 0, none⟩) (ty.mkWr 1 rs)) := HKQ_wc.out.below hl
 have HV_wc2 : Hid (SrcW (some w11.heap.size) wc2 x (some ⟨h0, 0, none⟩) (some ⟨h1, 0, none⟩) (some ⟨h2, 0, none⟩) (some ⟨h3, 0, none⟩)) := HV.out.below hl
 have HV2 : Hid (ty.SrcEt (some wc.heap.size) wc2 (some ⟨wc.heap.size, 0, none⟩) p2) := ho
 clear ho hl
 go_wp2_with (go_at_call 23; refine (HIP.out _ _ _ _ _ _ _ _ HV_wc2.out HW.out HV2.out HW2.out HZ1.out HZ3.out (H_hm.out.below B_wc2) (H_hT.out.below B_wc2)).mono ?_; rintro e w13 ⟨⟨v13, rfl, hv13⟩, hl⟩; refine Hid.out ?_)
 refine Lib.hid ?_
 obtain ⟨g13, c13, hve13, hss13⟩ := hv13
 subst hve13
 have B_w13 : Below w.heap.size w w13 := (B_wc2).trans (hl.mono (B_wc2).size)
 have C_w13 : Below w3.heap.size w3 w13 := (C_wc2).trans (hl.mono (C_wc2).size)
 have HK_w13 : Hid (WoC w13 w.heap.size (.slice a0 n0 c0) (.slice a1 n1 c1) (.slice a2 n2 c2) (.slice a3 n3 c3)) := HK_wc2.out.below hl
 have HKQ_w13 : Hid (ty.SrcWr none w13 (some ⟨g5, 0, none⟩) (ty.mkWr 1 rs)) := HKQ_wc2.out.below hl
 have HQ13 : Hid (ty.SrcWr none w13 (some ⟨g13, 0, none⟩) rs) := hss13.src
 clear hl hss13 HV_wc2 HV2
 go_wp2_with (go_at_call 24; refine (ty.eqWr_bd _ _ _ _ rs _ HQ13.out (HP.out _ C_w13) HRL1.out.1.1 HRL1.out.1.2).mono ?_; rintro e w14 ⟨rfl, hl⟩; refine Hid.out ?_)
 refine Lib.hid ?_
 have B_w14 : Below w.heap.size w w14 := (B_w13).trans (hl.mono (B_w13).size)
 have C_w14 : Below w3.heap.size w3 w14 := (C_w13).trans (hl.mono (C_w13).size)
 have HK_w14 : Hid (WoC w14 w.heap.size (.slice a0 n0 c0) (.slice a1 n1 c1) (.slice a2 n2 c2) (.slice a3 n3 c3)) := HK_w13.out.below hl
 have HKQ_w14 : Hid (ty.SrcWr none w14 (some ⟨g5, 0, none⟩) (ty.mkWr 1 rs)) := HKQ_w13.out.below hl
 clear hl
 go_wp2_with (go_at_call 27; refine (HHD.out _ HKQ_w14.out).mono ?_; rintro e w15 ⟨rfl, hl⟩; refine Hid.out ?_)
 refine Lib.hid ?_
 have B_w15 : Below w.heap.size w w15 := (B_w14).trans (hl.mono (B_w14).size)
 have C_w15 : Below w3.heap.size w3 w15 := (C_w14).trans (hl.mono (C_w14).size)
 have HK_w15 : Hid (WoC w15 w.heap.size (.slice a0 n0 c0) (.slice a1 n1 c1) (.slice a2 n2 c2) (.slice a3 n3 c3)) := HK_w14.out.below hl
 have HKQ_w15 : Hid (ty.SrcWr none w15 (some ⟨g5, 0, none⟩) (ty.mkWr 1 rs)) := HKQ_w14.out.below hl
 clear hl
 go_wp2
 go_ret
 exact ⟨rfl, B_w15⟩
end Go.Proofs.YtpfnnjfapcnbnaaGreatDoor.so
