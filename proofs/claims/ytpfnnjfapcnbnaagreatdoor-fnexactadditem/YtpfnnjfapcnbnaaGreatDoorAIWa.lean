import Derived.Test.YtpfnnjfapcnbnaaGreatDoorAI3a
import Derived.Test.YtpfnnjfapcnbnaaGreatDoorYBa
import Derived.Test.YtpfnnjfapcnbnaaGreatDoorYCa
import Derived.Test.YtpfnnjfapcnbnaaGreatDoorYGa
import Derived.Test.YtpfnnjfapcnbnaaGreatDoorREa
import Derived.Test.YtpfnnjfapcnbnaaGreatDoorRAa
import Derived.Test.YtpfnnjfapcnbnaaGreatDoorSTa
namespace Go.Proofs.YtpfnnjfapcnbnaaGreatDoor.so
open Go.ChangeShapes Go.WideShapes Go.ChangeAt Go.RowKit Go.Deep
set_option linter.unusedVariables false
set_option linter.unusedSimpArgs false
def GZ (lo hi : Nat) (w : World) (a : Option Addr) (l : List ty.It) : Prop := ty.GIt lo hi w a l ∧ hi ≤ w.heap.size
theorem GZ.below {lo hi : Nat} {w w' : World} {a : Option Addr} {l : List ty.It} (h : GZ lo hi w a l) (hb : Below w.heap.size w w') : GZ lo hi w' a l := ⟨h.1.kept fun p _ hp => hb.block p (Nat.lt_of_lt_of_le hp h.2), Nat.le_trans h.2 hb.size⟩
theorem GZ.rel {lo hi lo' hi' : Nat} {w w' : World} {a : Option Addr} {l : List ty.It} (h : GZ lo hi w a l) (hR : ty.Rel lo' hi' w w') (hd : hi' ≤ lo) : GZ lo hi w' a l := ⟨h.1.kept fun p h1 h2 => hR.2.2.1 p (Nat.lt_of_lt_of_le h2 h.2) (.inr (Nat.le_trans hd h1)), Nat.le_trans h.2 hR.2.1⟩
set_option maxHeartbeats 8000000 in
set_option maxRecDepth 100000 in
theorem add_law (a0 : Option Addr) (c0 : Nat) (p0 : List ty.It) (s1 : ByteArray) (a2 : Option Addr) (c2 : Nat) (p2 : List ty.Et) (s3 : ByteArray) (w : World) (hm : tt.ML w) (hT : wd.TabB w) (hb0 : ty.SrcIt none w a0 p0) (hs0 : ty.SmIt p0) (hz1 : s1.size ≤ maxLen) (hb2 : ty.SrcEt none w a2 p2) (hs2 : ty.SmEt p2) (hz3 : s3.size ≤ maxLen) :
  Calls Tryz.prog 4 #[.slice a0 p0.length c0, .string s1, .slice a2 p2.length c2, .string s3] w fun e w' => e = .returned (.bool true) ∧ Below w.heap.size w w' := by
 unfold maxLen at hz1 hz3
 have HSZ0 : Hid (∀ (W : World) (L : Int), Below w.heap.size w W → 0 ≤ L → L ≤ 1048576 → Calls Tryz.prog 11 #[.slice a0 p0.length c0, .int .i64 L] W fun e w' => (∃ r : Int, e = .returned (.int .i64 r) ∧ (r = -1 ∨ 0 ≤ r ∧ r = L - (ty.wtIt p0 : Int))) ∧ Below W.heap.size W w') := fun W L h h0 h1 => ty.szIt_any a0 c0 p0 L W (hb0.below h) hs0 ⟨h0, h1⟩
 have HTO0 : Hid (∀ W, Below w.heap.size w W → ty.wtIt p0 ≤ 1048576 → Calls Tryz.prog 14 #[.slice a0 p0.length c0] W fun e w' => e = .returned (.slice (some ⟨W.heap.size, 0, none⟩) p0.length p0.length) ∧ ty.SrcIt (some W.heap.size) w' (some ⟨W.heap.size, 0, none⟩) p0 ∧ Below W.heap.size W w') := fun W h hw => ty.toIt_any a0 c0 p0 W (hb0.below h) hw
 have HSZ2 : Hid (∀ (W : World) (L : Int), Below w.heap.size w W → 0 ≤ L → L ≤ 1048576 → Calls Tryz.prog 12 #[.slice a2 p2.length c2, .int .i64 L] W fun e w' => (∃ r : Int, e = .returned (.int .i64 r) ∧ (r = -1 ∨ 0 ≤ r ∧ r = L - (ty.wtEt p2 : Int))) ∧ Below W.heap.size W w') := fun W L h h0 h1 => ty.szEt_any a2 c2 p2 L W (hb2.below h) hs2 ⟨h0, h1⟩
 have HTO2 : Hid (∀ W, Below w.heap.size w W → ty.wtEt p2 ≤ 1048576 → Calls Tryz.prog 15 #[.slice a2 p2.length c2] W fun e w' => e = .returned (.slice (some ⟨W.heap.size, 0, none⟩) p2.length p2.length) ∧ ty.SrcEt (some W.heap.size) w' (some ⟨W.heap.size, 0, none⟩) p2 ∧ Below W.heap.size W w') := fun W h hw => ty.toEt_any a2 c2 p2 W (hb2.below h) hw
 have H_hm : Hid (tt.ML w) := hm
 have H_hT : Hid (wd.TabB w) := hT
 clear hb0 hs0 hb2 hs2 hm hT
 obtain ⟨n0, hn0⟩ : ∃ n, p0.length = n := ⟨_, rfl⟩
 obtain ⟨n2, hn2⟩ : ∃ n, p2.length = n := ⟨_, rfl⟩
 obtain ⟨rs, hrs⟩ : ∃ rs, aitL p0 s1 s3 p2 = rs := ⟨_, rfl⟩
 obtain ⟨r2, hr2⟩ : ∃ r, aitC p0 s1 s3 p2 = r := ⟨_, rfl⟩
 have HRL : Hid (ty.wtIt p0 ≤ 1048576 → ty.wtEt p2 ≤ 1048576 → BigI rs) := fun w0 w2 => by rw [← hrs]; exact (ait_big w0 w2).1
 have HSP : Hid (∀ (lo0 : Nat) (A0 : Option Addr) (C0 : Nat) (lo2 : Nat) (A2 : Option Addr) (C2 : Nat) W, ty.SrcIt (some lo0) W A0 p0 → ty.wtIt p0 ≤ 1048576 → C0 = n0 → ty.SrcEt (some lo2) W A2 p2 → ty.wtEt p2 ≤ 1048576 → C2 = n2 → s1.size ≤ 1048576 → s3.size ≤ 1048576 → Calls Tryz.prog 13 #[.slice A0 n0 C0, .string s1, .slice A2 n2 C2, .string s3] W fun e w' => (∃ v, e = .returned (.tuple #[v, .int .i64 r2]) ∧ CpS w' v rs) ∧ Below W.heap.size W w') := fun lo0 A0 C0 lo2 A2 C2 W H0 w0 E0 H2 w2 E2 z1 z3 => by
  rw [← hn0, ← hn2, ← hrs, ← hr2]
  exact (by rw [E0, E2, ← hn0, ← hn2]; exact sadd_any lo0 lo2 A0 A2 p0 s1 s3 p2 W H0 w0 H2 w2 z1 z3)
 have HIP : Hid (∀ (lo0 : Nat) (A0 : Option Addr) (C0 : Nat) (lo2 : Nat) (A2 : Option Addr) (C2 : Nat) W, ty.SrcIt (some lo0) W A0 p0 → ty.wtIt p0 ≤ 1048576 → C0 = n0 → ty.SrcEt (some lo2) W A2 p2 → ty.wtEt p2 ≤ 1048576 → C2 = n2 → s1.size ≤ 1048576 → s3.size ≤ 1048576 → tt.ML W → wd.TabB W → Calls Tryz.prog 16 #[.slice A0 n0 C0, .string s1, .slice A2 n2 C2, .string s3] W fun e w' => (∃ v, e = .returned (.tuple #[v, .int .i64 r2]) ∧ AnI W.heap.size w' v rs) ∧ Below W.heap.size W w') := fun lo0 A0 C0 lo2 A2 C2 W H0 w0 E0 H2 w2 E2 z1 z3 hm hT => by
  rw [← hn0, ← hn2, ← hrs, ← hr2]
  exact (by rw [E0, E2, ← hn0, ← hn2]; exact iadd_any lo0 lo2 A0 A2 p0 s1 s3 p2 W H0 w0 H2 w2 z1 z3 hm hT)
 have HEQ0 : Hid (∀ (A A' : Option Addr) (c c' : Nat) W, ty.SrcIt none W A p0 → ty.SrcIt none W A' p0 → ty.wtIt p0 ≤ 1048576 → Calls Tryz.prog 17 #[.slice A n0 c, .slice A' n0 c'] W fun e w' => e = .returned (.bool true) ∧ Below W.heap.size W w') := fun A A' c c' W h h' hw => by rw [← hn0]; exact ty.eqIt_any A A' c c' p0 W h h' hw
 have HMK0 : Hid (∀ (lo hi : Nat) (A : Option Addr) (c k : Nat) W, ty.MIt lo hi W A p0 → 0 < k → k + ty.cnIt p0 ≤ 100000000 → Calls Tryz.prog 19 #[.slice A n0 c, .int .i64 (k : Int)] W fun e w' => e = .returned (.int .i64 ((k + ty.cnIt p0 : Nat) : Int)) ∧ ty.Rel lo hi W w') := fun lo hi A c k W hM h0 hk => by rw [← hn0]; exact ty.markIt_any lo hi A c p0 k W hM h0 hk
 have HCN0 : Hid (ty.wtIt p0 ≤ 1048576 → ty.cnIt p0 ≤ 8388608) := fun h => by have := ty.cnIt_le p0; omega
 have HEQ2 : Hid (∀ (A A' : Option Addr) (c c' : Nat) W, ty.SrcEt none W A p2 → ty.SrcEt none W A' p2 → ty.wtEt p2 ≤ 1048576 → Calls Tryz.prog 18 #[.slice A n2 c, .slice A' n2 c'] W fun e w' => e = .returned (.bool true) ∧ Below W.heap.size W w') := fun A A' c c' W h h' hw => by rw [← hn2]; exact ty.eqEt_any A A' c c' p2 W h h' hw
 have HMK2 : Hid (∀ (lo hi : Nat) (A : Option Addr) (c k : Nat) W, ty.MEt lo hi W A p2 → 0 < k → k + ty.cnEt p2 ≤ 100000000 → Calls Tryz.prog 20 #[.slice A n2 c, .int .i64 (k : Int)] W fun e w' => e = .returned (.int .i64 ((k + ty.cnEt p2 : Nat) : Int)) ∧ ty.Rel lo hi W w') := fun lo hi A c k W hM h0 hk => by rw [← hn2]; exact ty.markEt_any lo hi A c p2 k W hM h0 hk
 have HCN2 : Hid (ty.wtEt p2 ≤ 1048576 → ty.cnEt p2 ≤ 8388608) := fun h => by have := ty.cnEt_le p2; omega
 rw [hn0] at HSZ0 HTO0 ⊢
 rw [hn2] at HSZ2 HTO2 ⊢
 clear hn0 hn2 hrs hr2
 obtain ⟨k0, hk0⟩ : ∃ k, ty.cnIt p0 = k := ⟨_, rfl⟩
 rw [hk0] at HMK0 HCN0
 clear hk0
 obtain ⟨k2, hk2⟩ : ∃ k, ty.cnEt p2 = k := ⟨_, rfl⟩
 rw [hk2] at HMK2 HCN2
 clear hk2
 by_cases hzb1 : 1048576 < s1.size
 ·have hzc1 : (1048576 : Int) < (s1.size : Int) := by omega
  go_enter Tryz.func4, Tryz.ntmps4
  go_wp2
  go_ret
  exact ⟨rfl, Below.refl _ _⟩
 have hzc1 : ¬ (1048576 : Int) < (s1.size : Int) := by omega
 have HZ1 : Hid (s1.size ≤ 1048576) := by show _ ≤ _; omega
 by_cases hzb3 : 1048576 < s3.size
 ·have hzc3 : (1048576 : Int) < (s3.size : Int) := by omega
  go_enter Tryz.func4, Tryz.ntmps4
  go_wp2
  go_ret
  exact ⟨rfl, Below.refl _ _⟩
 have hzc3 : ¬ (1048576 : Int) < (s3.size : Int) := by omega
 have HZ3 : Hid (s3.size ≤ 1048576) := by show _ ≤ _; omega
 go_enter Tryz.func4, Tryz.ntmps4
 go_wp2_with (go_at_call 11; refine (HSZ0.out _ _ (Below.refl _ _) (by omega) (by omega)).mono ?_; rintro e u0 ⟨⟨ry0, rfl, hry0⟩, hlu0⟩)
 ·go_ret
  exact ⟨rfl, hlu0⟩
 have HW0 : Hid (ty.wtIt p0 ≤ 1048576) := by
  have h := hry0.resolve_left (by omega)
  show _ ≤ _
  omega
 have hrr0 : 0 ≤ ry0 ∧ ry0 ≤ 1048576 := by omega
 clear hry0
 go_wp2_with (go_at_call 12; refine (HSZ2.out _ _ (hlu0) (by omega) (by omega)).mono ?_; rintro e u2 ⟨⟨ry2, rfl, hry2⟩, hlu2⟩)
 ·go_ret
  exact ⟨rfl, (hlu0).trans (hlu2.mono (hlu0).size)⟩
 have BU2 : Below w.heap.size w u2 := (hlu0).trans (hlu2.mono (hlu0).size)
 have HW2 : Hid (ty.wtEt p2 ≤ 1048576) := by
  have h := hry2.resolve_left (by omega)
  show _ ≤ _
  omega
 have hrr2 : 0 ≤ ry2 ∧ ry2 ≤ 1048576 := by omega
 clear hry2
 have HRL1 : Hid (BigI rs) := HRL.out HW0.out HW2.out
 have HCR : Hid (ty.cnIt rs ≤ 33554432) := by show _ ≤ _; have h1 := ty.cnIt_le rs; have h2 := HRL1.out.2; omega
 have HC0 : Hid (k0 ≤ 8388608) := HCN0.out HW0.out
 have HC2 : Hid (k2 ≤ 8388608) := HCN2.out HW2.out
 go_wp2_with (go_at_call 14; refine (HTO0.out _ (BU2) HW0.out).mono ?_; rintro e wa0 ⟨rfl, ho, hl⟩; refine Hid.out ?_)
 refine Lib.hid ?_
 have B_wa0 : Below w.heap.size w wa0 := (BU2).trans (hl.mono (BU2).size)
 have HS0 : Hid (ty.SrcIt (some u2.heap.size) wa0 (some ⟨u2.heap.size, 0, none⟩) p0) := ho
 clear ho hl
 go_wp2_with (go_at_call 15; refine (HTO2.out _ (B_wa0) HW2.out).mono ?_; rintro e wa2 ⟨rfl, ho, hl⟩; refine Hid.out ?_)
 refine Lib.hid ?_
 have B_wa2 : Below w.heap.size w wa2 := (B_wa0).trans (hl.mono (B_wa0).size)
 have HS0_wa2 : Hid (ty.SrcIt (some u2.heap.size) wa2 (some ⟨u2.heap.size, 0, none⟩) p0) := HS0.out.below hl
 have HS2 : Hid (ty.SrcEt (some wa0.heap.size) wa2 (some ⟨wa0.heap.size, 0, none⟩) p2) := ho
 clear ho hl
 go_wp2_with (go_at_call 13; refine (HSP.out _ _ _ _ _ _ _ HS0_wa2.out HW0.out rfl HS2.out HW2.out rfl HZ1.out HZ3.out).mono ?_; rintro e w3 ⟨⟨v3, rfl, hv3⟩, hl3⟩; refine Hid.out ?_)
 refine Lib.hid ?_
 obtain ⟨g3, c3, hve3, hss3⟩ := hv3
 subst hve3
 have HP : Hid (∀ W, Below w3.heap.size w3 W → ty.SrcIt none W (some ⟨g3, 0, none⟩) rs) := fun W h => hss3.below h
 have B_w3 : Below w.heap.size w w3 := (B_wa2).trans (hl3.mono (B_wa2).size)
 clear hl3 hss3 HS0_wa2 HS2
 have C_w3 : Below w3.heap.size w3 w3 := Below.refl _ _
 go_wp2_with (go_at_call 14; refine (HTO0.out _ (B_w3) HW0.out).mono ?_; rintro e wx0 ⟨rfl, ho, hl⟩; refine Hid.out ?_)
 refine Lib.hid ?_
 have B_wx0 : Below w.heap.size w wx0 := (B_w3).trans (hl.mono (B_w3).size)
 have C_wx0 : Below w3.heap.size w3 wx0 := (C_w3).trans (hl.mono (C_w3).size)
 have hlo0 : w3.heap.size ≤ w3.heap.size ∧ w3.heap.size ≤ wx0.heap.size := ⟨Nat.le_refl _, hl.size⟩
 have HX0 : Hid (ty.SrcIt (some w3.heap.size) wx0 (some ⟨w3.heap.size, 0, none⟩) p0) := ho
 have HM0 : Hid (ty.MIt w3.heap.size wx0.heap.size wx0 (some ⟨w3.heap.size, 0, none⟩) p0) := ty.MIt.src ho
 clear ho hl
 go_wp2_with (go_at_call 15; refine (HTO2.out _ (B_wx0) HW2.out).mono ?_; rintro e wx2 ⟨rfl, ho, hl⟩; refine Hid.out ?_)
 refine Lib.hid ?_
 have B_wx2 : Below w.heap.size w wx2 := (B_wx0).trans (hl.mono (B_wx0).size)
 have C_wx2 : Below w3.heap.size w3 wx2 := (C_wx0).trans (hl.mono (C_wx0).size)
 have HX0_wx2 : Hid (ty.SrcIt (some w3.heap.size) wx2 (some ⟨w3.heap.size, 0, none⟩) p0) := HX0.out.below hl
 have HM0_wx2 : Hid (ty.MIt w3.heap.size wx0.heap.size wx2 (some ⟨w3.heap.size, 0, none⟩) p0) := HM0.out.shp (ty.Shp.below hl)
 have hlo2 : w3.heap.size ≤ wx0.heap.size ∧ wx0.heap.size ≤ wx2.heap.size := ⟨(C_wx0).size, hl.size⟩
 have HX2 : Hid (ty.SrcEt (some wx0.heap.size) wx2 (some ⟨wx0.heap.size, 0, none⟩) p2) := ho
 have HM2 : Hid (ty.MEt wx0.heap.size wx2.heap.size wx2 (some ⟨wx0.heap.size, 0, none⟩) p2) := ty.MEt.src ho
 clear ho hl
 go_wp2_with (go_at_call 16; refine (HIP.out _ _ _ _ _ _ _ HX0_wx2.out HW0.out rfl HX2.out HW2.out rfl HZ1.out HZ3.out (H_hm.out.below B_wx2) (H_hT.out.below B_wx2)).mono ?_; rintro e w5 ⟨⟨v5, rfl, hv5⟩, hl5⟩; refine Hid.out ?_)
 refine Lib.hid ?_
 obtain ⟨g5, c5, hve5, hgb5⟩ := hv5
 subst hve5
 have B_w5 : Below w.heap.size w w5 := (B_wx2).trans (hl5.mono (B_wx2).size)
 have C_w5 : Below w3.heap.size w3 w5 := (C_wx2).trans (hl5.mono (C_wx2).size)
 have HX0_w5 : Hid (ty.SrcIt (some w3.heap.size) w5 (some ⟨w3.heap.size, 0, none⟩) p0) := HX0_wx2.out.below hl5
 have HM0_w5 : Hid (ty.MIt w3.heap.size wx0.heap.size w5 (some ⟨w3.heap.size, 0, none⟩) p0) := HM0_wx2.out.shp (ty.Shp.below hl5)
 have HX2_w5 : Hid (ty.SrcEt (some wx0.heap.size) w5 (some ⟨wx0.heap.size, 0, none⟩) p2) := HX2.out.below hl5
 have HM2_w5 : Hid (ty.MEt wx0.heap.size wx2.heap.size w5 (some ⟨wx0.heap.size, 0, none⟩) p2) := HM2.out.shp (ty.Shp.below hl5)
 have HG : Hid (GZ wx2.heap.size w5.heap.size w5 (some ⟨g5, 0, none⟩) rs) := ⟨hgb5, Nat.le_refl _⟩
 have hgx0 : wx0.heap.size ≤ wx2.heap.size := by have := hlo2; omega
 have hgx2 : wx2.heap.size ≤ wx2.heap.size := Nat.le_refl _
 have hg3 : w3.heap.size ≤ wx2.heap.size := by have := hlo2; omega
 clear hl5 hgb5
 go_wp2_with (go_at_call 17; refine (ty.eqIt_bd _ _ _ _ rs _ HG.out.1.src (HP.out _ C_w5) HRL1.out.1.1 HRL1.out.eq).mono ?_; rintro e w6 ⟨rfl, hl⟩; refine Hid.out ?_)
 refine Lib.hid ?_
 have B_w6 : Below w.heap.size w w6 := (B_w5).trans (hl.mono (B_w5).size)
 have C_w6 : Below w3.heap.size w3 w6 := (C_w5).trans (hl.mono (C_w5).size)
 have HX0_w6 : Hid (ty.SrcIt (some w3.heap.size) w6 (some ⟨w3.heap.size, 0, none⟩) p0) := HX0_w5.out.below hl
 have HM0_w6 : Hid (ty.MIt w3.heap.size wx0.heap.size w6 (some ⟨w3.heap.size, 0, none⟩) p0) := HM0_w5.out.shp (ty.Shp.below hl)
 have HX2_w6 : Hid (ty.SrcEt (some wx0.heap.size) w6 (some ⟨wx0.heap.size, 0, none⟩) p2) := HX2_w5.out.below hl
 have HM2_w6 : Hid (ty.MEt wx0.heap.size wx2.heap.size w6 (some ⟨wx0.heap.size, 0, none⟩) p2) := HM2_w5.out.shp (ty.Shp.below hl)
 have HG_w6 : Hid (GZ wx2.heap.size w5.heap.size w6 (some ⟨g5, 0, none⟩) rs) := HG.out.below hl
 clear hl
 skip
 go_wp2_with (go_at_call 14; refine (HTO0.out _ (B_w6) HW0.out).mono ?_; rintro e wt0 ⟨rfl, ho, hl⟩; refine Hid.out ?_)
 refine Lib.hid ?_
 have B_wt0 : Below w.heap.size w wt0 := (B_w6).trans (hl.mono (B_w6).size)
 have C_wt0 : Below w3.heap.size w3 wt0 := (C_w6).trans (hl.mono (C_w6).size)
 have HX0_wt0 : Hid (ty.SrcIt (some w3.heap.size) wt0 (some ⟨w3.heap.size, 0, none⟩) p0) := HX0_w6.out.below hl
 have HM0_wt0 : Hid (ty.MIt w3.heap.size wx0.heap.size wt0 (some ⟨w3.heap.size, 0, none⟩) p0) := HM0_w6.out.shp (ty.Shp.below hl)
 have HX2_wt0 : Hid (ty.SrcEt (some wx0.heap.size) wt0 (some ⟨wx0.heap.size, 0, none⟩) p2) := HX2_w6.out.below hl
 have HM2_wt0 : Hid (ty.MEt wx0.heap.size wx2.heap.size wt0 (some ⟨wx0.heap.size, 0, none⟩) p2) := HM2_w6.out.shp (ty.Shp.below hl)
 have HG_wt0 : Hid (GZ wx2.heap.size w5.heap.size wt0 (some ⟨g5, 0, none⟩) rs) := HG_w6.out.below hl
 have HY0 : Hid (ty.SrcIt none wt0 (some ⟨w6.heap.size, 0, none⟩) p0) := ho.any
 clear ho hl
 go_wp2_with (go_at_call 17; refine (HEQ0.out _ _ _ _ _ HX0_wt0.out.any HY0.out HW0.out).mono ?_; rintro e we0 ⟨rfl, hl⟩; refine Hid.out ?_)
 refine Lib.hid ?_
 have B_we0 : Below w.heap.size w we0 := (B_wt0).trans (hl.mono (B_wt0).size)
 have C_we0 : Below w3.heap.size w3 we0 := (C_wt0).trans (hl.mono (C_wt0).size)
 have HX0_we0 : Hid (ty.SrcIt (some w3.heap.size) we0 (some ⟨w3.heap.size, 0, none⟩) p0) := HX0_wt0.out.below hl
 have HM0_we0 : Hid (ty.MIt w3.heap.size wx0.heap.size we0 (some ⟨w3.heap.size, 0, none⟩) p0) := HM0_wt0.out.shp (ty.Shp.below hl)
 have HX2_we0 : Hid (ty.SrcEt (some wx0.heap.size) we0 (some ⟨wx0.heap.size, 0, none⟩) p2) := HX2_wt0.out.below hl
 have HM2_we0 : Hid (ty.MEt wx0.heap.size wx2.heap.size we0 (some ⟨wx0.heap.size, 0, none⟩) p2) := HM2_wt0.out.shp (ty.Shp.below hl)
 have HG_we0 : Hid (GZ wx2.heap.size w5.heap.size we0 (some ⟨g5, 0, none⟩) rs) := HG_wt0.out.below hl
 clear hl HY0
 go_wp2_with (go_at_call 15; refine (HTO2.out _ (B_we0) HW2.out).mono ?_; rintro e wt2 ⟨rfl, ho, hl⟩; refine Hid.out ?_)
 refine Lib.hid ?_
 have B_wt2 : Below w.heap.size w wt2 := (B_we0).trans (hl.mono (B_we0).size)
 have C_wt2 : Below w3.heap.size w3 wt2 := (C_we0).trans (hl.mono (C_we0).size)
 have HX0_wt2 : Hid (ty.SrcIt (some w3.heap.size) wt2 (some ⟨w3.heap.size, 0, none⟩) p0) := HX0_we0.out.below hl
 have HM0_wt2 : Hid (ty.MIt w3.heap.size wx0.heap.size wt2 (some ⟨w3.heap.size, 0, none⟩) p0) := HM0_we0.out.shp (ty.Shp.below hl)
 have HX2_wt2 : Hid (ty.SrcEt (some wx0.heap.size) wt2 (some ⟨wx0.heap.size, 0, none⟩) p2) := HX2_we0.out.below hl
 have HM2_wt2 : Hid (ty.MEt wx0.heap.size wx2.heap.size wt2 (some ⟨wx0.heap.size, 0, none⟩) p2) := HM2_we0.out.shp (ty.Shp.below hl)
 have HG_wt2 : Hid (GZ wx2.heap.size w5.heap.size wt2 (some ⟨g5, 0, none⟩) rs) := HG_we0.out.below hl
 have HY2 : Hid (ty.SrcEt none wt2 (some ⟨we0.heap.size, 0, none⟩) p2) := ho.any
 clear ho hl
 go_wp2_with (go_at_call 18; refine (HEQ2.out _ _ _ _ _ HX2_wt2.out.any HY2.out HW2.out).mono ?_; rintro e we2 ⟨rfl, hl⟩; refine Hid.out ?_)
 refine Lib.hid ?_
 have B_we2 : Below w.heap.size w we2 := (B_wt2).trans (hl.mono (B_wt2).size)
 have C_we2 : Below w3.heap.size w3 we2 := (C_wt2).trans (hl.mono (C_wt2).size)
 have HX0_we2 : Hid (ty.SrcIt (some w3.heap.size) we2 (some ⟨w3.heap.size, 0, none⟩) p0) := HX0_wt2.out.below hl
 have HM0_we2 : Hid (ty.MIt w3.heap.size wx0.heap.size we2 (some ⟨w3.heap.size, 0, none⟩) p0) := HM0_wt2.out.shp (ty.Shp.below hl)
 have HX2_we2 : Hid (ty.SrcEt (some wx0.heap.size) we2 (some ⟨wx0.heap.size, 0, none⟩) p2) := HX2_wt2.out.below hl
 have HM2_we2 : Hid (ty.MEt wx0.heap.size wx2.heap.size we2 (some ⟨wx0.heap.size, 0, none⟩) p2) := HM2_wt2.out.shp (ty.Shp.below hl)
 have HG_we2 : Hid (GZ wx2.heap.size w5.heap.size we2 (some ⟨g5, 0, none⟩) rs) := HG_wt2.out.below hl
 clear hl HY2
 have HMC0 : Hid (∀ W, ty.MIt w3.heap.size wx0.heap.size W (some ⟨w3.heap.size, 0, none⟩) p0 → Calls Tryz.prog 19 #[.slice (some ⟨w3.heap.size, 0, none⟩) n0 n0, .int .i64 1] W fun e w' => e = .returned (.int .i64 ((1 + k0 : Nat) : Int)) ∧ ty.Rel w3.heap.size wx0.heap.size W w') := fun W h => by
  have := HMK0.out _ _ _ n0 1 W h (by omega) (by have := HC0.out; omega)
  exact this
 obtain ⟨K0, hK0⟩ : ∃ K : Nat, 1 + k0 = K := ⟨_, rfl⟩
 rw [hK0] at HMC0
 have hKb0 : 0 < K0 ∧ K0 ≤ 8388609 := by have := HC0.out; omega
 clear hK0
 go_wp2_with (go_at_call 19; refine (HMC0.out _ HM0_we2.out).mono ?_; rintro e wm0 ⟨rfl, hR⟩; refine Hid.out ?_)
 refine Lib.hid ?_
 have B_wm0 : Below w.heap.size w wm0 := (B_we2).trans (hR.toBelow (by have := hlo0; have := B_w3.size; omega) (B_we2).size)
 have C_wm0 : Below w3.heap.size w3 wm0 := (C_we2).trans (hR.toBelow hlo0.1 (C_we2).size)
 have HG_wm0 : Hid (GZ wx2.heap.size w5.heap.size wm0 (some ⟨g5, 0, none⟩) rs) := HG_we2.out.rel hR hgx0
 have HM2_wm0 : Hid (ty.MEt wx0.heap.size wx2.heap.size wm0 (some ⟨wx0.heap.size, 0, none⟩) p2) := HM2_we2.out.shp hR.2.2.2
 clear hR
 have HMC2 : Hid (∀ W, ty.MEt wx0.heap.size wx2.heap.size W (some ⟨wx0.heap.size, 0, none⟩) p2 → Calls Tryz.prog 20 #[.slice (some ⟨wx0.heap.size, 0, none⟩) n2 n2, .int .i64 (K0 : Int)] W fun e w' => e = .returned (.int .i64 ((K0 + k2 : Nat) : Int)) ∧ ty.Rel wx0.heap.size wx2.heap.size W w') := fun W h => by
  have := HMK2.out _ _ _ n2 K0 W h (by omega) (by have := HC2.out; omega)
  exact this
 obtain ⟨K2, hK2⟩ : ∃ K : Nat, K0 + k2 = K := ⟨_, rfl⟩
 rw [hK2] at HMC2
 have hKb2 : 0 < K2 ∧ K2 ≤ 16777218 := by have := HC2.out; omega
 clear hK2
 go_wp2_with (go_at_call 20; refine (HMC2.out _ HM2_wm0.out).mono ?_; rintro e wm2 ⟨rfl, hR⟩; refine Hid.out ?_)
 refine Lib.hid ?_
 have B_wm2 : Below w.heap.size w wm2 := (B_wm0).trans (hR.toBelow (by have := hlo2; have := B_w3.size; omega) (B_wm0).size)
 have C_wm2 : Below w3.heap.size w3 wm2 := (C_wm0).trans (hR.toBelow hlo2.1 (C_wm0).size)
 have HG_wm2 : Hid (GZ wx2.heap.size w5.heap.size wm2 (some ⟨g5, 0, none⟩) rs) := HG_wm0.out.rel hR hgx2
 clear hR
 go_wp2_with (go_at_call 17; refine (ty.eqIt_bd _ _ _ _ rs _ HG_wm2.out.1.src (HP.out _ C_wm2) HRL1.out.1.1 HRL1.out.eq).mono ?_; rintro e w9 ⟨rfl, hl⟩; refine Hid.out ?_)
 refine Lib.hid ?_
 have B_w9 : Below w.heap.size w w9 := (B_wm2).trans (hl.mono (B_wm2).size)
 have C_w9 : Below w3.heap.size w3 w9 := (C_wm2).trans (hl.mono (C_wm2).size)
 have HG_w9 : Hid (GZ wx2.heap.size w5.heap.size w9 (some ⟨g5, 0, none⟩) rs) := HG_wm2.out.below hl
 clear hl
 have HMG : Hid (∀ W, GZ wx2.heap.size w5.heap.size W (some ⟨g5, 0, none⟩) rs → Calls Tryz.prog 19 #[.slice (some ⟨g5, 0, none⟩) rs.length c5, .int .i64 1] W fun e w' => e = .returned (.int .i64 ((1 + ty.cnIt rs : Nat) : Int)) ∧ ty.GIt wx2.heap.size w5.heap.size w' (some ⟨g5, 0, none⟩) (ty.mkIt 1 rs) ∧ ty.Md wx2.heap.size w5.heap.size W w') := fun W h => ty.markGIt_any _ _ _ c5 rs 1 W h.1 h.2 (by omega) (by have := HCR.out; omega)
 have HHD : Hid (∀ W, ty.SrcIt none W (some ⟨g5, 0, none⟩) (ty.mkIt 1 rs) → Calls Tryz.prog 21 #[.slice (some ⟨g5, 0, none⟩) rs.length c5, .int .i64 1] W fun e w' => e = .returned (.int .i64 ((1 + ty.cnIt rs : Nat) : Int)) ∧ Below W.heap.size W w') := fun W h => ty.heldIt_any _ c5 rs 1 W h (by omega) (by have := HCR.out; omega)
 obtain ⟨KR, hKR⟩ : ∃ K : Nat, 1 + ty.cnIt rs = K := ⟨_, rfl⟩
 rw [hKR] at HMG HHD
 have hKR0 : ¬ (KR : Int) < 0 := by omega
 clear hKR
 go_wp2_with (go_at_call 19; refine (HMG.out _ HG_w9.out).mono ?_; rintro e w10 ⟨rfl, hmk, hmd⟩; refine Hid.out ?_)
 refine Lib.hid ?_
 have C_w10 : Below w3.heap.size w3 w10 := (C_w9).trans (hmd.toBelow hg3 (C_w9).size)
 have B_w10 : Below w.heap.size w w10 := (B_w9).trans (hmd.toBelow (Nat.le_trans B_w3.size hg3) (B_w9).size)
 have HK : Hid (ty.SrcIt none w10 (some ⟨g5, 0, none⟩) (ty.mkIt 1 rs)) := hmk.src
 clear hmk hmd HG_w9
 go_wp2_with (go_at_call 21; refine (HHD.out _ HK.out).mono ?_; rintro e w11 ⟨rfl, hl⟩; refine Hid.out ?_)
 refine Lib.hid ?_
 have B_w11 : Below w.heap.size w w11 := (B_w10).trans (hl.mono (B_w10).size)
 have C_w11 : Below w3.heap.size w3 w11 := (C_w10).trans (hl.mono (C_w10).size)
 have HK_w11 : Hid (ty.SrcIt none w11 (some ⟨g5, 0, none⟩) (ty.mkIt 1 rs)) := HK.out.below hl
 clear hl
 go_wp2_with (go_at_call 14; refine (HTO0.out _ (B_w11) HW0.out).mono ?_; rintro e wc0 ⟨rfl, ho, hl⟩; refine Hid.out ?_)
 refine Lib.hid ?_
 have B_wc0 : Below w.heap.size w wc0 := (B_w11).trans (hl.mono (B_w11).size)
 have C_wc0 : Below w3.heap.size w3 wc0 := (C_w11).trans (hl.mono (C_w11).size)
 have HK_wc0 : Hid (ty.SrcIt none wc0 (some ⟨g5, 0, none⟩) (ty.mkIt 1 rs)) := HK_w11.out.below hl
 have HV0 : Hid (ty.SrcIt (some w11.heap.size) wc0 (some ⟨w11.heap.size, 0, none⟩) p0) := ho
 clear ho hl
 go_wp2_with (go_at_call 15; refine (HTO2.out _ (B_wc0) HW2.out).mono ?_; rintro e wc2 ⟨rfl, ho, hl⟩; refine Hid.out ?_)
 refine Lib.hid ?_
 have B_wc2 : Below w.heap.size w wc2 := (B_wc0).trans (hl.mono (B_wc0).size)
 have C_wc2 : Below w3.heap.size w3 wc2 := (C_wc0).trans (hl.mono (C_wc0).size)
 have HK_wc2 : Hid (ty.SrcIt none wc2 (some ⟨g5, 0, none⟩) (ty.mkIt 1 rs)) := HK_wc0.out.below hl
 have HV0_wc2 : Hid (ty.SrcIt (some w11.heap.size) wc2 (some ⟨w11.heap.size, 0, none⟩) p0) := HV0.out.below hl
 have HV2 : Hid (ty.SrcEt (some wc0.heap.size) wc2 (some ⟨wc0.heap.size, 0, none⟩) p2) := ho
 clear ho hl
 go_wp2_with (go_at_call 16; refine (HIP.out _ _ _ _ _ _ _ HV0_wc2.out HW0.out rfl HV2.out HW2.out rfl HZ1.out HZ3.out (H_hm.out.below B_wc2) (H_hT.out.below B_wc2)).mono ?_; rintro e w13 ⟨⟨v13, rfl, hv13⟩, hl⟩; refine Hid.out ?_)
 refine Lib.hid ?_
 obtain ⟨g13, c13, hve13, hss13⟩ := hv13
 subst hve13
 have B_w13 : Below w.heap.size w w13 := (B_wc2).trans (hl.mono (B_wc2).size)
 have C_w13 : Below w3.heap.size w3 w13 := (C_wc2).trans (hl.mono (C_wc2).size)
 have HK_w13 : Hid (ty.SrcIt none w13 (some ⟨g5, 0, none⟩) (ty.mkIt 1 rs)) := HK_wc2.out.below hl
 have HQ13 : Hid (ty.SrcIt none w13 (some ⟨g13, 0, none⟩) rs) := hss13.src
 clear hl hss13 HV0_wc2 HV2
 go_wp2_with (go_at_call 17; refine (ty.eqIt_bd _ _ _ _ rs _ HQ13.out (HP.out _ C_w13) HRL1.out.1.1 HRL1.out.eq).mono ?_; rintro e w14 ⟨rfl, hl⟩; refine Hid.out ?_)
 refine Lib.hid ?_
 have B_w14 : Below w.heap.size w w14 := (B_w13).trans (hl.mono (B_w13).size)
 have C_w14 : Below w3.heap.size w3 w14 := (C_w13).trans (hl.mono (C_w13).size)
 have HK_w14 : Hid (ty.SrcIt none w14 (some ⟨g5, 0, none⟩) (ty.mkIt 1 rs)) := HK_w13.out.below hl
 clear hl
 go_wp2_with (go_at_call 21; refine (HHD.out _ HK_w14.out).mono ?_; rintro e w15 ⟨rfl, hl⟩; refine Hid.out ?_)
 refine Lib.hid ?_
 have B_w15 : Below w.heap.size w w15 := (B_w14).trans (hl.mono (B_w14).size)
 have C_w15 : Below w3.heap.size w3 w15 := (C_w14).trans (hl.mono (C_w14).size)
 have HK_w15 : Hid (ty.SrcIt none w15 (some ⟨g5, 0, none⟩) (ty.mkIt 1 rs)) := HK_w14.out.below hl
 clear hl
 go_wp2
 go_ret
 exact ⟨rfl, B_w15⟩
end Go.Proofs.YtpfnnjfapcnbnaaGreatDoor.so
