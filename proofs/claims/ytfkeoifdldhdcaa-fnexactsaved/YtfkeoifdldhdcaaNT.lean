import Derived.Test.YtfkeoifdldhdcaaNU
import Derived.Test.YtfkeoifdldhdcaaDE
namespace Go.Proofs.Ytfkeoifdldhdcaa.dl
open Go.ChangeShapes Go.WideShapes Go.ChangeAt Go.RowKit Go.Deep
open bf (Bf Ap)
set_option linter.unusedVariables false
set_option linter.unusedSimpArgs false

/-! ### Saved -/

theorem OwS.rdM {lo hi : Nat} {w : World} {b : Nat} {gs : Nat → Nat} {ss : List Sp} (h : OwS lo hi w b gs ss) : Rd w b 0 ss := fun i x hx => by
  rcases h.src with h' | ⟨b', o', e, h'⟩
  · rw [h'] at hx; simp at hx
  · cases e; exact h' i x hx

/-- What is saved. -/
def svV (X : List Sp) (nn : Nat) : Int := if X = [] ∧ 0 < nn then 0 else (nn : Int) - ((dbB X).length : Int)

set_option maxRecDepth 100000 in
set_option maxHeartbeats 4000000 in
theorem ssv_any (ob nb on nn : Nat) (old fresh : List UInt8) (hon : old.length = on) (hnn : fresh.length = nn) (hol : on ≤ 1048576) (hnl : nn ≤ 1048576) (w : World) (hO : By w ob old) (hF : By w nb fresh) (hob : ob < w.heap.size) (hnb : nb < w.heap.size) :
    Calls Try.prog 13 #[.slice (some ⟨ob, 0, none⟩) on on, .slice (some ⟨nb, 0, none⟩) nn nn] w fun e w' => e = .returned (.int .i64 (svV (mkB' old fresh) nn)) ∧ Below w.heap.size w w' := by
  have hw6 := wt_mkB old fresh
  obtain ⟨X, hX⟩ : ∃ X, mkB' old fresh = X := ⟨_, rfl⟩
  rw [hX] at hw6 ⊢
  have HMK : Hid (Calls Try.prog 5 #[.slice (some ⟨ob, 0, none⟩) on on, .slice (some ⟨nb, 0, none⟩) nn nn] w fun e w' => (∃ G cap gs base, e = .returned (.slice (some ⟨G, 0, none⟩) X.length cap) ∧ w.heap.size ≤ base ∧ OwS base w'.heap.size w' G gs X) ∧ Below w.heap.size w w') := by
    rw [← hX]
    exact (smk_any ob nb on nn old fresh hon hnn hol hnl w hO hF hob hnb).mono fun e w' h => res_ow h
  have HDB : Hid (∀ (W : World) b c, Rd W b 0 X → Calls Try.prog 21 #[.slice (some ⟨b, 0, none⟩) X.length c] W fun e w' => (∃ g c z, e = .returned (.slice (some ⟨g, 0, none⟩) z c) ∧ Bys W w' (dbB X) g c z) ∧ Below W.heap.size W w') := fun W b c h => sdb_any b 0 c X W h (by omega)
  have hdb : (dbB X).length ≤ 1099511627776 := Nat.le_trans (dbB_len fun x hx => Nat.le_trans (wt_d hx) (show wt X ≤ 1048576 by omega)) (by decide)
  obtain ⟨n, hnE⟩ : ∃ n, X.length = n := ⟨_, rfl⟩
  obtain ⟨dn, hdE⟩ : ∃ n, (dbB X).length = n := ⟨_, rfl⟩
  have HDN : Hid ((dbB X).length = dn) := hdE
  rw [hnE] at HMK HDB
  clear hO hF hon hnn hX hw6
  by_cases h0 : n = 0
  · have hX0 : X = [] := List.eq_nil_of_length_eq_zero (by omega)
    by_cases hp : 0 < nn
    · have HV : Hid (svV X nn = 0) := by show _ = _; unfold svV; rw [if_pos ⟨hX0, hp⟩]
      have hp' : (0 : Int) < (nn : Int) := by omega
      subst h0
      clear hX0 hnE hdE hdb
      go_enter Try.func13, Try.ntmps13
      go_wp2_with (first | (go_at_call 5; refine HMK.out.mono ?_; rintro e w1 ⟨⟨G, cap, gs, base, rfl, hb1, ho1⟩, hl1⟩; refine Hid.out ?_) | go_in)
      refine Lib.hid ?_
      clear ho1 hb1
      go_wp2
      go_ret
      exact ⟨by rw [HV.out]; rfl, hl1⟩
    · have HV : Hid (svV X nn = (nn : Int) - (dn : Int)) := by show _ = _; unfold svV; rw [if_neg (fun h => hp h.2), hdE]
      obtain rfl : nn = 0 := by omega
      subst h0
      have hd2 : dn ≤ 1099511627776 := by rw [← hdE]; exact hdb
      clear hX0 hnE hdE hdb
      go_enter Try.func13, Try.ntmps13
      go_wp2_with (first | (go_at_call 5; refine HMK.out.mono ?_; rintro e w1 ⟨⟨G, cap, gs, base, rfl, hb1, ho1⟩, hl1⟩; refine Hid.out ?_) | go_in)
      refine Lib.hid ?_
      have HRD : Hid (Rd w1 G 0 X) := ho1.rdM
      clear ho1 hb1
      go_wp2_with (first | (go_at_call 21; refine (HDB.out _ _ _ HRD.out).mono ?_; rintro e w2 ⟨⟨g2, c2, z2, rfl, hz2⟩, hl2⟩; refine Hid.out ?_) | go_in)
      refine Lib.hid ?_
      have hzz : z2 = dn := by rw [← HDN.out]; exact hz2.1
      subst hzz
      have B2 := hl1.trans (hl2.mono hl1.size)
      clear hz2 hl2
      go_wp2
      go_ret
      exact ⟨by rw [HV.out]; simp, B2⟩
  · have HV : Hid (svV X nn = (nn : Int) - (dn : Int)) := by show _ = _; unfold svV; rw [if_neg (fun h => h0 (by rw [← hnE, h.1]; rfl)), hdE]
    have h0b : ((n : Int) == 0) = false := by simp; omega
    have h0c : ¬ (n : Int) = 0 := by omega
    have hd2 : dn ≤ 1099511627776 := by rw [← hdE]; exact hdb
    clear hnE hdE hdb
    go_enter Try.func13, Try.ntmps13
    go_wp2_with (first | (go_at_call 5; refine HMK.out.mono ?_; rintro e w1 ⟨⟨G, cap, gs, base, rfl, hb1, ho1⟩, hl1⟩; refine Hid.out ?_) | go_in)
    refine Lib.hid ?_
    have HRD : Hid (Rd w1 G 0 X) := ho1.rdM
    clear ho1 hb1
    go_wp2_with (first | (go_at_call 21; refine (HDB.out _ _ _ HRD.out).mono ?_; rintro e w2 ⟨⟨g2, c2, z2, rfl, hz2⟩, hl2⟩; refine Hid.out ?_) | go_in)
    refine Lib.hid ?_
    have hzz : z2 = dn := by rw [← HDN.out]; exact hz2.1
    subst hzz
    have B2 := hl1.trans (hl2.mono hl1.size)
    clear hz2 hl2
    go_wp2
    go_ret
    exact ⟨by rw [HV.out]; rfl, B2⟩

set_option maxRecDepth 100000 in
set_option maxHeartbeats 4000000 in
theorem isv_any (ob nb on nn : Nat) (old fresh : List UInt8) (hon : old.length = on) (hnn : fresh.length = nn) (hol : on ≤ 1048576) (hnl : nn ≤ 1048576) (w : World) (hO : By w ob old) (hF : By w nb fresh) (hob : ob < w.heap.size) (hnb : nb < w.heap.size) :
    Calls Try.prog 14 #[.slice (some ⟨ob, 0, none⟩) on on, .slice (some ⟨nb, 0, none⟩) nn nn] w fun e w' => e = .returned (.int .i64 (svV (mkB' old fresh) nn)) ∧ Below w.heap.size w w' := by
  have hw6 := wt_mkB old fresh
  obtain ⟨X, hX⟩ : ∃ X, mkB' old fresh = X := ⟨_, rfl⟩
  rw [hX] at hw6 ⊢
  have HMK : Hid (Calls Try.prog 7 #[.slice (some ⟨ob, 0, none⟩) on on, .slice (some ⟨nb, 0, none⟩) nn nn] w fun e w' => (∃ G cap gs base, e = .returned (.slice (some ⟨G, 0, none⟩) X.length cap) ∧ w.heap.size ≤ base ∧ OwS base w'.heap.size w' G gs X) ∧ Below w.heap.size w w') := by
    rw [← hX]
    exact (imk_any ob nb on nn old fresh hon hnn hol hnl w hO hF hob hnb).mono fun e w' h => res_ow h
  have HDB : Hid (∀ (W : World) b c, Rd W b 0 X → Calls Try.prog 22 #[.slice (some ⟨b, 0, none⟩) X.length c] W fun e w' => (∃ g c z, e = .returned (.slice (some ⟨g, 0, none⟩) z c) ∧ Bys W w' (dbB X) g c z) ∧ Below W.heap.size W w') := fun W b c h => idb_any b 0 c X W h (by omega)
  have hdb : (dbB X).length ≤ 1099511627776 := Nat.le_trans (dbB_len fun x hx => Nat.le_trans (wt_d hx) (show wt X ≤ 1048576 by omega)) (by decide)
  obtain ⟨n, hnE⟩ : ∃ n, X.length = n := ⟨_, rfl⟩
  obtain ⟨dn, hdE⟩ : ∃ n, (dbB X).length = n := ⟨_, rfl⟩
  have HDN : Hid ((dbB X).length = dn) := hdE
  rw [hnE] at HMK HDB
  clear hO hF hon hnn hX hw6
  by_cases h0 : n = 0
  · have hX0 : X = [] := List.eq_nil_of_length_eq_zero (by omega)
    by_cases hp : 0 < nn
    · have HV : Hid (svV X nn = 0) := by show _ = _; unfold svV; rw [if_pos ⟨hX0, hp⟩]
      have hp' : (0 : Int) < (nn : Int) := by omega
      subst h0
      clear hX0 hnE hdE hdb
      go_enter Try.func14, Try.ntmps14
      go_wp2_with (first | (go_at_call 7; refine HMK.out.mono ?_; rintro e w1 ⟨⟨G, cap, gs, base, rfl, hb1, ho1⟩, hl1⟩; refine Hid.out ?_) | go_in)
      refine Lib.hid ?_
      clear ho1 hb1
      go_wp2
      go_ret
      exact ⟨by rw [HV.out]; rfl, hl1⟩
    · have HV : Hid (svV X nn = (nn : Int) - (dn : Int)) := by show _ = _; unfold svV; rw [if_neg (fun h => hp h.2), hdE]
      obtain rfl : nn = 0 := by omega
      subst h0
      have hd2 : dn ≤ 1099511627776 := by rw [← hdE]; exact hdb
      clear hX0 hnE hdE hdb
      go_enter Try.func14, Try.ntmps14
      go_wp2_with (first | (go_at_call 7; refine HMK.out.mono ?_; rintro e w1 ⟨⟨G, cap, gs, base, rfl, hb1, ho1⟩, hl1⟩; refine Hid.out ?_) | go_in)
      refine Lib.hid ?_
      have HRD : Hid (Rd w1 G 0 X) := ho1.rdM
      clear ho1 hb1
      go_wp2_with (first | (go_at_call 22; refine (HDB.out _ _ _ HRD.out).mono ?_; rintro e w2 ⟨⟨g2, c2, z2, rfl, hz2⟩, hl2⟩; refine Hid.out ?_) | go_in)
      refine Lib.hid ?_
      have hzz : z2 = dn := by rw [← HDN.out]; exact hz2.1
      subst hzz
      have B2 := hl1.trans (hl2.mono hl1.size)
      clear hz2 hl2
      go_wp2
      go_ret
      exact ⟨by rw [HV.out]; simp, B2⟩
  · have HV : Hid (svV X nn = (nn : Int) - (dn : Int)) := by show _ = _; unfold svV; rw [if_neg (fun h => h0 (by rw [← hnE, h.1]; rfl)), hdE]
    have h0b : ((n : Int) == 0) = false := by simp; omega
    have h0c : ¬ (n : Int) = 0 := by omega
    have hd2 : dn ≤ 1099511627776 := by rw [← hdE]; exact hdb
    clear hnE hdE hdb
    go_enter Try.func14, Try.ntmps14
    go_wp2_with (first | (go_at_call 7; refine HMK.out.mono ?_; rintro e w1 ⟨⟨G, cap, gs, base, rfl, hb1, ho1⟩, hl1⟩; refine Hid.out ?_) | go_in)
    refine Lib.hid ?_
    have HRD : Hid (Rd w1 G 0 X) := ho1.rdM
    clear ho1 hb1
    go_wp2_with (first | (go_at_call 22; refine (HDB.out _ _ _ HRD.out).mono ?_; rintro e w2 ⟨⟨g2, c2, z2, rfl, hz2⟩, hl2⟩; refine Hid.out ?_) | go_in)
    refine Lib.hid ?_
    have hzz : z2 = dn := by rw [← HDN.out]; exact hz2.1
    subst hzz
    have B2 := hl1.trans (hl2.mono hl1.size)
    clear hz2 hl2
    go_wp2
    go_ret
    exact ⟨by rw [HV.out]; rfl, B2⟩

set_option maxRecDepth 100000 in
set_option maxHeartbeats 8000000 in
theorem sv_law (a0 : Option Addr) (on cap0 : Nat) (l0 : List UInt8) (a1 : Option Addr) (nn cap1 : Nat) (l1 : List UInt8) (w : World) (hb0 : sm.Bs w a0 on (inB l0)) (hon : on = l0.length) (hb1 : sm.Bs w a1 nn (inB l1)) (hnn : nn = l1.length) :
    Calls Try.prog 4 #[.slice a0 on cap0, .slice a1 nn cap1] w fun e w' => e = .returned (.bool true) ∧ Below w.heap.size w w' := by
  by_cases hf : 1048576 < on
  · have hf' : (1048576 : Int) < (on : Int) := by omega
    go_enter Try.func4, Try.ntmps4
    go_wp2
    go_ret
    exact ⟨rfl, Below.refl _ _⟩
  have hf' : ¬ (1048576 : Int) < (on : Int) := by omega
  by_cases hg : 1048576 < nn
  · have hg' : (1048576 : Int) < (nn : Int) := by omega
    go_enter Try.func4, Try.ntmps4
    go_wp2
    go_ret
    exact ⟨rfl, Below.refl _ _⟩
  have hg' : ¬ (1048576 : Int) < (nn : Int) := by omega
  have hon2 : on ≤ 1048576 := by omega
  have hnn2 : nn ≤ 1048576 := by omega
  obtain ⟨V, hVE⟩ : ∃ V, svV (mkB' l0 l1) nn = V := ⟨_, rfl⟩
  have HT0 : Hid (∀ W, Below w.heap.size w W → Calls Try.prog 6 #[.slice a0 on cap0] W fun e w' => e = .returned (.slice (some ⟨W.heap.size, 0, none⟩) on on) ∧ RwM w' W.heap.size l0 on ∧ Below W.heap.size W w') := fun W hW => sm.to_any a0 on cap0 (inB l0) W (hb0.below hW) (by omega)
  have HT1 : Hid (∀ W, Below w.heap.size w W → Calls Try.prog 6 #[.slice a1 nn cap1] W fun e w' => e = .returned (.slice (some ⟨W.heap.size, 0, none⟩) nn nn) ∧ RwM w' W.heap.size l1 nn ∧ Below W.heap.size W w') := fun W hW => sm.to_any a1 nn cap1 (inB l1) W (hb1.below hW) (by omega)
  have HSP : Hid (∀ (W : World) b b', RwM W b l0 on → RwM W b' l1 nn → Calls Try.prog 13 #[.slice (some ⟨b, 0, none⟩) on on, .slice (some ⟨b', 0, none⟩) nn nn] W fun e w' => e = .returned (.int .i64 V) ∧ Below W.heap.size W w') := fun W b b' h0 h1 => by
    rw [← hVE]
    exact ssv_any b b' on nn l0 l1 hon.symm hnn.symm hon2 hnn2 W (h0.by hon.symm) (h1.by hnn.symm) h0.lt h1.lt
  have HIP : Hid (∀ (W : World) b b', RwM W b l0 on → RwM W b' l1 nn → Calls Try.prog 14 #[.slice (some ⟨b, 0, none⟩) on on, .slice (some ⟨b', 0, none⟩) nn nn] W fun e w' => e = .returned (.int .i64 V) ∧ Below W.heap.size W w') := fun W b b' h0 h1 => by
    rw [← hVE]
    exact isv_any b b' on nn l0 l1 hon.symm hnn.symm hon2 hnn2 W (h0.by hon.symm) (h1.by hnn.symm) h0.lt h1.lt
  have HE0 : Hid (∀ (W : World) g g', RwM W g l0 on → RwM W g' l0 on → Calls Try.prog 9 #[.slice (some ⟨g, 0, none⟩) on on, .slice (some ⟨g', 0, none⟩) on on] W fun e w' => e = .returned (.bool true) ∧ Below W.heap.size W w') := fun W g g' h1 h2 => (sm.eq_any _ _ _ _ _ _ _ h1.bs h2.bs (by omega)).mono fun e w' ⟨he, q, hq⟩ => ⟨he, by rw [hq]; exact Go.below_drewN (Below.refl _ _) _⟩
  have HE1 : Hid (∀ (W : World) g g', RwM W g l1 nn → RwM W g' l1 nn → Calls Try.prog 9 #[.slice (some ⟨g, 0, none⟩) nn nn, .slice (some ⟨g', 0, none⟩) nn nn] W fun e w' => e = .returned (.bool true) ∧ Below W.heap.size W w') := fun W g g' h1 h2 => (sm.eq_any _ _ _ _ _ _ _ h1.bs h2.bs (by omega)).mono fun e w' ⟨he, q, hq⟩ => ⟨he, by rw [hq]; exact Go.below_drewN (Below.refl _ _) _⟩
  clear hon hnn hf hg hon2 hnn2 hVE hb0 hb1
  go_enter Try.func4, Try.ntmps4
  have HFL : Hid True := trivial
  go_wp2_with (first | (go_at_call 6; refine (HT0.out _ (Below.refl _ _)).mono ?_; rintro e w1 ⟨rfl, hr1, B1⟩; refine Hid.out ?_) | go_in)
  refine Lib.hid ?_
  have HR1 : Hid (RwM w1 w.heap.size l0 on) := hr1
  clear hr1
  go_wp2_with (first | (go_at_call 6; refine (HT1.out _ B1).mono ?_; rintro e w2 ⟨rfl, hr2, hl2⟩; refine Hid.out ?_) | go_in)
  refine Lib.hid ?_
  have B2 : Below w.heap.size w w2 := B1.trans (hl2.mono B1.size)
  have HR2 : Hid (RwM w2 w1.heap.size l1 nn) := hr2
  have HR12 : Hid (RwM w2 w.heap.size l0 on) := HR1.out.below hl2
  clear hr2 hl2
  go_wp2_with (first | (go_at_call 13; refine (HSP.out _ _ _ HR12.out HR2.out).mono ?_; rintro e w3 ⟨rfl, hl3⟩; refine Hid.out ?_) | go_in)
  refine Lib.hid ?_
  have B3 : Below w.heap.size w w3 := B2.trans (hl3.mono B2.size)
  clear hl3
  go_wp2_with (first | (go_at_call 6; refine (HT0.out _ B3).mono ?_; rintro e w4 ⟨rfl, hr4, hl4⟩; refine Hid.out ?_) | go_in)
  refine Lib.hid ?_
  have B4 : Below w.heap.size w w4 := B3.trans (hl4.mono B3.size)
  have HR4 : Hid (RwM w4 w3.heap.size l0 on) := hr4
  clear hr4 hl4
  go_wp2_with (first | (go_at_call 6; refine (HT1.out _ B4).mono ?_; rintro e w5 ⟨rfl, hr5, hl5⟩; refine Hid.out ?_) | go_in)
  refine Lib.hid ?_
  have B5 : Below w.heap.size w w5 := B4.trans (hl5.mono B4.size)
  have HR5 : Hid (RwM w5 w4.heap.size l1 nn) := hr5
  have HR45 : Hid (RwM w5 w3.heap.size l0 on) := HR4.out.below hl5
  clear hr5 hl5
  go_wp2_with (first | (go_at_call 14; refine (HIP.out _ _ _ HR45.out HR5.out).mono ?_; rintro e w6 ⟨rfl, hl6⟩; refine Hid.out ?_) | go_in)
  refine Lib.hid ?_
  have B6 : Below w.heap.size w w6 := B5.trans (hl6.mono B5.size)
  have HA6 : Hid (RwM w6 w3.heap.size l0 on) := HR45.out.below hl6
  have HC6 : Hid (RwM w6 w4.heap.size l1 nn) := HR5.out.below hl6
  clear hl6
  go_wp2_with (first | (go_at_call 6; refine (HT0.out _ B6).mono ?_; rintro e w8 ⟨rfl, hr8, hl8⟩; refine Hid.out ?_) | go_in)
  refine Lib.hid ?_
  have B8 : Below w.heap.size w w8 := B6.trans (hl8.mono B6.size)
  have HR8 : Hid (RwM w8 w6.heap.size l0 on) := hr8
  have HA8 : Hid (RwM w8 w3.heap.size l0 on) := HA6.out.below hl8
  have HC8 : Hid (RwM w8 w4.heap.size l1 nn) := HC6.out.below hl8
  clear hr8 hl8
  go_wp2_with (first | (go_at_call 9; refine (HE0.out _ _ _ HA8.out HR8.out).mono ?_; rintro e w9 ⟨rfl, hl9⟩; refine Hid.out ?_) | go_in)
  refine Lib.hid ?_
  have B9 : Below w.heap.size w w9 := B8.trans (hl9.mono B8.size)
  have HC9 : Hid (RwM w9 w4.heap.size l1 nn) := HC8.out.below hl9
  clear hl9
  go_wp2_with (first | (go_at_call 6; refine (HT1.out _ B9).mono ?_; rintro e w10 ⟨rfl, hr10, hl10⟩; refine Hid.out ?_) | go_in)
  refine Lib.hid ?_
  have B10 : Below w.heap.size w w10 := B9.trans (hl10.mono B9.size)
  have HR10 : Hid (RwM w10 w9.heap.size l1 nn) := hr10
  have HC10 : Hid (RwM w10 w4.heap.size l1 nn) := HC9.out.below hl10
  clear hr10 hl10
  go_wp2_with (first | (go_at_call 9; refine (HE1.out _ _ _ HC10.out HR10.out).mono ?_; rintro e w11 ⟨rfl, hl11⟩; refine Hid.out ?_) | go_in)
  refine Lib.hid ?_
  have B11 : Below w.heap.size w w11 := B10.trans (hl11.mono B10.size)
  clear hl11
  go_wp2
  go_ret
  exact ⟨rfl, B11⟩

end Go.Proofs.Ytfkeoifdldhdcaa.dl
