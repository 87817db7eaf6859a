import Derived.Test.YtogakignaaoklaaNU
import Derived.Test.YtogakignaaoklaaDE
namespace Go.Proofs.Ytogakignaaoklaa.dl
open Go.ChangeShapes Go.WideShapes Go.ChangeAt Go.RowKit Go.Deep
open bf (Bf Ap)
set_option linter.unusedVariables false
set_option linter.unusedSimpArgs false

/-! ### Saved -/

theorem OwS.rdM {lo hi : Nat} {w : World} {b : Nat} {gs : Nat → Nat} {ss : List Sp} (h : OwS lo hi w b gs ss) : Rd w b 0 ss := fun i x hx => by
  rcases h.src with h' | ⟨b', o', e, h'⟩
  · rw [h'] at hx; simp at hx
  · cases e; exact h' i x hx

/-- What is saved. -/
def svV (X : List Sp) (nn : Nat) : Int := if X = [] ∧ 0 < nn then 0 else (nn : Int) - ((dbB X).length : Int)

set_option maxRecDepth 100000 in
set_option maxHeartbeats 4000000 in
theorem isv_any {oc nc : Nat} (ob nb on nn : Nat) (old fresh : List UInt8) (hon : old.length = on) (hnn : fresh.length = nn) (hol : on ≤ 1048576) (hnl : nn ≤ 1048576) (w : World) (hO : By w ob old) (hF : By w nb fresh) (hob : ob < w.heap.size) (hnb : nb < w.heap.size) (hoc : on ≤ oc) (hnc : nn ≤ nc) :
    Calls Try.prog 13 #[.slice (some ⟨ob, 0, none⟩) on oc, .slice (some ⟨nb, 0, none⟩) nn nc] w fun e w' => e = .returned (.int .i64 (svV (mkB' old fresh) nn)) ∧ Below w.heap.size w w' := by
  have hw6 := wt_mkB old fresh
  obtain ⟨X, hX⟩ : ∃ X, mkB' old fresh = X := ⟨_, rfl⟩
  rw [hX] at hw6 ⊢
  have HMK : Hid (Calls Try.prog 6 #[.slice (some ⟨ob, 0, none⟩) on oc, .slice (some ⟨nb, 0, none⟩) nn nc] w fun e w' => (∃ G cap gs base, e = .returned (.slice (some ⟨G, 0, none⟩) X.length cap) ∧ w.heap.size ≤ base ∧ OwS base w'.heap.size w' G gs X) ∧ Below w.heap.size w w') := by
    rw [← hX]
    exact (imk_any ob nb on nn old fresh hon hnn hol hnl w hO hF hob hnb).mono fun e w' h => res_ow h
  have HDB : Hid (∀ (W : World) b c, Rd W b 0 X → Calls Try.prog 12 #[.slice (some ⟨b, 0, none⟩) X.length c] W fun e w' => (∃ g c z, e = .returned (.slice (some ⟨g, 0, none⟩) z c) ∧ Bys W w' (dbB X) g c z) ∧ Below W.heap.size W w') := fun W b c h => idb_any b 0 c X W h (by omega)
  have hdb : (dbB X).length ≤ 1099511627776 := Nat.le_trans (dbB_len fun x hx => Nat.le_trans (wt_d hx) (show wt X ≤ 1048576 by omega)) (by decide)
  obtain ⟨n, hnE⟩ : ∃ n, X.length = n := ⟨_, rfl⟩
  obtain ⟨dn, hdE⟩ : ∃ n, (dbB X).length = n := ⟨_, rfl⟩
  have HDN : Hid ((dbB X).length = dn) := hdE
  rw [hnE] at HMK HDB
  clear hO hF hon hnn hX hw6
  by_cases h0 : n = 0
  · have hX0 : X = [] := List.eq_nil_of_length_eq_zero (by omega)
    by_cases hp : 0 < nn
    · have HV : Hid (svV X nn = 0) := by show _ = _; unfold svV; rw [if_pos ⟨hX0, hp⟩]
      have hp' : (0 : Int) < (nn : Int) := by omega
      subst h0
      clear hX0 hnE hdE hdb
      go_enter Try.func13, Try.ntmps13
      go_wp2_with (first | (go_at_call 6; refine HMK.out.mono ?_; rintro e w1 ⟨⟨G, cap, gs, base, rfl, hb1, ho1⟩, hl1⟩; refine Hid.out ?_) | go_in)
      refine Lib.hid ?_
      clear ho1 hb1
      go_wp2
      go_ret
      exact ⟨by rw [HV.out]; rfl, hl1⟩
    · have HV : Hid (svV X nn = (nn : Int) - (dn : Int)) := by show _ = _; unfold svV; rw [if_neg (fun h => hp h.2), hdE]
      obtain rfl : nn = 0 := by omega
      subst h0
      have hd2 : dn ≤ 1099511627776 := by rw [← hdE]; exact hdb
      clear hX0 hnE hdE hdb
      go_enter Try.func13, Try.ntmps13
      go_wp2_with (first | (go_at_call 6; refine HMK.out.mono ?_; rintro e w1 ⟨⟨G, cap, gs, base, rfl, hb1, ho1⟩, hl1⟩; refine Hid.out ?_) | go_in)
      refine Lib.hid ?_
      have HRD : Hid (Rd w1 G 0 X) := ho1.rdM
      clear ho1 hb1
      go_wp2_with (first | (go_at_call 12; refine (HDB.out _ _ _ HRD.out).mono ?_; rintro e w2 ⟨⟨g2, c2, z2, rfl, hz2⟩, hl2⟩; refine Hid.out ?_) | go_in)
      refine Lib.hid ?_
      have hzz : z2 = dn := by rw [← HDN.out]; exact hz2.1
      subst hzz
      have B2 := hl1.trans (hl2.mono hl1.size)
      clear hz2 hl2
      go_wp2
      go_ret
      exact ⟨by rw [HV.out]; simp, B2⟩
  · have HV : Hid (svV X nn = (nn : Int) - (dn : Int)) := by show _ = _; unfold svV; rw [if_neg (fun h => h0 (by rw [← hnE, h.1]; rfl)), hdE]
    have h0b : ((n : Int) == 0) = false := by simp; omega
    have h0c : ¬ (n : Int) = 0 := by omega
    have hd2 : dn ≤ 1099511627776 := by rw [← hdE]; exact hdb
    clear hnE hdE hdb
    go_enter Try.func13, Try.ntmps13
    go_wp2_with (first | (go_at_call 6; refine HMK.out.mono ?_; rintro e w1 ⟨⟨G, cap, gs, base, rfl, hb1, ho1⟩, hl1⟩; refine Hid.out ?_) | go_in)
    refine Lib.hid ?_
    have HRD : Hid (Rd w1 G 0 X) := ho1.rdM
    clear ho1 hb1
    go_wp2_with (first | (go_at_call 12; refine (HDB.out _ _ _ HRD.out).mono ?_; rintro e w2 ⟨⟨g2, c2, z2, rfl, hz2⟩, hl2⟩; refine Hid.out ?_) | go_in)
    refine Lib.hid ?_
    have hzz : z2 = dn := by rw [← HDN.out]; exact hz2.1
    subst hzz
    have B2 := hl1.trans (hl2.mono hl1.size)
    clear hz2 hl2
    go_wp2
    go_ret
    exact ⟨by rw [HV.out]; rfl, B2⟩

end Go.Proofs.Ytogakignaaoklaa.dl
