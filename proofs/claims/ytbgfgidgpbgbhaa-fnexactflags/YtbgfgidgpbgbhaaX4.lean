import Derived.Test.YtbgfgidgpbgbhaaRows
import Derived.WalkKit
import Derived.ProofKit
import Derived.OpenShut
import Derived.ShutString
import Derived.ChangeOld
import Derived.Below
import Derived.OpenVars
import Derived.SliceStrings
import Derived.Test.YtbgfgidgpbgbhaaFLT
import Derived.Test.YtbgfgidgpbgbhaaCO
namespace Go.Proofs.Ytbgfgidgpbgbhaa.fnExactFlags
open Go.ChangeShapes Go.WideShapes Go.ChangeAt Go.RowKit Go.Deep
open Go.ChangeMaps (open_string shut_string)
set_option linter.unusedVariables false

theorem own : ownKnob Try.prog.godebug = none := by kernel_rfl
theorem laidOut : laidOutB Try.prog = true := by kernel_rfl

theorem walk (a0 : Option Addr) (len0 cap0 : Nat) (E0 : Nat → cd.Cn) (w : World) (w0 : cd.SrcB w a0 len0 E0 ∧ len0 ≤ maxLen ∧ ∀ i, i < len0 → (E0 i).name.size ≤ maxLen) :
    Calls Try.prog 4 #[.slice a0 len0 cap0] w fun e w' => e = .returned (.bool true) ∧ Below w.heap.size w w' := by
  obtain ⟨hb, hn0, hs0⟩ := w0
  go_enter Try.func4, Try.ntmps4
  go_wp2_with (go_at_call 6; refine (cd.szS_any _ _ _ E0 _ hb hn0 hs0).mono ?_; rintro e w1 ⟨r, rfl, hr0, hr, hl1⟩)
  · go_ret
    exact ⟨rfl, hl1⟩
  · obtain ⟨hn, hs⟩ := hr (by omega)
    have hb1 := hb.below hl1
    have s1 := hl1.size
    go_wp2_with (go_at_call 8; refine (cd.toS_any _ _ _ E0 _ hb1 hn).mono ?_; rintro e w2 ⟨rfl, hr2, hl2⟩)
    have s2 := hl2.size
    go_wp2_with (go_at_call 11; refine (fl.sflags_any E0 _ _ _ ⟨Nat.le_refl _, by omega⟩ hn hs _ (cd.XsB.row hr2)).mono ?_; rintro e w3 ⟨v3, rfl, hst3, hl3⟩)
    obtain ⟨a3, c3, rfl, ss3⟩ := fl.StrR.ssF hst3
    have s3 := hl3.size
    have B3 : Below w1.heap.size w1 w3 := hl2.trans (hl3.mono s2)
    go_wp2_with (go_at_call 8; refine (cd.toS_any _ _ _ E0 _ (hb1.below B3) hn).mono ?_; rintro e w4 ⟨rfl, hr4, hl4⟩)
    have s4 := hl4.size
    have B4 : Below w1.heap.size w1 w4 := B3.trans (hl4.mono B3.size)
    have hfew0 : (fl.flagsL E0 len0).length ≤ 300 := fl.flags_few E0 len0
    generalize hFL : fl.flagsL E0 len0 = FL at *
    have hfew : FL.length ≤ 24000 := by omega
    have HIF : Hid (∀ (W : World) (bb : Nat), cd.XsB W bb len0 E0 → Calls Try.prog 12 #[.slice (some ⟨bb, 0, none⟩) len0 len0] W fun e w' => ∃ g c, e = .returned (.slice (some ⟨g, 0, none⟩) FL.length c) ∧ W.heap.size ≤ g ∧ fl.Blk w' g c FL ∧ Below W.heap.size W w') := fun W bb hx => by
      have := fl.iflags_any E0 bb len0 len0 ⟨Nat.le_refl _, by omega⟩ hn hs W hx
      rwa [hFL] at this
    clear hFL
    go_wp2_with (go_at_call 12; refine (HIF.out _ _ (cd.XsB.row hr4)).mono ?_; rintro e w5 ⟨g5, c5, rfl, hg1, hbk5, hl5⟩)
    obtain ⟨mk5, ss5, hg2⟩ := fl.blk_marks hbk5
    have B5 : Below w1.heap.size w1 w5 := B4.trans (hl5.mono B4.size)
    have C5 : Below w3.heap.size w3 w5 := hl4.trans (hl5.mono s4)
    go_wp2_with (go_at_call 13; refine (st.eq_any _ _ _ _ _ _ _ ss5 (ss3.below C5) (by omega)).mono ?_; rintro e w6 ⟨rfl, q6, rfl⟩)
    have B6 := Go.below_drewN B5 q6
    have C6 := Go.below_drewN C5 q6
    have D6 := Go.below_drewN hl5 q6
    go_wp2_with (go_at_call 8; refine (cd.toS_any _ _ _ E0 _ (hb1.below B6) hn).mono ?_; rintro e w7 ⟨rfl, hr7, hl7⟩)
    have B7 := B6.trans (hl7.mono B6.size)
    have C7 := C6.trans (hl7.mono C6.size)
    have D7 := D6.trans (hl7.mono D6.size)
    go_wp2_with (go_at_call 10; refine (cd.eqS_any _ _ _ _ _ E0 _ ((cd.XsB.row hr4).below D7) (cd.XsB.row hr7) hn).mono ?_; rintro e w8 ⟨rfl, hl8⟩)
    have B8 := B7.trans (hl8.mono B7.size)
    have C8 := C7.trans (hl8.mono C7.size)
    have D8 := D7.trans (hl8.mono D7.size)
    have E8 : Below w5.heap.size w5 w8 := by
      have h := (Go.below_drewN (Below.refl w5.heap.size w5) q6).trans (hl7.mono (by simp))
      exact h.trans (hl8.mono h.size)
    have mk8 := mk5.below E8
    have ss8 := ss5.below E8
    have hne : g5 ≠ w3.heap.size := by have := (hr4.lt); omega
    go_wp2_with (go_at_call 14; refine (fl.markC_any w3.heap.size len0 _ 1 w8 (fl.row_wr hr4 D8) (by omega) hn (by omega)).mono ?_; rintro e w9 ⟨rfl, hg9⟩)
    have B9 := fl.grow_below B8 hg9 B8.size B3.size
    have C9 := fl.grow_below C8 hg9 C8.size (Nat.le_refl _)
    have mk9 := fl.mk_grown mk8 hg9 hne
    have ss9 := fl.ss_grown ss8 hg9 hne
    go_wp2_with (go_at_call 13; refine (st.eq_any _ _ _ _ _ _ _ ss9 (ss3.below C9) (by omega)).mono ?_; rintro e w10 ⟨rfl, q10, rfl⟩)
    have B10 := Go.below_drewN B9 q10
    have C10 := Go.below_drewN C9 q10
    go_wp2_with (go_at_call 15; refine (sr.markS_any g5 0 FL.length c5 1 (w9.drewN q10) mk9 w3.heap.size (Nat.le_trans s4 hg1) C10.size (by omega) (by omega)).mono ?_; rintro e w11 ⟨rfl, mk11, hl11⟩)
    have B11 := B10.trans (hl11.mono B3.size)
    have C11 := C10.trans hl11
    go_wp2_with (go_at_call 16; refine (sr.heldS_any g5 0 FL.length c5 1 _ mk11 (by omega) (by omega)).mono ?_; rintro e w12 ⟨rfl, hl12⟩)
    have B12 := B11.trans (hl12.mono B11.size)
    have C12 := C11.trans (hl12.mono C11.size)
    have mk12 := mk11.below hl12
    go_wp2_with (go_at_call 8; refine (cd.toS_any _ _ _ E0 _ (hb1.below B12) hn).mono ?_; rintro e w13 ⟨rfl, hr13, hl13⟩)
    have B13 := B12.trans (hl13.mono B12.size)
    have C13 := C12.trans (hl13.mono C12.size)
    have mk13 := mk12.below hl13
    go_wp2_with (go_at_call 12; refine (HIF.out _ _ (cd.XsB.row hr13)).mono ?_; rintro e w14 ⟨g14, c14, rfl, _, hbk14, hl14⟩)
    obtain ⟨_, ss14, _⟩ := fl.blk_marks hbk14
    have B14 := B13.trans (hl14.mono B13.size)
    have C14 := C13.trans (hl14.mono C13.size)
    have mk14 := mk13.below hl14
    go_wp2_with (go_at_call 13; refine (st.eq_any _ _ _ _ _ _ _ ss14 (ss3.below C14) (by omega)).mono ?_; rintro e w15 ⟨rfl, q15, rfl⟩)
    have B15 := Go.below_drewN B14 q15
    go_wp2_with (go_at_call 16; refine (sr.heldS_any g5 0 FL.length c5 1 (w14.drewN q15) mk14 (by omega) (by omega)).mono ?_; rintro e w16 ⟨rfl, hl16⟩)
    go_ret
    exact ⟨rfl, hl1.trans ((B15.trans (hl16.mono B15.size)).mono s1)⟩

set_option maxRecDepth 100000 in
theorem contract (H : Type) (enc : TypeId × Value → H) (W : World) (base : Nat) (args : Array Value) (ds gs : List (DataW H)) (before : List MemPlace)
    (hval : ∀ (j : Nat) t v, Try.f4.params[j]? = some t → args[j]? = some v → Value.okWide Try.prog W .any base t v)
    (hW : DataW.Whole enc Try.prog Try.f4.params.toList Rows.fnExactFlagsSpec.vars false W args.toList ds gs before) :
    Calls Try.prog 4 args W fun e W' => ∃ v, e = .returned v ∧ Rows.fnExactFlagsSpec.post enc Try.prog Try.f4 false true false false W args v W' := by
  have hW' := hW
  obtain ⟨p, q, hA0, hV, rfl, hfz, hnd⟩ := hW
  have hA : DataW.TrodAll enc Try.prog W 0 (fun _ => true) true Try.f4.params.toList args.toList ds p := hA0
  rw [Try.params4] at hA hval
  obtain ⟨v0, vs0, d0, ds0, p0, q0, hargs, rfl, rfl, h0, r0⟩ := trodAll_cons hA
  obtain ⟨rfl, rfl, rfl⟩ := trodAll_nil r0
  obtain rfl : args = #[v0] := by cases args; simp_all
  obtain ⟨rfl, rfl⟩ := trodVars_none hV
  obtain ⟨a0, len0, cap0, rfl⟩ := okWide_slice Try.underlying22 (hval 0 22 v0 rfl rfl)
  have k0 := h0
  have lt0 : ∀ x ∈ p0, x.block < W.heap.size := by obtain ⟨m, hm⟩ := k0; exact DataW.trod_lt m _ _ _ hm
  obtain ⟨E0, w0⟩ : ∃ E0, cd.SrcB W a0 len0 E0 ∧ len0 ≤ maxLen ∧ ∀ i, i < len0 → (E0 i).name.size ≤ maxLen := by
    obtain ⟨fuel, hf⟩ := h0
    exact cd.open_conds hf
  clear hA0
  refine (walk a0 len0 cap0 E0 W w0).mono fun e W' ⟨he, bel⟩ => ?_
  subst he
  exact ⟨_, rfl, _, _, _, [], _, [], hW', trodAll_mk1 (shut_bool Try.underlying4 _), (trodAll_cons_mk (Below.trod laidOut (by kernel_rfl) (of_decide_eq_true (by kernel_rfl)) k0 bel lt0) trodAll_mk0), rfl, bel.frame _, fun h => by cases h⟩

set_option maxRecDepth 100000 in
theorem lifted (os : Os) (started : os.Started) (H : Type) (enc : TypeId × Value → H) :
    ReturnsInHanded {} Try.checked os 4 .any (Rows.fnExactFlagsSpec.pre6 enc Try.prog Try.f4 Rows.fnExactFlagsRow.domain false) (Rows.fnExactFlagsSpec.post enc Try.prog Try.f4 false true false false) := by
  refine returnsInHanded_of_change (C := Try.checked) own started (by kernel_rfl) Try.func4
    (ChangeSpec.witness6 (enc := enc) (C := Try.checked) false ⟨#[], #[.slice none 0 0], []⟩ 8 (by kernel_rfl) (by kernel_rfl) (by kernel_rfl) (by kernel_rfl)) ?_
  intro W base args ds gs before hval hW _ _
  exact contract H enc W base args ds gs before hval hW

theorem over : Rows.fnExactFlagsRow.holds Try.pinned (OpenSpec.ofChange Rows.fnExactFlagsSpec) :=
  OpenClaim.holds_of_wide 4 Try.f4 rfl rfl rfl rfl rfl rfl rfl ⟨rfl, rfl, rfl, rfl, rfl⟩ rfl rfl rfl rfl rfl (by kernel_rfl) Try.func4 (by kernel_rfl)
    (of_decide_eq_true (by kernel_rfl)) (by unfold Func.isWrapper; first | (rw [if_pos (by decide +kernel)]; kernel_rfl) | (rw [if_neg (by decide +kernel)]; exact ⟨rfl, rfl⟩))
    (fun os started H enc _ => lifted os started H enc)

theorem proved : Rows.FnExactFlagsSaid := over
#print axioms proved
end Go.Proofs.Ytbgfgidgpbgbhaa.fnExactFlags
