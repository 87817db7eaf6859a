import Derived.Test.YthklplfpnciodaaGreatDoorCards
import Derived.Test.YthklplfpnciodaaGreatDoorTie
import Derived.WalkKit
import Derived.ProofKit
import Derived.OpenShut
import Derived.ShutString
import Derived.ChangeOld
import Derived.Below
import Derived.OpenVars
import Derived.SliceStrings
import Derived.Deep.DeepHandedRow
import Derived.Lib.LaidTab
import Derived.Test.YthklplfpnciodaaGreatDoorFV
namespace Go.Proofs.YthklplfpnciodaaGreatDoor.fnExactFree
open Go.ChangeShapes Go.WideShapes Go.ChangeAt Go.RowKit Go.Deep
open Go.ChangeMaps (open_string shut_string)
set_option linter.unusedVariables false

theorem own : ownKnob Tryz.prog.godebug = none := by kernel_rfl
theorem laidOut : laidOutB Tryz.prog = true := by kernel_rfl
theorem gTab0 : Tryz.prog.globalNamed "loop.example/g00023/impl.shapes" = some 0 := by kernel_rfl
theorem gTab1 : Tryz.prog.globalNamed "loop.example/g00023/impl.escapes" = some 2 := by kernel_rfl
theorem gTab2 : Tryz.prog.globalNamed "loop.example/g00023/impl.signsBetween" = some 1 := by kernel_rfl
theorem tabs_met {W : World} (h : laidMetH Tryz.prog Rows.fnExactFreeRow.laid W) : ex.Tabs W := by
  obtain ⟨ps, h, _⟩ := (show laidMet Tryz.prog Rows.fnExactFreeRow.laid W from h)
  have he := es.esc_of h
  obtain ⟨q0, h0⟩ := ex.laid_skipF h
  have hs := (ex.shp_of h0).1
  obtain ⟨q1, h1⟩ := ex.laid_skipF h0
  have hb := (ex.bet_of h1).1
  exact ⟨he, hb, hs⟩

theorem walk (a0 : Option Addr) (len0 cap0 : Nat) (E0 : Nat → ex.Ex) (w : World) (w0 : ex.SrcB w a0 len0 E0 ∧ len0 ≤ maxLen ∧ ∀ i, i < len0 → (E0 i).text.size ≤ maxLen) (T : ex.Tabs w) :
    Calls Tryz.prog 3 #[.slice a0 len0 cap0] w fun e w' => e = .returned (.bool true) ∧ Below w.heap.size w w' := by
  obtain ⟨hb, hn0, hs0⟩ := w0
  go_enter Tryz.func3, Tryz.ntmps3
  go_wp2_with (go_at_call 4; refine (ex.szS_any _ _ _ E0 _ hb hn0 hs0).mono ?_; rintro e w1 ⟨r, rfl, hr, hl1⟩)
  · go_ret
    exact ⟨rfl, hl1⟩
  · obtain ⟨hn, hs⟩ := hr (by omega)
    have hb1 := hb.below hl1
    have T1 := T.below hl1
    have s1 := hl1.size
    go_wp2_with (go_at_call 6; refine (ex.toS_any _ _ _ E0 _ hb1 hn).mono ?_; rintro e w2 ⟨rfl, hr2, hl2⟩)
    have s2 := hl2.size
    go_wp2_with (go_at_call 5; refine (ex.sfree_any E0 _ _ _ hn ⟨Nat.le_refl _, by omega⟩ hs _ (ex.XsB.row hr2)).mono ?_; rintro e w3 ⟨v3, rfl, hst3, hl3⟩)
    obtain ⟨a3, c3, rfl, ss3⟩ := hst3.ssF
    have s3 := hl3.size
    have B3 : Below w1.heap.size w1 w3 := hl2.trans (hl3.mono s2)
    go_wp2_with (go_at_call 6; refine (ex.toS_any _ _ _ E0 _ (hb1.below B3) hn).mono ?_; rintro e w4 ⟨rfl, hr4, hl4⟩)
    have s4 := hl4.size
    have B4 : Below w1.heap.size w1 w4 := B3.trans (hl4.mono B3.size)
    obtain ⟨FL, hFL⟩ : ∃ FL, ex.frees E0 len0 = FL := ⟨_, rfl⟩
    have hfew : FL.length ≤ 24000 := by rw [← hFL]; exact ex.frees_few _ _
    go_wp2_with (go_at_call 7; refine (ex.ifree_any E0 _ _ _ hn ⟨Nat.le_refl _, by omega⟩ hs _ (ex.XsB.row hr4) (T1.below B4)).mono ?_; rintro e w5 ⟨v5, rfl, ho5, hn5, hl5⟩)
    rw [hFL] at ss3 ho5
    try rw [hFL]
    obtain ⟨g5, c5, rfl, hg1, hg2, mk5, ss5⟩ := ex.own_marks ho5 hn5
    have B5 : Below w1.heap.size w1 w5 := B4.trans (hl5.mono B4.size)
    have C5 : Below w3.heap.size w3 w5 := hl4.trans (hl5.mono s4)
    go_wp2_with (go_at_call 8; refine (st.eq_any _ _ _ _ _ _ _ ss5 (ss3.below C5) (by omega)).mono ?_; rintro e w6 ⟨rfl, q6, rfl⟩)
    have B6 := Go.below_drewN B5 q6
    have C6 := Go.below_drewN C5 q6
    have D6 := Go.below_drewN hl5 q6
    go_wp2_with (go_at_call 6; refine (ex.toS_any _ _ _ E0 _ (hb1.below B6) hn).mono ?_; rintro e w7 ⟨rfl, hr7, hl7⟩)
    have B7 := B6.trans (hl7.mono B6.size)
    have C7 := C6.trans (hl7.mono C6.size)
    have D7 := D6.trans (hl7.mono D6.size)
    go_wp2_with (go_at_call 9; refine (ex.eqS_any _ _ _ _ _ E0 _ ((ex.XsB.row hr4).below D7) (ex.XsB.row hr7) hn).mono ?_; rintro e w8 ⟨rfl, hl8⟩)
    have B8 := B7.trans (hl8.mono B7.size)
    have C8 := C7.trans (hl8.mono C7.size)
    have D8 := D7.trans (hl8.mono D7.size)
    have E8 : Below w5.heap.size w5 w8 := by
      have h := (Go.below_drewN (Below.refl w5.heap.size w5) q6).trans (hl7.mono (by simp))
      exact h.trans (hl8.mono h.size)
    have mk8 := mk5.below E8
    have ss8 := ss5.below E8
    have hne : g5 ≠ w3.heap.size := by have := (hr4.lt); omega
    go_wp2_with (go_at_call 10; refine (ex.markE_any w3.heap.size len0 _ 1 w8 (ex.row_wr hr4 D8) (by omega) hn (by omega)).mono ?_; rintro e w9 ⟨rfl, hg9⟩)
    have B9 := ex.grow_below B8 hg9 B8.size B3.size
    have C9 := ex.grow_below C8 hg9 C8.size (Nat.le_refl _)
    have mk9 := ex.mk_grown mk8 hg9 hne
    have ss9 := ex.ss_grown ss8 hg9 hne
    go_wp2_with (go_at_call 8; refine (st.eq_any _ _ _ _ _ _ _ ss9 (ss3.below C9) (by omega)).mono ?_; rintro e w10 ⟨rfl, q10, rfl⟩)
    have B10 := Go.below_drewN B9 q10
    have C10 := Go.below_drewN C9 q10
    go_wp2_with (go_at_call 11; refine (sr.markS_any g5 0 FL.length c5 1 (w9.drewN q10) mk9 w3.heap.size (Nat.le_trans s4 hg1) C10.size (by omega) (by omega)).mono ?_; rintro e w11 ⟨rfl, mk11, hl11⟩)
    have B11 := B10.trans (hl11.mono B3.size)
    have C11 := C10.trans hl11
    go_wp2_with (go_at_call 12; refine (sr.heldS_any g5 0 FL.length c5 1 _ mk11 (by omega) (by omega)).mono ?_; rintro e w12 ⟨rfl, hl12⟩)
    have B12 := B11.trans (hl12.mono B11.size)
    have C12 := C11.trans (hl12.mono C11.size)
    have mk12 := mk11.below hl12
    go_wp2_with (go_at_call 6; refine (ex.toS_any _ _ _ E0 _ (hb1.below B12) hn).mono ?_; rintro e w13 ⟨rfl, hr13, hl13⟩)
    have B13 := B12.trans (hl13.mono B12.size)
    have C13 := C12.trans (hl13.mono C12.size)
    have mk13 := mk12.below hl13
    go_wp2_with (go_at_call 7; refine (ex.ifree_any E0 _ _ _ hn ⟨Nat.le_refl _, by omega⟩ hs _ (ex.XsB.row hr13) (T1.below B13)).mono ?_; rintro e w14 ⟨v14, rfl, ho14, hn14, hl14⟩)
    rw [hFL] at ho14
    obtain ⟨g14, c14, rfl, _, _, _, ss14⟩ := ex.own_marks ho14 hn14
    have B14 := B13.trans (hl14.mono B13.size)
    have C14 := C13.trans (hl14.mono C13.size)
    have mk14 := mk13.below hl14
    go_wp2_with (go_at_call 8; refine (st.eq_any _ _ _ _ _ _ _ ss14 (ss3.below C14) (by omega)).mono ?_; rintro e w15 ⟨rfl, q15, rfl⟩)
    have B15 := Go.below_drewN B14 q15
    go_wp2_with (go_at_call 12; refine (sr.heldS_any g5 0 FL.length c5 1 (w14.drewN q15) mk14 (by omega) (by omega)).mono ?_; rintro e w16 ⟨rfl, hl16⟩)
    go_ret
    exact ⟨rfl, hl1.trans ((B15.trans (hl16.mono B15.size)).mono s1)⟩

set_option maxRecDepth 100000 in
theorem contract (H : Type) (enc : TypeId × Value → H) (W : World) (base : Nat) (args : Array Value) (ds gs : List (DataW H)) (before : List MemPlace)
    (hval : ∀ (j : Nat) t v, Tryz.f3.params[j]? = some t → args[j]? = some v → Value.okWide Tryz.prog W .any base t v)
    (hW : DataW.Whole enc Tryz.prog Tryz.f3.params.toList Rows.fnExactFreeSpec.vars false W args.toList ds gs before) (hL : laidMetH Tryz.prog Rows.fnExactFreeRow.laid W) :
    Calls Tryz.prog 3 args W fun e W' => ∃ v, e = .returned v ∧ Rows.fnExactFreeSpec.post enc Tryz.prog Tryz.f3 false true false false W args v W' := by
  have hW' := hW
  obtain ⟨p, q, hA0, hV, rfl, hfz, hnd⟩ := hW
  have hA : DataW.TrodAll enc Tryz.prog W 0 (fun _ => true) true Tryz.f3.params.toList args.toList ds p := hA0
  rw [Tryz.params3] at hA hval
  obtain ⟨v0, vs0, d0, ds0, p0, q0, hargs, rfl, rfl, h0, r0⟩ := trodAll_cons hA
  obtain ⟨rfl, rfl, rfl⟩ := trodAll_nil r0
  obtain rfl : args = #[v0] := by cases args; simp_all
  obtain ⟨g0, g1, g2, rfl⟩ : ∃ g0 g1 g2, gs = [g0, g1, g2] := by
    match gs, hV with
    | [x0, x1, x2], _ => exact ⟨x0, x1, x2, rfl⟩
  obtain ⟨a0, len0, cap0, rfl⟩ := okWide_slice Tryz.underlying22 (hval 0 22 v0 rfl rfl)
  have k0 := h0
  have lt0 : ∀ x ∈ p0, x.block < W.heap.size := by obtain ⟨m, hm⟩ := k0; exact DataW.trod_lt m _ _ _ hm
  obtain ⟨E0, w0⟩ : ∃ E0, ex.SrcB W a0 len0 E0 ∧ len0 ≤ maxLen ∧ ∀ i, i < len0 → (E0 i).text.size ≤ maxLen := by
    obtain ⟨fuel, hf⟩ := h0
    exact ex.open_exprs hf
  clear hA0
  refine (walk a0 len0 cap0 E0 W w0 (tabs_met hL)).mono fun e W' ⟨he, bel⟩ => ?_
  subst he
  exact ⟨_, rfl, _, _, _, [], _, _, hW', trodAll_mk1 (shut_bool Tryz.underlying4 _), (trodAll_cons_mk (Below.trod laidOut (by kernel_rfl) (of_decide_eq_true (by kernel_rfl)) k0 bel lt0) trodAll_mk0), (Below.trodVars laidOut bel (by kernel_rfl) hV), bel.frame _, fun h => by cases h⟩

set_option maxRecDepth 100000 in
theorem laid_met (os : Os) : laidMet Tryz.prog Rows.fnExactFreeRow.laid (({ World.holding Tryz.prog os ⟨#[], #[], []⟩ with heap := ((((World.holding Tryz.prog os ⟨#[], #[], []⟩).heap.modify 2 fun | .cells _ t frozen => .cells #[.int .u8 110, .int .u8 10, .int .u8 116, .int .u8 9, .int .u8 34, .int .u8 34, .int .u8 92, .int .u8 92] t frozen | o => o).modify 0 fun | .cells _ t frozen => .cells #[.int .i64 0, .int .i64 0, .int .i64 0, .int .i64 0, .int .i64 0, .int .i64 0, .int .i64 0, .int .i64 0, .int .i64 0, .int .i64 9007199254740992, .int .i64 0, .int .i64 0, .int .i64 0, .int .i64 1, .int .i64 0, .int .i64 0, .int .i64 0, .int .i64 0, .int .i64 2, .int .i64 0, .int .i64 0, .int .i64 0, .int .i64 3000, .int .i64 0, .int .i64 0, .int .i64 6, .int .i64 0, .int .i64 0, .int .i64 0, .int .i64 1, .int .i64 0, .int .i64 1, .int .i64 1, .int .i64 2, .int .i64 0, .int .i64 0, .int .i64 0, .int .i64 0, .int .i64 2, .int .i64 0, .int .i64 6, .int .i64 1, .int .i64 1, .int .i64 0, .int .i64 0, .int .i64 0, .int .i64 2, .int .i64 2, .int .i64 0, .int .i64 0, .int .i64 0, .int .i64 2, .int .i64 2, .int .i64 0, .int .i64 0, .int .i64 0, .int .i64 2, .int .i64 2, .int .i64 0, .int .i64 0, .int .i64 0, .int .i64 3, .int .i64 3, .int .i64 0, .int .i64 0, .int .i64 0, .int .i64 1, .int .i64 1, .int .i64 2, .int .i64 0, .int .i64 15, .int .i64 1, .int .i64 1, .int .i64 0, .int .i64 1, .int .i64 0, .int .i64 0, .int .i64 1, .int .i64 2, .int .i64 0, .int .i64 0, .int .i64 1, .int .i64 2, .int .i64 2, .int .i64 0, .int .i64 0, .int .i64 1, .int .i64 1, .int .i64 2, .int .i64 0, .int .i64 0, .int .i64 2, .int .i64 2, .int .i64 3, .int .i64 0, .int .i64 0, .int .i64 1, .int .i64 1, .int .i64 0, .int .i64 0, .int .i64 0, .int .i64 1, .int .i64 1, .int .i64 0, .int .i64 0] t frozen | o => o).modify 1 fun | .cells _ t frozen => .cells #[.string ⟨#[45, 62]⟩, .int .i64 2, .string ⟨#[124, 124]⟩, .int .i64 3, .string ⟨#[38, 38]⟩, .int .i64 4, .string ⟨#[61, 61]⟩, .int .i64 5, .string ⟨#[33, 61]⟩, .int .i64 5, .string ⟨#[60]⟩, .int .i64 6, .string ⟨#[60, 61]⟩, .int .i64 6, .string ⟨#[62]⟩, .int .i64 6, .string ⟨#[62, 61]⟩, .int .i64 6, .string ⟨#[47, 47]⟩, .int .i64 7, .string ⟨#[43]⟩, .int .i64 9, .string ⟨#[45]⟩, .int .i64 9, .string ⟨#[42]⟩, .int .i64 10, .string ⟨#[47]⟩, .int .i64 10, .string ⟨#[43, 43]⟩, .int .i64 11] t frozen | o => o) } : World).forCall (fun _ _ => 0) ⟨#[], #[.slice none 0 0], []⟩).memory :=
  laidMet_of_run' 8 (by kernel_rfl) (by kernel_rfl)
set_option maxRecDepth 100000 in
theorem reads (os : Os) {H : Type} (enc : TypeId × Value → H) : ∃ places, DataW.whole enc Tryz.prog (({ World.holding Tryz.prog os ⟨#[], #[], []⟩ with heap := ((((World.holding Tryz.prog os ⟨#[], #[], []⟩).heap.modify 2 fun | .cells _ t frozen => .cells #[.int .u8 110, .int .u8 10, .int .u8 116, .int .u8 9, .int .u8 34, .int .u8 34, .int .u8 92, .int .u8 92] t frozen | o => o).modify 0 fun | .cells _ t frozen => .cells #[.int .i64 0, .int .i64 0, .int .i64 0, .int .i64 0, .int .i64 0, .int .i64 0, .int .i64 0, .int .i64 0, .int .i64 0, .int .i64 9007199254740992, .int .i64 0, .int .i64 0, .int .i64 0, .int .i64 1, .int .i64 0, .int .i64 0, .int .i64 0, .int .i64 0, .int .i64 2, .int .i64 0, .int .i64 0, .int .i64 0, .int .i64 3000, .int .i64 0, .int .i64 0, .int .i64 6, .int .i64 0, .int .i64 0, .int .i64 0, .int .i64 1, .int .i64 0, .int .i64 1, .int .i64 1, .int .i64 2, .int .i64 0, .int .i64 0, .int .i64 0, .int .i64 0, .int .i64 2, .int .i64 0, .int .i64 6, .int .i64 1, .int .i64 1, .int .i64 0, .int .i64 0, .int .i64 0, .int .i64 2, .int .i64 2, .int .i64 0, .int .i64 0, .int .i64 0, .int .i64 2, .int .i64 2, .int .i64 0, .int .i64 0, .int .i64 0, .int .i64 2, .int .i64 2, .int .i64 0, .int .i64 0, .int .i64 0, .int .i64 3, .int .i64 3, .int .i64 0, .int .i64 0, .int .i64 0, .int .i64 1, .int .i64 1, .int .i64 2, .int .i64 0, .int .i64 15, .int .i64 1, .int .i64 1, .int .i64 0, .int .i64 1, .int .i64 0, .int .i64 0, .int .i64 1, .int .i64 2, .int .i64 0, .int .i64 0, .int .i64 1, .int .i64 2, .int .i64 2, .int .i64 0, .int .i64 0, .int .i64 1, .int .i64 1, .int .i64 2, .int .i64 0, .int .i64 0, .int .i64 2, .int .i64 2, .int .i64 3, .int .i64 0, .int .i64 0, .int .i64 1, .int .i64 1, .int .i64 0, .int .i64 0, .int .i64 0, .int .i64 1, .int .i64 1, .int .i64 0, .int .i64 0] t frozen | o => o).modify 1 fun | .cells _ t frozen => .cells #[.string ⟨#[45, 62]⟩, .int .i64 2, .string ⟨#[124, 124]⟩, .int .i64 3, .string ⟨#[38, 38]⟩, .int .i64 4, .string ⟨#[61, 61]⟩, .int .i64 5, .string ⟨#[33, 61]⟩, .int .i64 5, .string ⟨#[60]⟩, .int .i64 6, .string ⟨#[60, 61]⟩, .int .i64 6, .string ⟨#[62]⟩, .int .i64 6, .string ⟨#[62, 61]⟩, .int .i64 6, .string ⟨#[47, 47]⟩, .int .i64 7, .string ⟨#[43]⟩, .int .i64 9, .string ⟨#[45]⟩, .int .i64 9, .string ⟨#[42]⟩, .int .i64 10, .string ⟨#[47]⟩, .int .i64 10, .string ⟨#[43, 43]⟩, .int .i64 11] t frozen | o => o) } : World).forCall (fun _ _ => 0) ⟨#[], #[.slice none 0 0], []⟩).memory Tryz.f3.params.toList Rows.fnExactFreeSpec.vars false (#[.slice none 0 0] : Array Value).toList 8 = some ([.nil], [Rows.laid_loop_example_g00023_impl_shapes, Rows.laid_loop_example_g00023_impl_escapes, Rows.laid_loop_example_g00023_impl_signsBetween], places) := by
  have h : (DataW.whole enc Tryz.prog (({ World.holding Tryz.prog os ⟨#[], #[], []⟩ with heap := ((((World.holding Tryz.prog os ⟨#[], #[], []⟩).heap.modify 2 fun | .cells _ t frozen => .cells #[.int .u8 110, .int .u8 10, .int .u8 116, .int .u8 9, .int .u8 34, .int .u8 34, .int .u8 92, .int .u8 92] t frozen | o => o).modify 0 fun | .cells _ t frozen => .cells #[.int .i64 0, .int .i64 0, .int .i64 0, .int .i64 0, .int .i64 0, .int .i64 0, .int .i64 0, .int .i64 0, .int .i64 0, .int .i64 9007199254740992, .int .i64 0, .int .i64 0, .int .i64 0, .int .i64 1, .int .i64 0, .int .i64 0, .int .i64 0, .int .i64 0, .int .i64 2, .int .i64 0, .int .i64 0, .int .i64 0, .int .i64 3000, .int .i64 0, .int .i64 0, .int .i64 6, .int .i64 0, .int .i64 0, .int .i64 0, .int .i64 1, .int .i64 0, .int .i64 1, .int .i64 1, .int .i64 2, .int .i64 0, .int .i64 0, .int .i64 0, .int .i64 0, .int .i64 2, .int .i64 0, .int .i64 6, .int .i64 1, .int .i64 1, .int .i64 0, .int .i64 0, .int .i64 0, .int .i64 2, .int .i64 2, .int .i64 0, .int .i64 0, .int .i64 0, .int .i64 2, .int .i64 2, .int .i64 0, .int .i64 0, .int .i64 0, .int .i64 2, .int .i64 2, .int .i64 0, .int .i64 0, .int .i64 0, .int .i64 3, .int .i64 3, .int .i64 0, .int .i64 0, .int .i64 0, .int .i64 1, .int .i64 1, .int .i64 2, .int .i64 0, .int .i64 15, .int .i64 1, .int .i64 1, .int .i64 0, .int .i64 1, .int .i64 0, .int .i64 0, .int .i64 1, .int .i64 2, .int .i64 0, .int .i64 0, .int .i64 1, .int .i64 2, .int .i64 2, .int .i64 0, .int .i64 0, .int .i64 1, .int .i64 1, .int .i64 2, .int .i64 0, .int .i64 0, .int .i64 2, .int .i64 2, .int .i64 3, .int .i64 0, .int .i64 0, .int .i64 1, .int .i64 1, .int .i64 0, .int .i64 0, .int .i64 0, .int .i64 1, .int .i64 1, .int .i64 0, .int .i64 0] t frozen | o => o).modify 1 fun | .cells _ t frozen => .cells #[.string ⟨#[45, 62]⟩, .int .i64 2, .string ⟨#[124, 124]⟩, .int .i64 3, .string ⟨#[38, 38]⟩, .int .i64 4, .string ⟨#[61, 61]⟩, .int .i64 5, .string ⟨#[33, 61]⟩, .int .i64 5, .string ⟨#[60]⟩, .int .i64 6, .string ⟨#[60, 61]⟩, .int .i64 6, .string ⟨#[62]⟩, .int .i64 6, .string ⟨#[62, 61]⟩, .int .i64 6, .string ⟨#[47, 47]⟩, .int .i64 7, .string ⟨#[43]⟩, .int .i64 9, .string ⟨#[45]⟩, .int .i64 9, .string ⟨#[42]⟩, .int .i64 10, .string ⟨#[47]⟩, .int .i64 10, .string ⟨#[43, 43]⟩, .int .i64 11] t frozen | o => o) } : World).forCall (fun _ _ => 0) ⟨#[], #[.slice none 0 0], []⟩).memory Tryz.f3.params.toList Rows.fnExactFreeSpec.vars false (#[.slice none 0 0] : Array Value).toList 8).map (fun x => (x.1, x.2.1)) = some ([.nil], [Rows.laid_loop_example_g00023_impl_shapes, Rows.laid_loop_example_g00023_impl_escapes, Rows.laid_loop_example_g00023_impl_signsBetween]) := by kernel_rfl
  obtain ⟨⟨x, y, z⟩, hx, he⟩ := Option.map_eq_some_iff.1 h
  simp only [Prod.mk.injEq] at he
  obtain ⟨rfl, rfl⟩ := he
  exact ⟨z, hx⟩

set_option maxRecDepth 100000 in
theorem lifted (os : Os) (started : os.Started) (H : Type) (enc : TypeId × Value → H) (F : Stop.Interp) :
    ReturnsInHanded {} Tryz.checked os 3 .any ((OpenSpec.ofChange Rows.fnExactFreeSpec).preRow enc Tryz.prog Tryz.f3 Rows.fnExactFreeRow.domain false Rows.fnExactFreeRow.laid) (((OpenSpec.ofChange Rows.fnExactFreeSpec).at F).post enc Tryz.prog Tryz.f3 false true false false) := by
  obtain ⟨places, hx⟩ := reads os enc
  refine returnsInHanded_of_row (C := Tryz.checked) (s := OpenSpec.ofChange Rows.fnExactFreeSpec) own started (by kernel_rfl) Tryz.func3
    (witness_row_at (enc := enc) (C := Tryz.checked) false ({ World.holding Tryz.prog os ⟨#[], #[], []⟩ with heap := ((((World.holding Tryz.prog os ⟨#[], #[], []⟩).heap.modify 2 fun | .cells _ t frozen => .cells #[.int .u8 110, .int .u8 10, .int .u8 116, .int .u8 9, .int .u8 34, .int .u8 34, .int .u8 92, .int .u8 92] t frozen | o => o).modify 0 fun | .cells _ t frozen => .cells #[.int .i64 0, .int .i64 0, .int .i64 0, .int .i64 0, .int .i64 0, .int .i64 0, .int .i64 0, .int .i64 0, .int .i64 0, .int .i64 9007199254740992, .int .i64 0, .int .i64 0, .int .i64 0, .int .i64 1, .int .i64 0, .int .i64 0, .int .i64 0, .int .i64 0, .int .i64 2, .int .i64 0, .int .i64 0, .int .i64 0, .int .i64 3000, .int .i64 0, .int .i64 0, .int .i64 6, .int .i64 0, .int .i64 0, .int .i64 0, .int .i64 1, .int .i64 0, .int .i64 1, .int .i64 1, .int .i64 2, .int .i64 0, .int .i64 0, .int .i64 0, .int .i64 0, .int .i64 2, .int .i64 0, .int .i64 6, .int .i64 1, .int .i64 1, .int .i64 0, .int .i64 0, .int .i64 0, .int .i64 2, .int .i64 2, .int .i64 0, .int .i64 0, .int .i64 0, .int .i64 2, .int .i64 2, .int .i64 0, .int .i64 0, .int .i64 0, .int .i64 2, .int .i64 2, .int .i64 0, .int .i64 0, .int .i64 0, .int .i64 3, .int .i64 3, .int .i64 0, .int .i64 0, .int .i64 0, .int .i64 1, .int .i64 1, .int .i64 2, .int .i64 0, .int .i64 15, .int .i64 1, .int .i64 1, .int .i64 0, .int .i64 1, .int .i64 0, .int .i64 0, .int .i64 1, .int .i64 2, .int .i64 0, .int .i64 0, .int .i64 1, .int .i64 2, .int .i64 2, .int .i64 0, .int .i64 0, .int .i64 1, .int .i64 1, .int .i64 2, .int .i64 0, .int .i64 0, .int .i64 2, .int .i64 2, .int .i64 3, .int .i64 0, .int .i64 0, .int .i64 1, .int .i64 1, .int .i64 0, .int .i64 0, .int .i64 0, .int .i64 1, .int .i64 1, .int .i64 0, .int .i64 0] t frozen | o => o).modify 1 fun | .cells _ t frozen => .cells #[.string ⟨#[45, 62]⟩, .int .i64 2, .string ⟨#[124, 124]⟩, .int .i64 3, .string ⟨#[38, 38]⟩, .int .i64 4, .string ⟨#[61, 61]⟩, .int .i64 5, .string ⟨#[33, 61]⟩, .int .i64 5, .string ⟨#[60]⟩, .int .i64 6, .string ⟨#[60, 61]⟩, .int .i64 6, .string ⟨#[62]⟩, .int .i64 6, .string ⟨#[62, 61]⟩, .int .i64 6, .string ⟨#[47, 47]⟩, .int .i64 7, .string ⟨#[43]⟩, .int .i64 9, .string ⟨#[45]⟩, .int .i64 9, .string ⟨#[42]⟩, .int .i64 10, .string ⟨#[47]⟩, .int .i64 10, .string ⟨#[43, 43]⟩, .int .i64 11] t frozen | o => o) } : World) #[.slice none 0 0] rfl (by kernel_rfl) (by kernel_rfl) (by kernel_rfl)
      (OpenSpec.preRow_of_cond 8 hx (by kernel_rfl) (fun k hk => by cases hk) (by kernel_rfl) (laid_met os))) ?_
  intro W base args ds gs before hval hW _ _ _ hL _ _
  exact contract H enc W base args ds gs before hval hW hL

theorem said : Rows.FnExactFreeSaid :=
  OpenClaim.holds_of_cond 3 Tryz.f3 rfl rfl rfl rfl rfl rfl rfl ⟨rfl, rfl, rfl, rfl, rfl⟩ rfl rfl rfl rfl rfl (by kernel_rfl) Tryz.func3 (by kernel_rfl)
    (of_decide_eq_true (by kernel_rfl)) (by unfold Func.isWrapper; first | (rw [if_pos (by decide +kernel)]; kernel_rfl) | (rw [if_neg (by decide +kernel)]; exact ⟨rfl, rfl⟩))
    (fun os started H enc _ F => by rw [OpenClaim.pre_eq_preRow]; exact lifted os started H enc F)

theorem plain (f : FuncId) (fn : Func) (hf : Tryz.pinned.checked.prog.funcNamed "loop.example/g00023/laws.FnExactFree" = some f) (hfn : Tryz.pinned.checked.prog.funcs[f]? = some fn) :
    true = Tryz.pinned.checked.prog.looks [] ∧ ∀ (j : Nat) t, fn.params[j]? = some t → Tryz.pinned.checked.prog.wantsStandIn t = false := by
  obtain rfl : f = 3 := Option.some.inj ((show Tryz.prog.funcNamed "loop.example/g00023/laws.FnExactFree" = some 3 by kernel_rfl).symm.trans hf) |>.symm
  obtain rfl : fn = Tryz.f3 := (Option.some.inj (Tryz.func3.symm.trans hfn)).symm
  refine ⟨by kernel_rfl, fun j t ht => ?_⟩
  rw [Tryz.params3] at ht
  have hm := Array.mem_of_getElem? ht
  simp only [List.mem_toArray, List.mem_cons, List.not_mem_nil, or_false] at hm
  subst hm
  exact (show Tryz.prog.wantsStandIn 22 = false by kernel_rfl)

theorem card : Rows.FnExactFreeCardSaid :=
  Claim7.holds_tied_plain_at .later [] _ _ _ _ said (fun _ h => by cases h) (by kernel_rfl) (fun _ h => by cases h) fnExactFree_row_tie rfl ⟨rfl, rfl⟩ (by kernel_rfl) rfl plain (by kernel_rfl)
#print axioms card
end Go.Proofs.YthklplfpnciodaaGreatDoor.fnExactFree
