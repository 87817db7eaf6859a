import Derived.Test.YtbgfgidgpbgbhaaRows
import Derived.WalkKit
import Derived.ProofKit
import Derived.OpenShut
import Derived.ShutString
import Derived.ChangeOld
import Derived.Below
import Derived.OpenVars
import Derived.SliceStrings
import Derived.Test.YtbgfgidgpbgbhaaCD
import Derived.Test.YtbgfgidgpbgbhaaCO
namespace Go.Proofs.Ytbgfgidgpbgbhaa.fnExactCondOk
open Go.ChangeShapes Go.WideShapes Go.ChangeAt Go.RowKit Go.Deep
open Go.ChangeMaps (open_string shut_string)
set_option linter.unusedVariables false

theorem own : ownKnob Try.prog.godebug = none := by kernel_rfl
theorem laidOut : laidOutB Try.prog = true := by kernel_rfl

theorem walk (a0 : Option Addr) (len0 cap0 : Nat) (E0 : Nat → cd.Cn) (w : World) (w0 : cd.SrcB w a0 len0 E0 ∧ len0 ≤ maxLen ∧ ∀ i, i < len0 → (E0 i).name.size ≤ maxLen) :
    Calls Try.prog 3 #[.slice a0 len0 cap0] w fun e w' => e = .returned (.bool true) ∧ Below w.heap.size w w' := by
  obtain ⟨hb, hn0, hs0⟩ := w0
  go_enter Try.func3, Try.ntmps3
  go_wp2_with (go_at_call 6; refine (cd.szS_any _ _ _ E0 _ hb hn0 hs0).mono ?_; rintro e w1 ⟨r, rfl, hr0, hr, hl1⟩)
  · go_ret
    exact ⟨rfl, hl1⟩
  · obtain ⟨hn, hs⟩ := hr (by omega)
    have hb1 := hb.below hl1
    have s1 := hl1.size
    go_wp2_with (go_at_call 8; refine (cd.toS_any _ _ _ E0 _ hb1 hn).mono ?_; rintro e w2 ⟨rfl, hr2, hl2⟩)
    have s2 := hl2.size
    go_wp2_with (go_at_call 7; refine (cd.sok_any E0 _ _ _ ⟨Nat.le_refl _, by omega⟩ hn hs _ (cd.XsB.row hr2)).mono ?_; rintro e w2 ⟨rfl, rfl⟩)
    have hb3 := hb1.below hl2
    go_wp2_with (go_at_call 8; refine (cd.toS_any _ _ _ E0 _ hb3 hn).mono ?_; rintro e w4 ⟨rfl, hr4, hl4⟩)
    have s4 := hl4.size
    have B4 : Below w1.heap.size w1 w4 := hl2.trans (hl4.mono hl2.size)
    go_wp2_with (go_at_call 9; refine (cd.iok_any E0 _ _ _ ⟨Nat.le_refl _, by omega⟩ hn hs _ (cd.XsB.row hr4)).mono ?_; rintro e w5 ⟨rfl, hl5⟩)
    have B5 : Below w1.heap.size w1 w5 := B4.trans (hl5.mono B4.size)
    have hb5 := hb1.below B5
    go_wp2_with (go_at_call 8; refine (cd.toS_any _ _ _ E0 _ hb5 hn).mono ?_; rintro e w6 ⟨rfl, hr6, hl6⟩)
    have hX6 := ((cd.XsB.row hr4).below hl5).below hl6
    go_wp2_with (go_at_call 10; refine (cd.eqS_any _ _ _ _ _ E0 _ hX6 (cd.XsB.row hr6) hn).mono ?_; rintro e w7 ⟨rfl, hl7⟩)
    go_ret
    exact ⟨rfl, hl1.trans (((B5.trans (hl6.mono B5.size)).trans (hl7.mono (Nat.le_trans B5.size hl6.size))).mono s1)⟩

set_option maxRecDepth 100000 in
theorem contract (H : Type) (enc : TypeId × Value → H) (W : World) (base : Nat) (args : Array Value) (ds gs : List (DataW H)) (before : List MemPlace)
    (hval : ∀ (j : Nat) t v, Try.f3.params[j]? = some t → args[j]? = some v → Value.okWide Try.prog W .any base t v)
    (hW : DataW.Whole enc Try.prog Try.f3.params.toList Rows.fnExactCondOkSpec.vars false W args.toList ds gs before) :
    Calls Try.prog 3 args W fun e W' => ∃ v, e = .returned v ∧ Rows.fnExactCondOkSpec.post enc Try.prog Try.f3 false true false false W args v W' := by
  have hW' := hW
  obtain ⟨p, q, hA0, hV, rfl, hfz, hnd⟩ := hW
  have hA : DataW.TrodAll enc Try.prog W 0 (fun _ => true) true Try.f3.params.toList args.toList ds p := hA0
  rw [Try.params3] at hA hval
  obtain ⟨v0, vs0, d0, ds0, p0, q0, hargs, rfl, rfl, h0, r0⟩ := trodAll_cons hA
  obtain ⟨rfl, rfl, rfl⟩ := trodAll_nil r0
  obtain rfl : args = #[v0] := by cases args; simp_all
  obtain ⟨rfl, rfl⟩ := trodVars_none hV
  obtain ⟨a0, len0, cap0, rfl⟩ := okWide_slice Try.underlying22 (hval 0 22 v0 rfl rfl)
  have k0 := h0
  have lt0 : ∀ x ∈ p0, x.block < W.heap.size := by obtain ⟨m, hm⟩ := k0; exact DataW.trod_lt m _ _ _ hm
  obtain ⟨E0, w0⟩ : ∃ E0, cd.SrcB W a0 len0 E0 ∧ len0 ≤ maxLen ∧ ∀ i, i < len0 → (E0 i).name.size ≤ maxLen := by
    obtain ⟨fuel, hf⟩ := h0
    exact cd.open_conds hf
  clear hA0
  refine (walk a0 len0 cap0 E0 W w0).mono fun e W' ⟨he, bel⟩ => ?_
  subst he
  exact ⟨_, rfl, _, _, _, [], _, [], hW', trodAll_mk1 (shut_bool Try.underlying4 _), (trodAll_cons_mk (Below.trod laidOut (by kernel_rfl) (of_decide_eq_true (by kernel_rfl)) k0 bel lt0) trodAll_mk0), rfl, bel.frame _, fun h => by cases h⟩

set_option maxRecDepth 100000 in
theorem lifted (os : Os) (started : os.Started) (H : Type) (enc : TypeId × Value → H) :
    ReturnsInHanded {} Try.checked os 3 .any (Rows.fnExactCondOkSpec.pre6 enc Try.prog Try.f3 Rows.fnExactCondOkRow.domain false) (Rows.fnExactCondOkSpec.post enc Try.prog Try.f3 false true false false) := by
  refine returnsInHanded_of_change (C := Try.checked) own started (by kernel_rfl) Try.func3
    (ChangeSpec.witness6 (enc := enc) (C := Try.checked) false ⟨#[], #[.slice none 0 0], []⟩ 8 (by kernel_rfl) (by kernel_rfl) (by kernel_rfl) (by kernel_rfl)) ?_
  intro W base args ds gs before hval hW _ _
  exact contract H enc W base args ds gs before hval hW

theorem over : Rows.fnExactCondOkRow.holds Try.pinned (OpenSpec.ofChange Rows.fnExactCondOkSpec) :=
  OpenClaim.holds_of_wide 3 Try.f3 rfl rfl rfl rfl rfl rfl rfl ⟨rfl, rfl, rfl, rfl, rfl⟩ rfl rfl rfl rfl rfl (by kernel_rfl) Try.func3 (by kernel_rfl)
    (of_decide_eq_true (by kernel_rfl)) (by unfold Func.isWrapper; first | (rw [if_pos (by decide +kernel)]; kernel_rfl) | (rw [if_neg (by decide +kernel)]; exact ⟨rfl, rfl⟩))
    (fun os started H enc _ => lifted os started H enc)

theorem proved : Rows.FnExactCondOkSaid := over
#print axioms proved
end Go.Proofs.Ytbgfgidgpbgbhaa.fnExactCondOk
