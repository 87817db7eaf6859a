import Derived.Test.YtdddplhfhpghkaaRows
import Derived.WalkKit
import Derived.ProofKit
import Derived.OpenShut
import Derived.ShutString
import Derived.ChangeOld
import Derived.Below
import Derived.OpenVars
import Derived.SliceStrings
import Derived.Test.YtdddplhfhpghkaaPX2
namespace Go.Proofs.Ytdddplhfhpghkaa.fnExactPlanUnits
open Go.ChangeShapes Go.WideShapes Go.ChangeAt Go.RowKit Go.Deep
open Go.ChangeMaps (open_string shut_string)
set_option linter.unusedVariables false

theorem own : ownKnob Try.prog.godebug = none := by kernel_rfl
theorem laidOut : laidOutB Try.prog = true := by kernel_rfl

theorem walk (a0 : Option Addr) (cap0 : Nat) (ps0 : List ty.Un) (a1 : Option Addr) (cap1 : Nat) (ps1 : List ty.Un) (a2 : Option Addr) (cap2 : Nat) (ps2 : List ByteArray) (w : World) (w0 : ty.SrcUn none w a0 ps0 ∧ ty.SmUn ps0) (w1 : ty.SrcUn none w a1 ps1 ∧ ty.SmUn ps1) (w2 : ty.SrcS none w a2 ps2 ∧ ty.SmS ps2) :
    Calls Try.prog 5 #[.slice a0 ps0.length cap0, .slice a1 ps1.length cap1, .slice a2 ps2.length cap2] w fun e w' => e = .returned (.bool true) ∧ Below w.heap.size w w' := by
  obtain ⟨hb0, hs0⟩ := w0
  obtain ⟨hb1, hs1⟩ := w1
  obtain ⟨hb2, hs2⟩ := w2
  exact hp.pu_law a0 cap0 ps0 a1 cap1 ps1 a2 cap2 ps2 _ hb0 hs0 hb1 hs1 hb2 hs2

set_option maxRecDepth 100000 in
theorem contract (H : Type) (enc : TypeId × Value → H) (W : World) (base : Nat) (args : Array Value) (ds gs : List (DataW H)) (before : List MemPlace)
    (hval : ∀ (j : Nat) t v, Try.f5.params[j]? = some t → args[j]? = some v → Value.okWide Try.prog W .any base t v)
    (hW : DataW.Whole enc Try.prog Try.f5.params.toList Rows.fnExactPlanUnitsSpec.vars false W args.toList ds gs before) :
    Calls Try.prog 5 args W fun e W' => ∃ v, e = .returned v ∧ Rows.fnExactPlanUnitsSpec.post enc Try.prog Try.f5 false true false false W args v W' := by
  have hW' := hW
  obtain ⟨p, q, hA0, hV, rfl, hfz, hnd⟩ := hW
  have hA : DataW.TrodAll enc Try.prog W 0 (fun _ => true) true Try.f5.params.toList args.toList ds p := hA0
  rw [Try.params5] at hA hval
  obtain ⟨v0, vs0, d0, ds0, p0, q0, hargs, rfl, rfl, h0, r0⟩ := trodAll_cons hA
  obtain ⟨v1, vs1, d1, ds1, p1, q1, rfl, rfl, rfl, h1, r1⟩ := trodAll_cons r0
  obtain ⟨v2, vs2, d2, ds2, p2, q2, rfl, rfl, rfl, h2, r2⟩ := trodAll_cons r1
  obtain ⟨rfl, rfl, rfl⟩ := trodAll_nil r2
  obtain rfl : args = #[v0, v1, v2] := by cases args; simp_all
  obtain ⟨rfl, rfl⟩ := trodVars_none hV
  obtain ⟨a0, len0, cap0, rfl⟩ := okWide_slice Try.underlying22 (hval 0 22 v0 rfl rfl)
  have k0 := h0
  have lt0 : ∀ x ∈ p0, x.block < W.heap.size := by obtain ⟨m, hm⟩ := k0; exact DataW.trod_lt m _ _ _ hm
  obtain ⟨ps0, hl0, w0⟩ : ∃ ps : List ty.Un, ps.length = len0 ∧ ty.SrcUn none W a0 ps ∧ ty.SmUn ps := by
    obtain ⟨fuel, hf⟩ := h0
    obtain ⟨a9, c9, l9, e9, h9⟩ := ty.openUn hf
    simp [Value.cells] at e9
    obtain ⟨rfl, rfl, rfl⟩ := e9
    exact ⟨l9, rfl, h9⟩
  subst hl0
  obtain ⟨a1, len1, cap1, rfl⟩ := okWide_slice Try.underlying22 (hval 1 22 v1 rfl rfl)
  have k1 := h1
  have lt1 : ∀ x ∈ p1, x.block < W.heap.size := by obtain ⟨m, hm⟩ := k1; exact DataW.trod_lt m _ _ _ hm
  obtain ⟨ps1, hl1, w1⟩ : ∃ ps : List ty.Un, ps.length = len1 ∧ ty.SrcUn none W a1 ps ∧ ty.SmUn ps := by
    obtain ⟨fuel, hf⟩ := h1
    obtain ⟨a9, c9, l9, e9, h9⟩ := ty.openUn hf
    simp [Value.cells] at e9
    obtain ⟨rfl, rfl, rfl⟩ := e9
    exact ⟨l9, rfl, h9⟩
  subst hl1
  obtain ⟨a2, len2, cap2, rfl⟩ := okWide_slice Try.underlying24 (hval 2 24 v2 rfl rfl)
  have k2 := h2
  have lt2 : ∀ x ∈ p2, x.block < W.heap.size := by obtain ⟨m, hm⟩ := k2; exact DataW.trod_lt m _ _ _ hm
  obtain ⟨ps2, hl2, w2⟩ : ∃ ps : List ByteArray, ps.length = len2 ∧ ty.SrcS none W a2 ps ∧ ty.SmS ps := by
    obtain ⟨fuel, hf⟩ := h2
    obtain ⟨a9, c9, l9, e9, h9⟩ := ty.open_texts hf
    simp [Value.cells] at e9
    obtain ⟨rfl, rfl, rfl⟩ := e9
    exact ⟨l9, rfl, h9⟩
  subst hl2
  clear hA0
  refine (walk a0 cap0 ps0 a1 cap1 ps1 a2 cap2 ps2 W w0 w1 w2).mono fun e W' ⟨he, bel⟩ => ?_
  subst he
  exact ⟨_, rfl, _, _, _, [], _, [], hW', trodAll_mk1 (shut_bool Try.underlying4 _), (trodAll_cons_mk (Below.trod laidOut (by kernel_rfl) (of_decide_eq_true (by kernel_rfl)) k0 bel lt0) (trodAll_cons_mk (Below.trod laidOut (by kernel_rfl) (of_decide_eq_true (by kernel_rfl)) k1 bel lt1) (trodAll_cons_mk (Below.trod laidOut (by kernel_rfl) (of_decide_eq_true (by kernel_rfl)) k2 bel lt2) trodAll_mk0))), rfl, bel.frame _, fun h => by cases h⟩

set_option maxRecDepth 100000 in
theorem lifted (os : Os) (started : os.Started) (H : Type) (enc : TypeId × Value → H) :
    ReturnsInHanded {} Try.checked os 5 .any (Rows.fnExactPlanUnitsSpec.pre6 enc Try.prog Try.f5 Rows.fnExactPlanUnitsRow.domain false) (Rows.fnExactPlanUnitsSpec.post enc Try.prog Try.f5 false true false false) := by
  refine returnsInHanded_of_change (C := Try.checked) own started (by kernel_rfl) Try.func5
    (ChangeSpec.witness6 (enc := enc) (C := Try.checked) false ⟨#[], #[.slice none 0 0, .slice none 0 0, .slice none 0 0], []⟩ 8 (by kernel_rfl) (by kernel_rfl) (by kernel_rfl) (by kernel_rfl)) ?_
  intro W base args ds gs before hval hW _ _
  exact contract H enc W base args ds gs before hval hW

theorem over : Rows.fnExactPlanUnitsRow.holds Try.pinned (OpenSpec.ofChange Rows.fnExactPlanUnitsSpec) :=
  OpenClaim.holds_of_wide 5 Try.f5 rfl rfl rfl rfl rfl rfl rfl ⟨rfl, rfl, rfl, rfl, rfl⟩ rfl rfl rfl rfl rfl (by kernel_rfl) Try.func5 (by kernel_rfl)
    (of_decide_eq_true (by kernel_rfl)) (by unfold Func.isWrapper; first | (rw [if_pos (by decide +kernel)]; kernel_rfl) | (rw [if_neg (by decide +kernel)]; exact ⟨rfl, rfl⟩))
    (fun os started H enc _ => lifted os started H enc)

theorem proved : Rows.FnExactPlanUnitsSaid := over
#print axioms proved
end Go.Proofs.Ytdddplhfhpghkaa.fnExactPlanUnits
