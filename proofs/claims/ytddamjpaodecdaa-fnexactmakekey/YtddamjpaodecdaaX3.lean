import Derived.Test.YtddamjpaodecdaaRows
import Derived.WalkKit
import Derived.Lib.Hide
import Derived.ProofKit
import Derived.OpenShut
import Derived.ShutString
import Derived.ChangeOld
import Derived.Below
import Derived.OpenVars
import Derived.SliceStrings
import Derived.Test.YtddamjpaodecdaaSL
import Derived.Test.YtddamjpaodecdaaSK
import Derived.Test.YtddamjpaodecdaaSE
namespace Go.Proofs.Ytddamjpaodecdaa.fnExactMakeKey
open Go.ChangeShapes Go.WideShapes Go.ChangeAt Go.RowKit Go.Deep
open Go.ChangeMaps (open_string shut_string)
set_option linter.unusedVariables false

theorem own : ownKnob Try.prog.godebug = none := by kernel_rfl
theorem laidOut : laidOutB Try.prog = true := by kernel_rfl

theorem walk (a0 : Int) (a1 : Int) (a2 : Int) (w : World) (w0 : (Lit.int .u64 a0).wf = true) (w1 : (Lit.int .u64 a1).wf = true) (w2 : (Lit.int .u64 a2).wf = true) :
    Calls Try.prog 4 #[.int .u64 a0, .int .u64 a1, .int .u64 a2] w fun e w' => e = .returned (.bool true) ∧ Below w.heap.size w w' := by
  obtain ⟨p, rfl, hp⟩ := sg.u64_nat w0
  obtain ⟨q, rfl, hq⟩ := sg.u64_nat w1
  obtain ⟨e, rfl, he⟩ := sg.u64_nat w2
  have c1 := fun w => sg.smake_any p q e hp hq he w
  have c2 := fun w => sg.imake_any p q e hp hq he w
  have hB := Below.refl w.heap.size w
  clear w0 w1 w2 hp hq he
  go_enter Try.func4, Try.ntmps4
  go_wp2_with (first
    | (go_at_call 10; refine (c1 _).mono ?_; rintro en w1 ⟨rfl, hb1⟩; refine Hid.out ?_)
    | go_in)
  refine Lib.hid ?_
  have B1 : Below w.heap.size w (w1.alloc (.cells #[.int .u64 ((sg.kN p q e : Nat) : Int), .int .u64 ((sg.kE p q e : Nat) : Int), .int .u64 ((sg.kD p q e : Nat) : Int)] 25)) := hb1.alloc hb1.size _
  go_wp2_with (first
    | (go_at_call 11; refine (c2 _).mono ?_; rintro en w2 ⟨rfl, hb2⟩; refine Hid.out ?_)
    | go_in)
  refine Lib.hid ?_
  have B2 := B1.trans (hb2.mono B1.size)
  have hlt : w1.heap.size < w2.heap.size := by have := hb2.size; simp at this; omega
  have K : ∀ j v, (w1.alloc (.cells #[.int .u64 ((sg.kN p q e : Nat) : Int), .int .u64 ((sg.kE p q e : Nat) : Int), .int .u64 ((sg.kD p q e : Nat) : Int)] 25)).cell? ⟨w1.heap.size, j, none⟩ = some v → ∀ o, (w2.alloc o).cell? ⟨w1.heap.size, j, none⟩ = some v := fun j v h o => by
    rw [(bcell ((Below.refl w2.heap.size w2).alloc (Nat.le_refl _) o)).1 _ j hlt, (bcell hb2).1 w1.heap.size j (by simp)]
    exact h
  have k0 := K 0 (.int .u64 ((sg.kN p q e : Nat) : Int)) (by simp)
  have k1 := K 1 (.int .u64 ((sg.kE p q e : Nat) : Int)) (by simp)
  have k2 := K 2 (.int .u64 ((sg.kD p q e : Nat) : Int)) (by simp)
  have B3 := fun o => B2.alloc B2.size o
  clear K hlt hb2 hb1 c1 c2 hB
  go_wp2_with (first
    | (go_at_call 12; refine (sg.eqKey_any _ _ _ _).mono ?_; rintro en w3 ⟨rfl, hb3⟩; have B4 := (B3 _).trans (hb3.mono (B3 _).size); clear hb3)
    | go_in)
  go_ret
  exact ⟨rfl, B4⟩

set_option maxRecDepth 100000 in
theorem contract (H : Type) (enc : TypeId × Value → H) (W : World) (base : Nat) (args : Array Value) (ds gs : List (DataW H)) (before : List MemPlace)
    (hval : ∀ (j : Nat) t v, Try.f4.params[j]? = some t → args[j]? = some v → Value.okWide Try.prog W .any base t v)
    (hW : DataW.Whole enc Try.prog Try.f4.params.toList Rows.fnExactMakeKeySpec.vars false W args.toList ds gs before) :
    Calls Try.prog 4 args W fun e W' => ∃ v, e = .returned v ∧ Rows.fnExactMakeKeySpec.post enc Try.prog Try.f4 false true false false W args v W' := by
  have hW' := hW
  obtain ⟨p, q, hA0, hV, rfl, hfz, hnd⟩ := hW
  have hA : DataW.TrodAll enc Try.prog W 0 (fun _ => true) true Try.f4.params.toList args.toList ds p := hA0
  rw [Try.params4] at hA hval
  obtain ⟨v0, vs0, d0, ds0, p0, q0, hargs, rfl, rfl, h0, r0⟩ := trodAll_cons hA
  obtain ⟨v1, vs1, d1, ds1, p1, q1, rfl, rfl, rfl, h1, r1⟩ := trodAll_cons r0
  obtain ⟨v2, vs2, d2, ds2, p2, q2, rfl, rfl, rfl, h2, r2⟩ := trodAll_cons r1
  obtain ⟨rfl, rfl, rfl⟩ := trodAll_nil r2
  obtain rfl : args = #[v0, v1, v2] := by cases args; simp_all
  obtain ⟨rfl, rfl⟩ := trodVars_none hV
  obtain ⟨a0, rfl, rfl, rfl, w0⟩ := open_int Try.underlying22 (hval 0 22 v0 rfl rfl) h0
  obtain ⟨a1, rfl, rfl, rfl, w1⟩ := open_int Try.underlying22 (hval 1 22 v1 rfl rfl) h1
  obtain ⟨a2, rfl, rfl, rfl, w2⟩ := open_int Try.underlying22 (hval 2 22 v2 rfl rfl) h2
  clear hA0
  refine (walk a0 a1 a2 W w0 w1 w2).mono fun e W' ⟨he, bel⟩ => ?_
  subst he
  exact ⟨_, rfl, _, _, _, [], _, [], hW', trodAll_mk1 (shut_bool Try.underlying4 _), (trodAll_cons_mk (shut_int Try.underlying22 w0) (trodAll_cons_mk (shut_int Try.underlying22 w1) (trodAll_cons_mk (shut_int Try.underlying22 w2) trodAll_mk0))), rfl, bel.frame _, fun h => by cases h⟩

set_option maxRecDepth 100000 in
theorem lifted (os : Os) (started : os.Started) (H : Type) (enc : TypeId × Value → H) :
    ReturnsInHanded {} Try.checked os 4 .any (Rows.fnExactMakeKeySpec.pre6 enc Try.prog Try.f4 Rows.fnExactMakeKeyRow.domain false) (Rows.fnExactMakeKeySpec.post enc Try.prog Try.f4 false true false false) := by
  refine returnsInHanded_of_change (C := Try.checked) own started (by kernel_rfl) Try.func4
    (ChangeSpec.witness6 (enc := enc) (C := Try.checked) false ⟨#[], #[.int .u64 0, .int .u64 0, .int .u64 0], []⟩ 8 (by kernel_rfl) (by kernel_rfl) (by kernel_rfl) (by kernel_rfl)) ?_
  intro W base args ds gs before hval hW _ _
  exact contract H enc W base args ds gs before hval hW

theorem over : Rows.fnExactMakeKeyRow.holds Try.pinned (OpenSpec.ofChange Rows.fnExactMakeKeySpec) :=
  OpenClaim.holds_of_wide 4 Try.f4 rfl rfl rfl rfl rfl rfl rfl ⟨rfl, rfl, rfl, rfl, rfl⟩ rfl rfl rfl rfl rfl (by kernel_rfl) Try.func4 (by kernel_rfl)
    (of_decide_eq_true (by kernel_rfl)) (by unfold Func.isWrapper; first | (rw [if_pos (by decide +kernel)]; kernel_rfl) | (rw [if_neg (by decide +kernel)]; exact ⟨rfl, rfl⟩))
    (fun os started H enc _ => lifted os started H enc)

theorem proved : Rows.FnExactMakeKeySaid := over
#print axioms proved
end Go.Proofs.Ytddamjpaodecdaa.fnExactMakeKey
