import Derived.Test.YtklgeahgaeodiaaDoorCards
import Derived.Test.YtklgeahgaeodiaaDoorTie
import Derived.WalkKit
import Derived.ProofKit
import Derived.OpenShut
import Derived.ShutString
import Derived.ChangeOld
import Derived.Below
import Derived.OpenVars
import Derived.SliceStrings
import Derived.Deep.DeepHandedRow
import Derived.Lib.LaidTab
import Derived.Test.YtklgeahgaeodiaaDoorRY1
namespace Go.Proofs.YtklgeahgaeodiaaDoor.fnExactReadCond
open Go.ChangeShapes Go.WideShapes Go.ChangeAt Go.RowKit Go.Deep
open Go.ChangeMaps (open_string shut_string)
set_option linter.unusedVariables false

theorem own : ownKnob Tryd.prog.godebug = none := by kernel_rfl
theorem laidOut : laidOutB Tryd.prog = true := by kernel_rfl

theorem walk (a0 : ByteArray) (w : World) (w0 : a0.size ≤ maxLen) :
    Calls Tryd.prog 3 #[.string a0] w fun e w' => e = .returned (.bool true) ∧ Below w.heap.size w w' := by
  by_cases hn : a0.size ≤ 1048576
  · have hn' : ¬ (1048576 : Int) < (a0.size : Int) := by omega
    have HSM := Lib.hid (cr.rcL_small a0)
    obtain ⟨l, hl⟩ : ∃ l, cr.rcL a0 = l := ⟨_, rfl⟩
    obtain ⟨b, hb⟩ : ∃ b, cr.rcK a0 = b := ⟨_, rfl⟩
    have HRR : Hid (∀ W W' e, cr.RcR a0 W W' e → ∃ g c, e = .returned (.tuple #[.slice (some ⟨g, 0, none⟩) l.length c, .bool b]) ∧ cr.OC W.heap.size W' (.slice (some ⟨g, 0, none⟩) l.length c) l) := fun W W' e h => by
      rw [← hl, ← hb]; exact h
    rw [hl] at HSM
    obtain ⟨n, hnl⟩ : ∃ n, l.length = n := ⟨_, rfl⟩
    have HNL := Lib.hid hnl
    rw [hnl] at HRR HSM
    have hnn : n ≤ 10000 := HSM.out
    have HEQ : Hid (∀ (g1 c1 g2 c2 : Nat) (W : World), cr.CX W g1 l → cr.CX W g2 l → Calls Tryd.prog 6 #[.slice (some ⟨g1, 0, none⟩) n c1, .slice (some ⟨g2, 0, none⟩) n c2] W fun e w' => e = .returned (.bool true) ∧ Below W.heap.size W w') := fun g1 c1 g2 c2 W h1 h2 => by
      have := cr.eqS_any g1 c1 g2 c2 l W h1 h2 (by rw [HNL.out]; omega)
      rw [HNL.out] at this
      exact this
    obtain ⟨M, hM⟩ : ∃ M : Nat, 1 + 3 * n = M := ⟨_, rfl⟩
    have hMb : M ≤ 100001 := by omega
    have hM0 : ¬ (M : Int) < 0 := by omega
    have HMK : Hid (∀ (B g c : Nat) (W : World), cr.OC B W (.slice (some ⟨g, 0, none⟩) n c) l → Calls Tryd.prog 7 #[.slice (some ⟨g, 0, none⟩) n c, .int .i64 1] W fun e w' => e = .returned (.int .i64 (M : Int)) ∧ cr.CX w' g (cr.mkC 1 l) ∧ W.grownBy w' (some g)) := fun B g c W h => by
      rw [← HNL.out] at h
      have := cr.markC_any B g c 1 l W h (by omega) (by rw [HNL.out]; omega)
      rw [HNL.out, hM] at this
      refine this.mono ?_
      rintro e w' ⟨rfl, h2, h3⟩
      refine ⟨rfl, ?_, h3⟩
      have e1 : n = (cr.mkC 1 l).length := by rw [cr.mkC_len, HNL.out]
      rw [e1] at h2
      exact h2.cx
    have HHD : Hid (∀ (g c : Nat) (W : World), cr.CX W g (cr.mkC 1 l) → Calls Tryd.prog 8 #[.slice (some ⟨g, 0, none⟩) n c, .int .i64 1] W fun e w' => e = .returned (.int .i64 (M : Int)) ∧ Below W.heap.size W w') := fun g c W h => by
      have := cr.heldC_any g c 1 l W h (by omega) (by rw [HNL.out]; omega)
      rw [HNL.out, hM] at this
      exact this
    have HCX : Hid (∀ (B g c : Nat) (W : World), cr.OC B W (.slice (some ⟨g, 0, none⟩) n c) l → cr.CX W g l) := fun B g c W h => by
      rw [← HNL.out] at h
      exact h.cx
    have HSP : Hid (∀ W, Calls Tryd.prog 4 #[.string a0] W fun e w' => cr.RcR a0 W w' e ∧ Below W.heap.size W w') := fun W => cr.sread_any a0 W hn
    have HIP : Hid (∀ W, Calls Tryd.prog 5 #[.string a0] W fun e w' => cr.RcR a0 W w' e ∧ Below W.heap.size W w') := fun W => cr.iread_any a0 W hn
    clear hl hb hnl hM HSM HNL
    go_enter Tryd.func3, Tryd.ntmps3
    go_wp2_with (go_at_call 4; refine (HSP.out _).mono ?_; rintro e w1 ⟨hr, hl1⟩; obtain ⟨g1, c1, rfl, ho1⟩ := HRR.out _ _ _ hr; clear hr; refine Hid.out ?_)
    refine Lib.hid ?_
    have HQ1 := Lib.hid (HCX.out _ _ _ _ ho1)
    have HL1 := Lib.hid hl1
    clear ho1 hl1
    go_wp2_with (go_at_call 5; refine (HIP.out _).mono ?_; rintro e w2 ⟨hr, hl2⟩; obtain ⟨g2, c2, rfl, ho2⟩ := HRR.out _ _ _ hr; clear hr; refine Hid.out ?_)
    refine Lib.hid ?_
    have HB2 : Hid (Below w.heap.size w w2) := HL1.out.trans (hl2.mono HL1.out.size)
    have HE2 := Lib.hid (HEQ.out g2 c2 g1 c1 w2 (HCX.out _ _ _ _ ho2) (HQ1.out.below hl2))
    have HO2 := Lib.hid ho2
    have HL2 := Lib.hid hl2
    clear ho2 hl2
    go_wp2_with (go_at_call 6; refine HE2.out.mono ?_; rintro e w3 ⟨rfl, hl3⟩; refine Hid.out ?_)
    refine Lib.hid ?_
    have HO3 := Lib.hid (HO2.out.below hl3)
    have HB3 : Hid (Below w.heap.size w w3) := HB2.out.trans (hl3.mono HB2.out.size)
    have HC3 : Hid (Below w1.heap.size w1 w3) := HL2.out.trans (hl3.mono HL2.out.size)
    have hg2 := (World.ownsRow.lt HO3.out g2 rfl).1
    have HMC := Lib.hid (HMK.out _ _ _ w3 HO3.out)
    clear hl3 HE2 HO2 HO3 HL2
    go_wp2_with (go_at_call 7; refine HMC.out.mono ?_; rintro e w4 ⟨rfl, hx4, hg4⟩; refine Hid.out ?_)
    refine Lib.hid ?_
    have HC4 : Hid (Below w1.heap.size w1 w4) := HC3.out.grown hg4 HC3.out.size (fun k hk => by cases hk; exact hg2)
    have HB4 : Hid (Below w.heap.size w w4) := HB3.out.grown hg4 HB3.out.size (fun k hk => by cases hk; have := HL1.out.size; omega)
    have HX4 := Lib.hid hx4
    have HH4 := Lib.hid (HHD.out g2 c2 w4 hx4)
    clear hx4 hg4 HMC
    go_wp2_with (go_at_call 8; refine HH4.out.mono ?_; rintro e w5 ⟨rfl, hl5⟩; refine Hid.out ?_)
    refine Lib.hid ?_
    have HC5 : Hid (Below w1.heap.size w1 w5) := HC4.out.trans (hl5.mono HC4.out.size)
    have HB5 : Hid (Below w.heap.size w w5) := HB4.out.trans (hl5.mono HB4.out.size)
    have HX5 := Lib.hid (HX4.out.below hl5)
    clear hl5 HH4
    go_wp2_with (go_at_call 5; refine (HIP.out _).mono ?_; rintro e w6 ⟨hr, hl6⟩; obtain ⟨g6, c6, rfl, ho6⟩ := HRR.out _ _ _ hr; clear hr; refine Hid.out ?_)
    refine Lib.hid ?_
    have HC6 : Hid (Below w1.heap.size w1 w6) := HC5.out.trans (hl6.mono HC5.out.size)
    have HB6 : Hid (Below w.heap.size w w6) := HB5.out.trans (hl6.mono HB5.out.size)
    have HX6 := Lib.hid (HX5.out.below hl6)
    have HE6 := Lib.hid (HEQ.out g6 c6 g1 c1 w6 (HCX.out _ _ _ _ ho6) (HQ1.out.below HC6.out))
    clear hl6 ho6
    go_wp2_with (go_at_call 6; refine HE6.out.mono ?_; rintro e w7 ⟨rfl, hl7⟩; refine Hid.out ?_)
    refine Lib.hid ?_
    have HB7 : Hid (Below w.heap.size w w7) := HB6.out.trans (hl7.mono HB6.out.size)
    have HH7 := Lib.hid (HHD.out g2 c2 w7 (HX6.out.below hl7))
    clear hl7 HE6
    go_wp2_with (go_at_call 8; refine HH7.out.mono ?_; rintro e w8 ⟨rfl, hl8⟩; refine Hid.out ?_)
    refine Lib.hid ?_
    have HB8 : Hid (Below w.heap.size w w8) := HB7.out.trans (hl8.mono HB7.out.size)
    clear hl8 HH7
    go_wp2
    go_ret
    exact ⟨rfl, HB8.out⟩
  · have hn' : (1048576 : Int) < (a0.size : Int) := by omega
    go_enter Tryd.func3, Tryd.ntmps3
    go_wp2
    go_ret
    exact ⟨rfl, Below.refl _ _⟩

set_option maxRecDepth 100000 in
theorem contract (H : Type) (enc : TypeId × Value → H) (W : World) (base : Nat) (args : Array Value) (ds gs : List (DataW H)) (before : List MemPlace)
    (hval : ∀ (j : Nat) t v, Tryd.f3.params[j]? = some t → args[j]? = some v → Value.okWide Tryd.prog W .any base t v)
    (hW : DataW.Whole enc Tryd.prog Tryd.f3.params.toList Rows.fnExactReadCondSpec.vars false W args.toList ds gs before) (hL : laidMetH Tryd.prog Rows.fnExactReadCondRow.laid W) :
    Calls Tryd.prog 3 args W fun e W' => ∃ v, e = .returned v ∧ Rows.fnExactReadCondSpec.post enc Tryd.prog Tryd.f3 false true false false W args v W' := by
  have hW' := hW
  obtain ⟨p, q, hA0, hV, rfl, hfz, hnd⟩ := hW
  have hA : DataW.TrodAll enc Tryd.prog W 0 (fun _ => true) true Tryd.f3.params.toList args.toList ds p := hA0
  rw [Tryd.params3] at hA hval
  obtain ⟨v0, vs0, d0, ds0, p0, q0, hargs, rfl, rfl, h0, r0⟩ := trodAll_cons hA
  obtain ⟨rfl, rfl, rfl⟩ := trodAll_nil r0
  obtain rfl : args = #[v0] := by cases args; simp_all
  obtain ⟨rfl, rfl⟩ := trodVars_none hV
  obtain ⟨a0, rfl, rfl, rfl, w0⟩ := open_string Tryd.underlying9 (hval 0 9 v0 rfl rfl) h0
  clear hA0
  refine (walk a0 W w0).mono fun e W' ⟨he, bel⟩ => ?_
  subst he
  exact ⟨_, rfl, _, _, _, [], _, [], hW', trodAll_mk1 (shut_bool Tryd.underlying4 _), (trodAll_cons_mk (shut_string Tryd.underlying9 w0) trodAll_mk0), rfl, bel.frame _, fun h => by cases h⟩

set_option maxRecDepth 100000 in
theorem laid_met (os : Os) : laidMet Tryd.prog Rows.fnExactReadCondRow.laid (({ World.holding Tryd.prog os ⟨#[], #[], []⟩ with heap := (((World.holding Tryd.prog os ⟨#[], #[], []⟩).heap.modify 1 fun | .cells _ t frozen => .cells #[.int .u8 128, .int .u8 191, .int .u8 160, .int .u8 191, .int .u8 128, .int .u8 159, .int .u8 144, .int .u8 191, .int .u8 128, .int .u8 143, .int .u8 0, .int .u8 0, .int .u8 0, .int .u8 0, .int .u8 0, .int .u8 0, .int .u8 0, .int .u8 0, .int .u8 0, .int .u8 0, .int .u8 0, .int .u8 0, .int .u8 0, .int .u8 0, .int .u8 0, .int .u8 0, .int .u8 0, .int .u8 0, .int .u8 0, .int .u8 0, .int .u8 0, .int .u8 0] t frozen | o => o).modify 0 fun | .cells _ t frozen => .cells (Go.Pinned.utf8FirstZ.map fun (z : Nat) => Value.int .u8 (z : Int)).toArray t frozen | o => o) } : World).forCall (fun _ _ => 0) ⟨#[], #[.string ByteArray.empty], []⟩).memory :=
  laidMet_of_run' 8 (by kernel_rfl) (by kernel_rfl)
set_option maxRecDepth 100000 in
theorem reads (os : Os) {H : Type} (enc : TypeId × Value → H) : ∃ places, DataW.whole enc Tryd.prog (({ World.holding Tryd.prog os ⟨#[], #[], []⟩ with heap := (((World.holding Tryd.prog os ⟨#[], #[], []⟩).heap.modify 1 fun | .cells _ t frozen => .cells #[.int .u8 128, .int .u8 191, .int .u8 160, .int .u8 191, .int .u8 128, .int .u8 159, .int .u8 144, .int .u8 191, .int .u8 128, .int .u8 143, .int .u8 0, .int .u8 0, .int .u8 0, .int .u8 0, .int .u8 0, .int .u8 0, .int .u8 0, .int .u8 0, .int .u8 0, .int .u8 0, .int .u8 0, .int .u8 0, .int .u8 0, .int .u8 0, .int .u8 0, .int .u8 0, .int .u8 0, .int .u8 0, .int .u8 0, .int .u8 0, .int .u8 0, .int .u8 0] t frozen | o => o).modify 0 fun | .cells _ t frozen => .cells (Go.Pinned.utf8FirstZ.map fun (z : Nat) => Value.int .u8 (z : Int)).toArray t frozen | o => o) } : World).forCall (fun _ _ => 0) ⟨#[], #[.string ByteArray.empty], []⟩).memory Tryd.f3.params.toList Rows.fnExactReadCondSpec.vars false (#[.string ByteArray.empty] : Array Value).toList 8 = some ([.lit (.string [])], [], places) := by
  have h : (DataW.whole enc Tryd.prog (({ World.holding Tryd.prog os ⟨#[], #[], []⟩ with heap := (((World.holding Tryd.prog os ⟨#[], #[], []⟩).heap.modify 1 fun | .cells _ t frozen => .cells #[.int .u8 128, .int .u8 191, .int .u8 160, .int .u8 191, .int .u8 128, .int .u8 159, .int .u8 144, .int .u8 191, .int .u8 128, .int .u8 143, .int .u8 0, .int .u8 0, .int .u8 0, .int .u8 0, .int .u8 0, .int .u8 0, .int .u8 0, .int .u8 0, .int .u8 0, .int .u8 0, .int .u8 0, .int .u8 0, .int .u8 0, .int .u8 0, .int .u8 0, .int .u8 0, .int .u8 0, .int .u8 0, .int .u8 0, .int .u8 0, .int .u8 0, .int .u8 0] t frozen | o => o).modify 0 fun | .cells _ t frozen => .cells (Go.Pinned.utf8FirstZ.map fun (z : Nat) => Value.int .u8 (z : Int)).toArray t frozen | o => o) } : World).forCall (fun _ _ => 0) ⟨#[], #[.string ByteArray.empty], []⟩).memory Tryd.f3.params.toList Rows.fnExactReadCondSpec.vars false (#[.string ByteArray.empty] : Array Value).toList 8).map (fun x => (x.1, x.2.1)) = some ([.lit (.string [])], []) := by kernel_rfl
  obtain ⟨⟨x, y, z⟩, hx, he⟩ := Option.map_eq_some_iff.1 h
  simp only [Prod.mk.injEq] at he
  obtain ⟨rfl, rfl⟩ := he
  exact ⟨z, hx⟩

set_option maxRecDepth 100000 in
theorem lifted (os : Os) (started : os.Started) (H : Type) (enc : TypeId × Value → H) (F : Stop.Interp) :
    ReturnsInHanded {} Tryd.checked os 3 .any ((OpenSpec.ofChange Rows.fnExactReadCondSpec).preRow enc Tryd.prog Tryd.f3 Rows.fnExactReadCondRow.domain false Rows.fnExactReadCondRow.laid) (((OpenSpec.ofChange Rows.fnExactReadCondSpec).at F).post enc Tryd.prog Tryd.f3 false true false false) := by
  obtain ⟨places, hx⟩ := reads os enc
  refine returnsInHanded_of_row (C := Tryd.checked) (s := OpenSpec.ofChange Rows.fnExactReadCondSpec) own started (by kernel_rfl) Tryd.func3
    (witness_row_at (enc := enc) (C := Tryd.checked) false ({ World.holding Tryd.prog os ⟨#[], #[], []⟩ with heap := (((World.holding Tryd.prog os ⟨#[], #[], []⟩).heap.modify 1 fun | .cells _ t frozen => .cells #[.int .u8 128, .int .u8 191, .int .u8 160, .int .u8 191, .int .u8 128, .int .u8 159, .int .u8 144, .int .u8 191, .int .u8 128, .int .u8 143, .int .u8 0, .int .u8 0, .int .u8 0, .int .u8 0, .int .u8 0, .int .u8 0, .int .u8 0, .int .u8 0, .int .u8 0, .int .u8 0, .int .u8 0, .int .u8 0, .int .u8 0, .int .u8 0, .int .u8 0, .int .u8 0, .int .u8 0, .int .u8 0, .int .u8 0, .int .u8 0, .int .u8 0, .int .u8 0] t frozen | o => o).modify 0 fun | .cells _ t frozen => .cells (Go.Pinned.utf8FirstZ.map fun (z : Nat) => Value.int .u8 (z : Int)).toArray t frozen | o => o) } : World) #[.string ByteArray.empty] rfl (by kernel_rfl) (by kernel_rfl) (by kernel_rfl)
      (OpenSpec.preRow_of_cond 8 hx (by kernel_rfl) (fun k hk => by cases hk) (by kernel_rfl) (laid_met os))) ?_
  intro W base args ds gs before hval hW _ _ _ hL _ _
  exact contract H enc W base args ds gs before hval hW hL

theorem said : Rows.FnExactReadCondSaid :=
  OpenClaim.holds_of_cond 3 Tryd.f3 rfl rfl rfl rfl rfl rfl rfl ⟨rfl, rfl, rfl, rfl, rfl⟩ rfl rfl rfl rfl rfl (by kernel_rfl) Tryd.func3 (by kernel_rfl)
    (of_decide_eq_true (by kernel_rfl)) (by unfold Func.isWrapper; first | (rw [if_pos (by decide +kernel)]; kernel_rfl) | (rw [if_neg (by decide +kernel)]; exact ⟨rfl, rfl⟩))
    (fun os started H enc _ F => by rw [OpenClaim.pre_eq_preRow]; exact lifted os started H enc F)

theorem plain (f : FuncId) (fn : Func) (hf : Tryd.pinned.checked.prog.funcNamed "loop.example/g00023/laws.FnExactReadCond" = some f) (hfn : Tryd.pinned.checked.prog.funcs[f]? = some fn) :
    false = Tryd.pinned.checked.prog.looks [] ∧ ∀ (j : Nat) t, fn.params[j]? = some t → Tryd.pinned.checked.prog.wantsStandIn t = false := by
  obtain rfl : f = 3 := Option.some.inj ((show Tryd.prog.funcNamed "loop.example/g00023/laws.FnExactReadCond" = some 3 by kernel_rfl).symm.trans hf) |>.symm
  obtain rfl : fn = Tryd.f3 := (Option.some.inj (Tryd.func3.symm.trans hfn)).symm
  refine ⟨by kernel_rfl, fun j t ht => ?_⟩
  rw [Tryd.params3] at ht
  have hm := Array.mem_of_getElem? ht
  simp only [List.mem_toArray, List.mem_cons, List.not_mem_nil, or_false] at hm
  subst hm
  exact (show Tryd.prog.wantsStandIn 9 = false by kernel_rfl)

theorem card : Rows.FnExactReadCondCardSaid :=
  Claim7.holds_tied_plain_at .later [] _ _ _ _ said (fun _ h => by cases h) (by kernel_rfl) (fun _ h => by cases h) fnExactReadCond_row_tie rfl ⟨rfl, rfl⟩ (by kernel_rfl) rfl plain (by kernel_rfl)
#print axioms card
end Go.Proofs.YtklgeahgaeodiaaDoor.fnExactReadCond
