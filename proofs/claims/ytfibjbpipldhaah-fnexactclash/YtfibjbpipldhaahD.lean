import Derived.Test.YtfibjbpipldhaahRows
import Derived.WalkKit
import Derived.ProofKit
import Derived.OpenShut
import Derived.ShutString
import Derived.ChangeOld
import Derived.Below
import Derived.OpenVars
import Derived.SliceStrings
import Derived.Test.YtfibjbpipldhaahC
namespace Go.Proofs.Ytfibjbpipldhaah.fnExactClash
open Go.ChangeShapes Go.WideShapes Go.ChangeAt Go.RowKit Go.Deep
open Go.ChangeMaps (open_string shut_string)
set_option linter.unusedVariables false

theorem own : ownKnob Try.prog.godebug = none := by kernel_rfl
theorem laidOut : laidOutB Try.prog = true := by kernel_rfl
def IsStrs (w : World) (a : Option Addr) (len cap : Nat) (zs : List ByteArray) : Prop :=
  (a = none ∧ len = 0 ∧ cap = 0 ∧ zs = []) ∨
  ∃ x, a = some x ∧ len ≤ cap ∧ cap ≤ maxLen ∧ zs.length = cap ∧ (∀ i, i < zs.length → w.cell? (x.add i) = some (.string (zs.getD i ByteArray.empty))) ∧ ∀ s ∈ zs, s.size ≤ maxLen

theorem walk (a0 : Option Addr) (len0 cap0 : Nat) (z0 : List ByteArray) (w : World) (w0 : IsStrs w a0 len0 cap0 z0) :
    Calls Try.prog 4 #[.slice a0 len0 cap0] w fun e w' => e = .returned (.bool true) ∧ Below w.heap.size w w' := by
  have hb : st.Ss w a0 len0 z0 := by
    rcases w0 with ⟨rfl, rfl, rfl, rfl⟩ | ⟨x, rfl, hl, hm, hz, hcell, hwz⟩
    · exact .inl rfl
    · rcases Nat.eq_zero_or_pos len0 with h | h
      · exact .inl h
      · obtain ⟨b, off, spot⟩ := x
        have hspot : spot = none := by simpa [Addr.add] using World.cell?_spot (hcell 0 (by omega))
        subst hspot
        exact .inr ⟨b, off, rfl, fun i hi => by have := hcell i (by omega); rw [addr_add] at this; simpa [st.atS] using this⟩
  have hm : len0 ≤ maxLen ∧ ∀ i, i < len0 → (st.atS z0 i).size ≤ maxLen := by
    rcases w0 with ⟨rfl, rfl, rfl, rfl⟩ | ⟨x, rfl, hl, hm, hz, hcell, hwz⟩
    · exact ⟨Nat.zero_le _, fun i hi => by omega⟩
    · refine ⟨by omega, fun i hi => ?_⟩
      have hi' : i < z0.length := by omega
      unfold st.atS
      rw [List.getElem?_eq_getElem hi']
      exact hwz _ (List.getElem_mem hi')
  clear w0
  go_enter Try.func4, Try.ntmps4
  go_wp2_with (go_at_call 7; refine (st.sz_any _ _ _ z0 _ hb hm.1 hm.2).mono ?_; rintro e w' ⟨r, rfl, hr, rfl⟩)
  · go_ret
    exact ⟨rfl, Below.refl _ _⟩
  have h0 : 0 ≤ r := by omega
  obtain ⟨hn, hs⟩ := hr h0
  have hN : len0 ≤ 1099511627776 := by omega
  have HS : Hid (∀ i, i < len0 → (st.atS z0 i).size ≤ 1048576) := hs
  clear hs hr
  go_wp2_with (go_at_call 9; refine (st.to_any _ _ _ z0 _ hb hN).mono ?_; rintro e w1 ⟨rfl, hr1, hl1⟩)
  have hc1 := hb.below hl1
  have hb1 := st.Ss.row hr1
  go_wp2_with (go_at_call 8; refine (ch.spec_any _ _ _ z0 _ hb1 hN).mono ?_; rintro e w2 ⟨rfl, q2, rfl⟩)
  have hl2 := Go.below_drewN hl1 q2
  have hc2 := hb.below hl2
  go_wp2_with (go_at_call 9; refine (st.to_any _ _ _ z0 _ hc2 hN).mono ?_; rintro e w3 ⟨rfl, hr3, hl3⟩)
  have hc3 := hc2.below hl3
  have hb3 := st.Ss.row hr3
  go_wp2_with (go_at_call 10; refine (ch.impl_any _ _ _ z0 _ hb3 hN HS.out).mono ?_; rintro e w4 ⟨rfl, hl4⟩)
  have hc4 := hc3.below hl4
  have hb4 := hb3.below hl4
  go_wp2_with (go_at_call 9; refine (st.to_any _ _ _ z0 _ hc4 hN).mono ?_; rintro e w5 ⟨rfl, hr5, hl5⟩)
  have hb5 := hb4.below hl5
  have hb6 := st.Ss.row hr5
  go_wp2_with (go_at_call 11; refine (st.eq_any _ _ _ _ _ z0 _ hb5 hb6 hN).mono ?_; rintro e w' ⟨rfl, q, rfl⟩)
  go_ret
  refine ⟨rfl, Go.below_drewN ?_ q⟩
  have s2 := hl2.size
  have s3 := hl3.size
  have s4 := hl4.size
  exact ((hl2.trans (hl3.mono (by omega))).trans (hl4.mono (by omega))).trans (hl5.mono (by omega))

theorem contract (H : Type) (enc : TypeId × Value → H) (W : World) (base : Nat) (args : Array Value) (ds gs : List (DataW H)) (before : List MemPlace)
    (hval : ∀ (j : Nat) t v, Try.f4.params[j]? = some t → args[j]? = some v → Value.okWide Try.prog W .any base t v)
    (hW : DataW.Whole enc Try.prog Try.f4.params.toList Rows.fnExactClashSpec.vars false W args.toList ds gs before) :
    Calls Try.prog 4 args W fun e W' => ∃ v, e = .returned v ∧ Rows.fnExactClashSpec.post enc Try.prog Try.f4 false true false false W args v W' := by
  have hW' := hW
  obtain ⟨p, q, hA0, hV, rfl, hfz, hnd⟩ := hW
  have hA : DataW.TrodAll enc Try.prog W 0 (fun _ => true) true Try.f4.params.toList args.toList ds p := hA0
  rw [Try.params4] at hA hval
  obtain ⟨v0, vs0, d0, ds0, p0, q0, hargs, rfl, rfl, h0, r0⟩ := trodAll_cons hA
  obtain ⟨rfl, rfl, rfl⟩ := trodAll_nil r0
  obtain rfl : args = #[v0] := by cases args; simp_all
  obtain ⟨rfl, rfl⟩ := trodVars_none hV
  obtain ⟨a0, len0, cap0, rfl⟩ := okWide_slice Try.underlying23 (hval 0 23 v0 rfl rfl)
  have k0 := h0
  have lt0 : ∀ x ∈ p0, x.block < W.heap.size := by obtain ⟨m, hm⟩ := k0; exact DataW.trod_lt m _ _ _ hm
  obtain ⟨z0, w0⟩ : ∃ zs, IsStrs W a0 len0 cap0 zs := by
    obtain ⟨fuel, hf⟩ := h0
    rcases open_strings Try.underlying23 Try.underlying9 (by kernel_rfl) hf with ⟨hcs, _⟩ | ⟨x, l, c, zs, hcs, _, hl, hm, hz, _, hcell, hwz⟩
    · simp [Value.cells] at hcs
      obtain ⟨rfl, rfl, rfl⟩ := hcs
      exact ⟨[], .inl ⟨rfl, rfl, rfl, rfl⟩⟩
    · simp [Value.cells] at hcs
      obtain ⟨rfl, rfl, rfl⟩ := hcs
      exact ⟨zs, .inr ⟨_, rfl, hl, hm, by simpa using hz, hcell, hwz⟩⟩
  clear hA0
  refine (walk a0 len0 cap0 z0 W w0).mono fun e W' ⟨he, bel⟩ => ?_
  subst he
  exact ⟨_, rfl, _, _, _, [], _, [], hW', trodAll_mk1 (shut_bool Try.underlying4 _), (trodAll_cons_mk (Below.trod laidOut (by kernel_rfl) (of_decide_eq_true (by kernel_rfl)) k0 bel lt0) trodAll_mk0), rfl, bel.frame _, fun h => by cases h⟩

set_option maxRecDepth 100000 in
theorem lifted (os : Os) (started : os.Started) (H : Type) (enc : TypeId × Value → H) :
    ReturnsInHanded {} Try.checked os 4 .any (Rows.fnExactClashSpec.pre6 enc Try.prog Try.f4 Rows.fnExactClashRow.domain false) (Rows.fnExactClashSpec.post enc Try.prog Try.f4 false true false false) := by
  refine returnsInHanded_of_change (C := Try.checked) own started (by kernel_rfl) Try.func4
    (ChangeSpec.witness6 (enc := enc) (C := Try.checked) false ⟨#[], #[.slice none 0 0], []⟩ 8 (by kernel_rfl) (by kernel_rfl) (by kernel_rfl) (by kernel_rfl)) ?_
  intro W base args ds gs before hval hW _ _
  exact contract H enc W base args ds gs before hval hW

theorem over : Rows.fnExactClashRow.holds Try.pinned (OpenSpec.ofChange Rows.fnExactClashSpec) :=
  OpenClaim.holds_of_wide 4 Try.f4 rfl rfl rfl rfl rfl rfl rfl ⟨rfl, rfl, rfl, rfl, rfl⟩ rfl rfl rfl rfl rfl (by kernel_rfl) Try.func4 (by kernel_rfl)
    (of_decide_eq_true (by kernel_rfl)) (by unfold Func.isWrapper; first | (rw [if_pos (by decide +kernel)]; kernel_rfl) | (rw [if_neg (by decide +kernel)]; exact ⟨rfl, rfl⟩))
    (fun os started H enc _ => lifted os started H enc)

theorem proved : Rows.FnExactClashSaid := over
#print axioms proved
end Go.Proofs.Ytfibjbpipldhaah.fnExactClash
