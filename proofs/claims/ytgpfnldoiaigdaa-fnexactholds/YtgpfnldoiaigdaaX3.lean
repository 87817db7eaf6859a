import Derived.Test.YtgpfnldoiaigdaaRows
import Derived.WalkKit
import Derived.ProofKit
import Derived.OpenShut
import Derived.ShutString
import Derived.ChangeOld
import Derived.Below
import Derived.OpenVars
import Derived.SliceStrings
import Derived.Test.YtgpfnldoiaigdaaCI
import Derived.Test.YtgpfnldoiaigdaaCO
import Derived.Test.YtgpfnldoiaigdaaST
namespace Go.Proofs.Ytgpfnldoiaigdaa.fnExactHolds
open Go.ChangeShapes Go.WideShapes Go.ChangeAt Go.RowKit Go.Deep
open Go.ChangeMaps (open_string shut_string)
set_option linter.unusedVariables false

theorem own : ownKnob Try.prog.godebug = none := by kernel_rfl
theorem laidOut : laidOutB Try.prog = true := by kernel_rfl
def IsStrs (w : World) (a : Option Addr) (len cap : Nat) (zs : List ByteArray) : Prop :=
  (a = none ∧ len = 0 ∧ cap = 0 ∧ zs = []) ∨
  ∃ x, a = some x ∧ len ≤ cap ∧ cap ≤ maxLen ∧ zs.length = cap ∧ (∀ i, i < zs.length → w.cell? (x.add i) = some (.string (zs.getD i ByteArray.empty))) ∧ ∀ s ∈ zs, s.size ≤ maxLen

theorem walk (a0 : Option Addr) (len0 cap0 : Nat) (E0 : Nat → cd.Cn) (a1 : Option Addr) (len1 cap1 : Nat) (z1 : List ByteArray) (w : World) (w0 : cd.SrcB w a0 len0 E0 ∧ len0 ≤ maxLen ∧ ∀ i, i < len0 → (E0 i).name.size ≤ maxLen) (w1 : IsStrs w a1 len1 cap1 z1) :
    Calls Try.prog 3 #[.slice a0 len0 cap0, .slice a1 len1 cap1] w fun e w' => e = .returned (.bool true) ∧ Below w.heap.size w w' := by
  obtain ⟨hb, hn0, hs0⟩ := w0
  have hf : st.Ss w a1 len1 z1 := by
    rcases w1 with ⟨rfl, rfl, rfl, rfl⟩ | ⟨x, rfl, hl, hm, hz, hcell, hwz⟩
    · exact .inl rfl
    · rcases Nat.eq_zero_or_pos len1 with h | h
      · exact .inl h
      · obtain ⟨b, off, spot⟩ := x
        have hspot : spot = none := by simpa [Addr.add] using World.cell?_spot (hcell 0 (by omega))
        subst hspot
        exact .inr ⟨b, off, rfl, fun i hi => by have := hcell i (by omega); rw [addr_add] at this; simpa [st.atS] using this⟩
  have hm : len1 ≤ maxLen ∧ ∀ i, i < len1 → (st.atS z1 i).size ≤ maxLen := by
    rcases w1 with ⟨rfl, rfl, rfl, rfl⟩ | ⟨x, rfl, hl, hm, hz, hcell, hwz⟩
    · exact ⟨Nat.zero_le _, fun i hi => by omega⟩
    · refine ⟨by omega, fun i hi => ?_⟩
      have hi' : i < z1.length := by omega
      unfold st.atS
      rw [List.getElem?_eq_getElem hi']
      exact hwz _ (List.getElem_mem hi')
  clear w1
  go_enter Try.func3, Try.ntmps3
  go_wp2_with (go_at_call 4; refine (cd.szS_any _ _ _ E0 _ hb hn0 hs0).mono ?_; rintro e w1 ⟨r, rfl, hr0, hr, hl1⟩)
  · go_ret
    exact ⟨rfl, hl1⟩
  have hrp : 0 ≤ r := by omega
  obtain ⟨hn, hs⟩ := hr hrp
  have hb1 := hb.below hl1
  have hf1 := hf.below hl1
  have s1 := hl1.size
  go_wp2_with (go_at_call 5; refine (cd.szL_any _ _ _ z1 r hrp hr0 _ hf1 hm.1 hm.2).mono ?_; rintro e w1 ⟨r2, rfl, hr2, rfl⟩)
  · go_ret
    exact ⟨rfl, hl1⟩
  have hrp2 : 0 ≤ r2 := by omega
  obtain ⟨hfn, hfs⟩ := hr2 hrp2
  have hN : len1 ≤ 1099511627776 := by omega
  have HFS : Hid (∀ i, i < len1 → (st.atS z1 i).size ≤ 1048576) := hfs
  clear hfs hr2 hr
  go_wp2_with (go_at_call 7; refine (cd.toS_any _ _ _ E0 _ hb1 hn).mono ?_; rintro e w2 ⟨rfl, hr2, hl2⟩)
  have s2 := hl2.size
  have hf2 := hf1.below hl2
  go_wp2_with (go_at_call 8; refine (st.to_any _ _ _ z1 _ hf2 hN).mono ?_; rintro e w3 ⟨rfl, hr3, hl3⟩)
  have B3 : Below w1.heap.size w1 w3 := hl2.trans (hl3.mono s2)
  go_wp2_with (go_at_call 6; refine (cd.sholds_any E0 _ _ _ ⟨Nat.le_refl _, by omega⟩ hn hs z1 _ _ _ hfn _ ((cd.XsB.row hr2).below hl3) (st.Ss.row hr3)).mono ?_; rintro e w4 ⟨rfl, hl4⟩)
  have B4 : Below w1.heap.size w1 w4 := B3.trans (hl4.mono B3.size)
  have hb4 := hb1.below B4
  go_wp2_with (go_at_call 7; refine (cd.toS_any _ _ _ E0 _ hb4 hn).mono ?_; rintro e w5 ⟨rfl, hr5, hl5⟩)
  have B5 : Below w1.heap.size w1 w5 := B4.trans (hl5.mono B4.size)
  have hf5 := hf1.below B5
  go_wp2_with (go_at_call 8; refine (st.to_any _ _ _ z1 _ hf5 hN).mono ?_; rintro e w6 ⟨rfl, hr6, hl6⟩)
  have B6 : Below w1.heap.size w1 w6 := B5.trans (hl6.mono B5.size)
  have hX6 := (cd.XsB.row hr5).below hl6
  have hF6 := st.Ss.row hr6
  go_wp2_with (go_at_call 9; refine (cd.iholds_any E0 _ _ _ ⟨Nat.le_refl _, by omega⟩ hn hs z1 _ _ _ hfn HFS.out _ hX6 hF6).mono ?_; rintro e w7 ⟨rfl, hl7⟩)
  have B7 : Below w1.heap.size w1 w7 := B6.trans (hl7.mono B6.size)
  have hb7 := hb1.below B7
  have hX7 := hX6.below hl7
  have hF7 := hF6.below hl7
  go_wp2_with (go_at_call 7; refine (cd.toS_any _ _ _ E0 _ hb7 hn).mono ?_; rintro e w8 ⟨rfl, hr8, hl8⟩)
  have B8 : Below w1.heap.size w1 w8 := B7.trans (hl8.mono B7.size)
  go_wp2_with (go_at_call 10; refine (cd.eqS_any _ _ _ _ _ E0 _ (hX7.below hl8) (cd.XsB.row hr8) hn).mono ?_; rintro e w9 ⟨rfl, hl9⟩)
  have B9 : Below w1.heap.size w1 w9 := B8.trans (hl9.mono B8.size)
  have hf9 := hf1.below B9
  have hF9 := (hF7.below hl8).below hl9
  go_wp2_with (go_at_call 8; refine (st.to_any _ _ _ z1 _ hf9 hN).mono ?_; rintro e w10 ⟨rfl, hr10, hl10⟩)
  have B10 : Below w1.heap.size w1 w10 := B9.trans (hl10.mono B9.size)
  go_wp2_with (go_at_call 11; refine (st.eq_any _ _ _ _ _ z1 _ (hF9.below hl10) (st.Ss.row hr10) hN).mono ?_; rintro e w11 ⟨rfl, q11, rfl⟩)
  go_ret
  exact ⟨rfl, hl1.trans (Go.below_drewN (B10.mono s1) q11)⟩

set_option maxRecDepth 100000 in
theorem contract (H : Type) (enc : TypeId × Value → H) (W : World) (base : Nat) (args : Array Value) (ds gs : List (DataW H)) (before : List MemPlace)
    (hval : ∀ (j : Nat) t v, Try.f3.params[j]? = some t → args[j]? = some v → Value.okWide Try.prog W .any base t v)
    (hW : DataW.Whole enc Try.prog Try.f3.params.toList Rows.fnExactHoldsSpec.vars false W args.toList ds gs before) :
    Calls Try.prog 3 args W fun e W' => ∃ v, e = .returned v ∧ Rows.fnExactHoldsSpec.post enc Try.prog Try.f3 false true false false W args v W' := by
  have hW' := hW
  obtain ⟨p, q, hA0, hV, rfl, hfz, hnd⟩ := hW
  have hA : DataW.TrodAll enc Try.prog W 0 (fun _ => true) true Try.f3.params.toList args.toList ds p := hA0
  rw [Try.params3] at hA hval
  obtain ⟨v0, vs0, d0, ds0, p0, q0, hargs, rfl, rfl, h0, r0⟩ := trodAll_cons hA
  obtain ⟨v1, vs1, d1, ds1, p1, q1, rfl, rfl, rfl, h1, r1⟩ := trodAll_cons r0
  obtain ⟨rfl, rfl, rfl⟩ := trodAll_nil r1
  obtain rfl : args = #[v0, v1] := by cases args; simp_all
  obtain ⟨rfl, rfl⟩ := trodVars_none hV
  obtain ⟨a0, len0, cap0, rfl⟩ := okWide_slice Try.underlying22 (hval 0 22 v0 rfl rfl)
  have k0 := h0
  have lt0 : ∀ x ∈ p0, x.block < W.heap.size := by obtain ⟨m, hm⟩ := k0; exact DataW.trod_lt m _ _ _ hm
  obtain ⟨E0, w0⟩ : ∃ E0, cd.SrcB W a0 len0 E0 ∧ len0 ≤ maxLen ∧ ∀ i, i < len0 → (E0 i).name.size ≤ maxLen := by
    obtain ⟨fuel, hf⟩ := h0
    exact cd.open_conds hf
  obtain ⟨a1, len1, cap1, rfl⟩ := okWide_slice Try.underlying23 (hval 1 23 v1 rfl rfl)
  have k1 := h1
  have lt1 : ∀ x ∈ p1, x.block < W.heap.size := by obtain ⟨m, hm⟩ := k1; exact DataW.trod_lt m _ _ _ hm
  obtain ⟨z1, w1⟩ : ∃ zs, IsStrs W a1 len1 cap1 zs := by
    obtain ⟨fuel, hf⟩ := h1
    rcases open_strings Try.underlying23 Try.underlying9 (by kernel_rfl) hf with ⟨hcs, _⟩ | ⟨x, l, c, zs, hcs, _, hl, hm, hz, _, hcell, hwz⟩
    · simp [Value.cells] at hcs
      obtain ⟨rfl, rfl, rfl⟩ := hcs
      exact ⟨[], .inl ⟨rfl, rfl, rfl, rfl⟩⟩
    · simp [Value.cells] at hcs
      obtain ⟨rfl, rfl, rfl⟩ := hcs
      exact ⟨zs, .inr ⟨_, rfl, hl, hm, by simpa using hz, hcell, hwz⟩⟩
  clear hA0
  refine (walk a0 len0 cap0 E0 a1 len1 cap1 z1 W w0 w1).mono fun e W' ⟨he, bel⟩ => ?_
  subst he
  exact ⟨_, rfl, _, _, _, [], _, [], hW', trodAll_mk1 (shut_bool Try.underlying4 _), (trodAll_cons_mk (Below.trod laidOut (by kernel_rfl) (of_decide_eq_true (by kernel_rfl)) k0 bel lt0) (trodAll_cons_mk (Below.trod laidOut (by kernel_rfl) (of_decide_eq_true (by kernel_rfl)) k1 bel lt1) trodAll_mk0)), rfl, bel.frame _, fun h => by cases h⟩

set_option maxRecDepth 100000 in
theorem lifted (os : Os) (started : os.Started) (H : Type) (enc : TypeId × Value → H) :
    ReturnsInHanded {} Try.checked os 3 .any (Rows.fnExactHoldsSpec.pre6 enc Try.prog Try.f3 Rows.fnExactHoldsRow.domain false) (Rows.fnExactHoldsSpec.post enc Try.prog Try.f3 false true false false) := by
  refine returnsInHanded_of_change (C := Try.checked) own started (by kernel_rfl) Try.func3
    (ChangeSpec.witness6 (enc := enc) (C := Try.checked) false ⟨#[], #[.slice none 0 0, .slice none 0 0], []⟩ 8 (by kernel_rfl) (by kernel_rfl) (by kernel_rfl) (by kernel_rfl)) ?_
  intro W base args ds gs before hval hW _ _
  exact contract H enc W base args ds gs before hval hW

theorem over : Rows.fnExactHoldsRow.holds Try.pinned (OpenSpec.ofChange Rows.fnExactHoldsSpec) :=
  OpenClaim.holds_of_wide 3 Try.f3 rfl rfl rfl rfl rfl rfl rfl ⟨rfl, rfl, rfl, rfl, rfl⟩ rfl rfl rfl rfl rfl (by kernel_rfl) Try.func3 (by kernel_rfl)
    (of_decide_eq_true (by kernel_rfl)) (by unfold Func.isWrapper; first | (rw [if_pos (by decide +kernel)]; kernel_rfl) | (rw [if_neg (by decide +kernel)]; exact ⟨rfl, rfl⟩))
    (fun os started H enc _ => lifted os started H enc)

theorem proved : Rows.FnExactHoldsSaid := over
#print axioms proved
end Go.Proofs.Ytgpfnldoiaigdaa.fnExactHolds
