import Derived.Test.YtccnepenfglfoaaGreatPLB
namespace Go.Proofs.YtccnepenfglfoaaGreat.hp
open Go.ChangeShapes Go.WideShapes Go.ChangeAt Go.RowKit Go.Deep Go.Maps
open fa (Us uNo nmL nds aw aws nAt nAt_some uNo_get hasu_any unum_any)
open fw (Ua)
set_option linter.unusedVariables false
set_option linter.unusedSimpArgs false

/-! ### (Unit).isRestarted -/

def rsB (old : List ty.Un) (nm ex : ByteArray) (kp : Bool) : Bool := !kp && (decide (uNo old nm.data.toList < old.length) && !decide (exAt old nm.data.toList = ex))

theorem ba_ne {x y : ByteArray} : (x.toList == y.toList) = decide (x = y) := by
  rw [Bool.eq_iff_iff, beq_iff_eq, decide_eq_true_eq, ByteArray.toList_eq, ByteArray.toList_eq]
  exact ⟨fun h => by cases x; cases y; simp at h; simp [h], fun h => by rw [h]⟩

set_option maxRecDepth 100000 in
set_option maxHeartbeats 8000000 in
theorem rest_any (md : Option Nat) (a : Option Addr) (c : Nat) (old : List ty.Un) (nm ex : ByteArray) (kp : Bool) (d1 d2 : Option Addr) (l1 c1 l2 c2 : Nat) (w : World) (hb : ty.SrcUn md w a old) (hU : Us old) :
    Calls Tryz.prog 25 #[.agg #[.string nm, .slice d1 l1 c1, .slice d2 l2 c2, .string ex, .bool kp], .slice a old.length c] w fun e w' => e = .returned (.bool (rsB old nm ex kp)) ∧ Below w.heap.size w w' := by
  obtain ⟨W0, hW0⟩ : ∃ W0, W0 = (w.alloc (.cells #[.string nm, .slice d1 l1 c1, .slice d2 l2 c2, .string ex, .bool kp] 53)).drew := ⟨_, rfl⟩
  have HB0 : Hid (Below w.heap.size w W0) := by show Below _ _ _; rw [hW0]; exact ((Below.refl _ _).alloc (Nat.le_refl _) _).drew
  have HHU : Hid (∀ W, Below W0.heap.size W0 W → Calls Tryz.prog 22 #[.slice a old.length c, .string nm] W fun e w' => e = .returned (.bool (decide (uNo old nm.data.toList < old.length))) ∧ Below W.heap.size W w') := fun W h => hasu_any a c old nm W ((hb.any.below HB0.out).below h) hU.few hU
  have HNU : Hid (∀ W, Below W0.heap.size W0 W → Calls Tryz.prog 47 #[.slice a old.length c, .string nm] W fun e w' => e = .returned (.int .i64 ((uNo old nm.data.toList : Nat) : Int)) ∧ Below W.heap.size W w') := fun W h => unum_any a c old nm W ((hb.any.below HB0.out).below h) hU.few hU
  have HX : Hid (∀ W, Below W0.heap.size W0 W → W.cell? ⟨w.heap.size, 0, none⟩ = some (.string nm) ∧ W.cell? ⟨w.heap.size, 3, none⟩ = some (.string ex) ∧ W.cell? ⟨w.heap.size, 4, none⟩ = some (.bool kp)) := fun W h => by
    have k : ∀ i, W.cell? ⟨w.heap.size, i, none⟩ = W0.cell? ⟨w.heap.size, i, none⟩ := fun i => h.cell (p := ⟨w.heap.size, i, none⟩) (by show w.heap.size < _; rw [hW0]; simp)
    rw [k, k, k, hW0]
    refine ⟨?_, ?_, ?_⟩ <;> simp [go_sem]
  have HCE : Hid (uNo old nm.data.toList < old.length → ∃ b o, a = some ⟨b, o, none⟩ ∧ ∀ W, Below W0.heap.size W0 W → W.cell? ⟨b, o + uNo old nm.data.toList * 5 + 3, none⟩ = some (.string (exAt old nm.data.toList))) := fun hl => by
    obtain ⟨u, hu, _⟩ := uNo_get hl
    rcases hb with h | ⟨b, o, e, _, hc⟩
    · rw [h.2] at hl; simp at hl
    obtain ⟨e1, e2, e3, e4, q0, q1, q2, q3, q4, _⟩ := hc _ u hu
    refine ⟨b, o, e, fun W h => ?_⟩
    have hex : exAt old nm.data.toList = u.fExec := by unfold exAt; rw [hu]; rfl
    rw [hex]
    exact ((HB0.out.trans (h.mono HB0.out.size)).cell (p := ⟨b, _, none⟩) (World.block_lt_of_cell? _ _ q3)).trans q3
  have hfew := hU.few
  obtain ⟨R, hR⟩ : ∃ R, rsB old nm ex kp = R := ⟨_, rfl⟩
  have HR : Hid (rsB old nm ex kp = R) := hR
  rw [hR]
  unfold rsB at HR
  generalize exAt old nm.data.toList = xo at *
  generalize uNo old nm.data.toList = J at *
  have hws : w.heap.size < W0.heap.size := by rw [hW0]; simp
  have HW0 := Lib.hid hW0
  clear hb hU hW0 hR
  go_enter Tryz.func25, Tryz.ntmps25
  go_upto_region 1 with fail
  refine wp_region_held_drew (S := fun W => Below W0.heap.size W0 W ∧ W.cell? ⟨w.heap.size, 0, none⟩ = some (.string nm) ∧ W.cell? ⟨w.heap.size, 3, none⟩ = some (.string ex) ∧ W.cell? ⟨w.heap.size, 4, none⟩ = some (.bool kp)) (by kernel_rfl) (by rw [← HW0.out]; exact ⟨Below.refl _ _, HX.out W0 (Below.refl _ _)⟩) (fun hHeld => ?_)
  rw [← HW0.out] at hHeld ⊢
  iterate 4 (refine un 23 rfl ?_; try simp only [aP])
  cases kp with
  | true =>
    iterate 4 (refine sn 23 rfl ?_; try simp only [aP])
    iterate 2 (refine un 23 rfl ?_; try simp only [aP])
    iterate 11 (refine sn 23 rfl ?_; try simp only [aP])
    iterate 2 (refine un 23 rfl ?_; try simp only [aP])
    refine dq ?_
    have HE : Hid (R = false) := by show _ = _; rw [← HR.out]; rfl
    go_wp2_with fail
    go_ret
    exact ⟨by rw [HE.out]; rfl, HB0.out⟩
  | false =>
    iterate 3 (refine un 23 rfl ?_; try simp only [aP])
    refine rq 7 rfl fun K hK => ?_
    have HH := Lib.hid (HHU.out W0 (Below.refl _ _))
    go_simp
    (go_at_call 22; refine HH.out.mono ?_; rintro e w2 ⟨rfl, hl2⟩)
    try go_wp2_with fail
    have HB2 : Hid (Below W0.heap.size W0 w2) := hl2
    refine hK.out _ _ ⟨HB2.out, HX.out w2 HB2.out⟩ (fun hHeld2 => ?_)
    clear hK K hl2
    try simp only [aP]
    by_cases hJ : J < old.length
    · rw [decide_eq_true hJ]
      obtain ⟨b, o, rfl, hce⟩ := HCE.out hJ
      have hJ' : (J : Int) < (old.length : Int) := by omega
      have hJ0 : (0 : Int) ≤ (J : Int) := by omega
      iterate 6 (refine un 23 rfl ?_; try simp only [aP])
      refine uq (i := 18) rfl ?_
      try simp only [aP]
      refine uq (i := 19) rfl ?_
      try simp only [aP]
      refine rq 14 rfl fun K hK => ?_
      have HH := Lib.hid (HNU.out w2 HB2.out)
      go_simp
      (go_at_call 47; refine HH.out.mono ?_; rintro e w3 ⟨rfl, hl3⟩)
      try go_wp2_with fail
      have HB3 : Hid (Below W0.heap.size W0 w3) := HB2.out.trans (hl3.mono HB2.out.size)
      have ce := hce w3 HB3.out
      refine hK.out _ _ ⟨HB3.out, HX.out w3 HB3.out⟩ (fun hHeld3 => ?_)
      clear hK K hl3
      try simp only [aP]
      refine uq (i := 15) rfl ?_
      try simp only [aP]
      refine uq (i := 16) rfl ?_
      try simp only [aP]
      refine rq 17 rfl fun K hK => ?_
      go_simp
      try go_wp2_with fail
      refine hK.out _ _ ⟨HB3.out, HX.out w3 HB3.out⟩ (fun hHeld3 => ?_)
      clear hK K
      try simp only [aP]
      refine uq (i := 20) rfl ?_
      try simp only [aP]
      refine uq (i := 21) rfl ?_
      try simp only [aP]
      refine uq (i := 22) rfl ?_
      try simp only [aP]
      refine dq ?_
      have HE : Hid (R = !decide (xo = ex)) := by show _ = _; rw [← HR.out, decide_eq_true hJ]; simp
      have HB9 := Lib.hid (HB0.out.trans (HB3.out.mono HB0.out.size))
      clear ce hce hHeld2 hHeld3 hHeld
      go_wp2_with fail
      go_ret
      rw [HE.out]
      exact ⟨by first | rfl | (simp [ba_ne]), HB9.out⟩
    · rw [decide_eq_false hJ]
      iterate 2 (refine un 23 rfl ?_; try simp only [aP])
      iterate 11 (refine sn 23 rfl ?_; try simp only [aP])
      iterate 2 (refine un 23 rfl ?_; try simp only [aP])
      refine dq ?_
      have HE : Hid (R = false) := by show _ = _; rw [← HR.out, decide_eq_false hJ]; rfl
      have HB9 := Lib.hid (HB0.out.trans (HB2.out.mono HB0.out.size))
      go_wp2_with fail
      go_ret
      exact ⟨by rw [HE.out]; rfl, HB9.out⟩
end Go.Proofs.YtccnepenfglfoaaGreat.hp
