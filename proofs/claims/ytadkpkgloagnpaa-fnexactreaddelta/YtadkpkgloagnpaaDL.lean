import Derived.Test.YtadkpkgloagnpaaDH
import Derived.Test.YtadkpkgloagnpaaDY
namespace Go.Proofs.Ytadkpkgloagnpaa.dl
open Go.ChangeShapes Go.WideShapes Go.ChangeAt Go.RowKit Go.Deep
open bf (Bf Ap num)
set_option linter.unusedVariables false
set_option linter.unusedSimpArgs false

/-! ### FnExactReadDelta's walk -/

theorem enc_ge {x : Sp} (h : okS x = true) : 1 + x.d.length ≤ (enc x).length := by
  unfold enc
  by_cases hk : x.k = 1
  · obtain ⟨_, _, hm⟩ := ok3_one.1 (by have := h; unfold okS at this; rwa [hk] at this)
    rw [if_pos hk]
    simp only [List.length_append, List.length_singleton]
    omega
  · rw [if_neg hk]
    simp only [List.length_append, List.length_singleton]
    omega
theorem wt_enc : ∀ {ss : List Sp}, (∀ x ∈ ss, okS x = true) → wt ss ≤ (encT ss).length
  | [], _ => by simp [wt, wtS]
  | x :: ss, h => by
    have ih := wt_enc (ss := ss) (fun y hy => h y (List.mem_cons_of_mem _ hy))
    have h1 := enc_ge (h x List.mem_cons_self)
    unfold wt wtS encT at *
    rw [List.take_length] at *
    simp only [List.map_cons, List.sum_cons, List.length_cons, List.flatten_cons, List.length_append]
    omega
theorem goodD_wt {l : List UInt8} {ss : List Sp} (h : GoodD l ss) : wt ss ≤ l.length := by
  have := wt_enc (ss := ss) (fun x hx => ((good_iff.1 h.1).2 x hx).1)
  rw [goodD_l h, List.length_append]
  omega

/-- Both sides answer the same: a flag, and one list. -/
theorem rdR_one (l : List UInt8) (hl : l.length ≤ 1048576) : ∃ (ok : Bool) (X : List Sp), wt X ≤ 1048576 ∧ ∀ (w w' : World) (e : Ending), RdR w w' l e → ∃ G cap gs base, e = .returned (.tuple #[.slice (some ⟨G, 0, none⟩) X.length cap, .bool ok]) ∧ w.heap.size ≤ base ∧ OwS base w'.heap.size w' G gs X := by
  by_cases h : ∃ ss, GoodD l ss
  · obtain ⟨ss, hg⟩ := h
    refine ⟨true, ss, by have := goodD_wt hg; omega, fun w w' e hr => ?_⟩
    obtain ⟨v, ok, zs, base, rfl, hb, hrow, _, hh⟩ := hr
    rcases hh with ⟨rfl, _, h2⟩ | ⟨_, _, h2⟩
    · obtain ⟨G, cap, gs, rfl, ho⟩ := hrow.ow
      have e := h2 ss hg
      rw [e] at ho ⊢
      exact ⟨G, cap, gs, base, rfl, hb, ho⟩
    · exact absurd hg (h2 ss)
  · refine ⟨false, [], by simp [wt, wtS], fun w w' e hr => ?_⟩
    obtain ⟨v, ok, zs, base, rfl, hb, hrow, _, hh⟩ := hr
    rcases hh with ⟨rfl, h1, _⟩ | ⟨rfl, rfl, _⟩
    · exact absurd ⟨_, h1⟩ h
    · obtain ⟨G, cap, gs, rfl, ho⟩ := hrow.ow
      exact ⟨G, cap, gs, base, rfl, hb, ho⟩

theorem RwB.up {w : World} {g n : Nat} {l : List UInt8} (h : RwB w g l n) (hn : l.length = n) : up.By w g l := h.by hn

set_option maxRecDepth 100000 in
set_option maxHeartbeats 4000000 in
theorem rd_law (a0 : Option Addr) (on cap0 : Nat) (l : List UInt8) (w : World) (hb0 : sm.Bs w a0 on (inB l)) (hon : on = l.length) :
    Calls Try.prog 5 #[.slice a0 on cap0] w fun e w' => e = .returned (.bool true) ∧ Below w.heap.size w w' := by
  by_cases hf : 1048576 < on
  · have hf' : (1048576 : Int) < (on : Int) := by omega
    go_enter Try.func5, Try.ntmps5
    go_wp2
    go_ret
    exact ⟨rfl, Below.refl _ _⟩
  have hf' : ¬ (1048576 : Int) < (on : Int) := by omega
  have hon2 : on ≤ 1048576 := by omega
  obtain ⟨ok, X, hX, hone⟩ := rdR_one l (by omega)
  have HW : Hid (wt X ≤ 1048576) := hX
  have HTB : Hid (∀ W, Below w.heap.size w W → Calls Try.prog 10 #[.slice a0 on cap0] W fun e w' => e = .returned (.slice (some ⟨W.heap.size, 0, none⟩) on on) ∧ RwB w' W.heap.size l on ∧ Below W.heap.size W w') := fun W hW => sm.to_any a0 on cap0 (inB l) W (hb0.below hW) (by omega)
  obtain ⟨n, hnn⟩ : ∃ n, X.length = n := ⟨_, rfl⟩
  have HSP : Hid (∀ (W : World) b, RwB W b l on → Calls Try.prog 20 #[.slice (some ⟨b, 0, none⟩) on on] W fun e w' => (∃ G cap gs base, e = .returned (.tuple #[.slice (some ⟨G, 0, none⟩) n cap, .bool ok]) ∧ W.heap.size ≤ base ∧ OwS base w'.heap.size w' G gs X) ∧ Below W.heap.size W w') := fun W b hE => by
    rw [← hnn]
    exact (srd_any b on l hon (by omega) W (hE.up hon.symm) hE.lt).mono fun e w' ⟨h1, h2⟩ => ⟨hone _ _ _ h1, h2⟩
  have HIP : Hid (∀ (W : World) b, RwB W b l on → Calls Try.prog 21 #[.slice (some ⟨b, 0, none⟩) on on] W fun e w' => (∃ G cap gs base, e = .returned (.tuple #[.slice (some ⟨G, 0, none⟩) n cap, .bool ok]) ∧ W.heap.size ≤ base ∧ OwS base w'.heap.size w' G gs X) ∧ Below W.heap.size W w') := fun W b hE => by
    rw [← hnn]
    exact (ird_any b on l hon (by omega) W (hE.up hon.symm) hE.lt).mono fun e w' ⟨h1, h2⟩ => ⟨hone _ _ _ h1, h2⟩
  have HEO : Hid (∀ (W : World) g g', RwB W g l on → RwB W g' l on → Calls Try.prog 13 #[.slice (some ⟨g, 0, none⟩) on on, .slice (some ⟨g', 0, none⟩) on on] W fun e w' => e = .returned (.bool true) ∧ Below W.heap.size W w') := fun W g g' h1 h2 => (sm.eq_any _ _ _ _ _ _ _ h1.bs h2.bs (by omega)).mono fun e w' ⟨he, q, hq⟩ => ⟨he, by rw [hq]; exact bel_drewN _ _⟩
  have HES : Hid (∀ (W : World) b b' c c', SrcS W (some ⟨b, 0, none⟩) X → SrcS W (some ⟨b', 0, none⟩) X → Calls Try.prog 14 #[.slice (some ⟨b, 0, none⟩) n c, .slice (some ⟨b', 0, none⟩) n c'] W fun e w' => e = .returned (.bool true) ∧ Below W.heap.size W w') := fun W b b' c c' h1 h2 => by rw [← hnn]; exact eqS_any _ _ _ _ X W h1 h2 HW.out
  obtain ⟨K1, hK1⟩ : ∃ K, 1 + on = K := ⟨_, rfl⟩
  obtain ⟨K, hK⟩ : ∃ K, kAt 1 X X.length = K := ⟨_, rfl⟩
  have HMO : Hid (∀ (W : World) g, RwB W g l on → Calls Try.prog 15 #[.slice (some ⟨g, 0, none⟩) on on, .int .i64 1] W fun e w' => e = .returned (.int .i64 (K1 : Int)) ∧ W.grownBy w' (some g)) := fun W g h => by
    have := markB_any (some ⟨g, 0, none⟩) g on on 1 W (.inr rfl) h.wb (by omega)
    rw [hK1] at this
    exact this.mono fun e w' ⟨h1, _, _, h4⟩ => ⟨h1, h4⟩
  have HMS : Hid (∀ (W : World) lo hi b gs c, OwS lo hi W b gs X → Calls Try.prog 16 #[.slice (some ⟨b, 0, none⟩) n c, .int .i64 1] W fun e w' => e = .returned (.int .i64 (K : Int)) ∧ OwS lo hi w' b gs (mkS 1 X) ∧ Mid lo hi W w') := fun W lo hi b gs c ho => by
    rw [← hnn, ← hK]
    exact markS_any lo hi b c 1 gs X W ho HW.out (by omega)
  have HHS : Hid (∀ (W : World) lo hi b gs c, OwS lo hi W b gs (mkS 1 X) → Calls Try.prog 22 #[.slice (some ⟨b, 0, none⟩) n c, .int .i64 1] W fun e w' => e = .returned (.int .i64 (K : Int)) ∧ Below W.heap.size W w') := fun W lo hi b gs c ho => by
    rw [← hnn, ← hK]
    exact heldS_any lo hi b c 1 gs X W ho HW.out (by omega)
  have hk1 : ¬ (K1 : Int) < 0 := by omega
  have hk2 : ¬ (K : Int) < 0 := by omega
  clear hnn hK hK1 hon hf hon2 hone hX hb0
  go_enter Try.func5, Try.ntmps5
  go_wp2_with (go_at_call 10; refine (HTB.out _ (Below.refl _ _)).mono ?_; rintro e w2 ⟨rfl, hr2, B2⟩; refine Hid.out ?_)
  refine Lib.hid ?_
  have HR2 : Hid (RwB w2 w.heap.size l on) := hr2
  clear hr2
  go_wp2_with (go_at_call 20; refine (HSP.out _ _ HR2.out).mono ?_; rintro e w3 ⟨⟨G3, c3, gs3, bs3, rfl, hbs3, ho3⟩, hl3⟩; refine Hid.out ?_)
  refine Lib.hid ?_
  have B3 : Below w.heap.size w w3 := B2.trans (hl3.mono B2.size)
  have HO3 : Hid (OwS bs3 w3.heap.size w3 G3 gs3 X) := ho3
  clear ho3
  go_wp2_with (go_at_call 10; refine (HTB.out _ B3).mono ?_; rintro e w4 ⟨rfl, hr4, hl4⟩; refine Hid.out ?_)
  refine Lib.hid ?_
  have B4 : Below w.heap.size w w4 := B3.trans (hl4.mono B3.size)
  have HR4 : Hid (RwB w4 w3.heap.size l on) := hr4
  have hlt4 : w3.heap.size < w4.heap.size := World.rowIs.lt hr4
  clear hr4
  go_wp2_with (go_at_call 21; refine (HIP.out _ _ HR4.out).mono ?_; rintro e w5 ⟨⟨G5, c5, gs5, bs5, rfl, hbs5, ho5⟩, hl5⟩; refine Hid.out ?_)
  refine Lib.hid ?_
  have B5 : Below w.heap.size w w5 := B4.trans (hl5.mono B4.size)
  have HO5 : Hid (OwS bs5 w5.heap.size w5 G5 gs5 X) := ho5
  have HO35 : Hid (OwS bs3 w3.heap.size w5 G3 gs3 X) := (HO3.out.below hl4).below hl5
  have HR5 : Hid (RwB w5 w3.heap.size l on) := HR4.out.below hl5
  clear ho5
  go_wp2_with (go_at_call 14; refine (HES.out _ _ _ _ _ HO5.out.src HO35.out.src).mono ?_; rintro e w6 ⟨rfl, hl6⟩; refine Hid.out ?_)
  refine Lib.hid ?_
  have B6 : Below w.heap.size w w6 := B5.trans (hl6.mono B5.size)
  go_wp2_with (go_at_call 10; refine (HTB.out _ B6).mono ?_; rintro e w7 ⟨rfl, hr7, hl7⟩; refine Hid.out ?_)
  refine Lib.hid ?_
  have B7 : Below w.heap.size w w7 := B6.trans (hl7.mono B6.size)
  have b57 : Below w5.heap.size w5 w7 := hl6.trans (hl7.mono hl6.size)
  have HR7 : Hid (RwB w7 w3.heap.size l on) := HR5.out.below b57
  have HRN : Hid (RwB w7 w6.heap.size l on) := hr7
  clear hr7
  go_wp2_with (go_at_call 13; refine (HEO.out _ _ _ HR7.out HRN.out).mono ?_; rintro e w8 ⟨rfl, hl8⟩; refine Hid.out ?_)
  refine Lib.hid ?_
  have B8 : Below w.heap.size w w8 := B7.trans (hl8.mono B7.size)
  have b58 : Below w5.heap.size w5 w8 := b57.trans (hl8.mono b57.size)
  have HR8 : Hid (RwB w8 w3.heap.size l on) := HR7.out.below hl8
  have HO58 : Hid (OwS bs5 w5.heap.size w8 G5 gs5 X) := HO5.out.below b58
  have HO38 : Hid (OwS bs3 w3.heap.size w8 G3 gs3 X) := HO35.out.below b58
  have hs3 := B3.size
  go_wp2_with (go_at_call 15; refine (HMO.out _ _ HR8.out).mono ?_; rintro e w9 ⟨rfl, hg9⟩; refine Hid.out ?_)
  refine Lib.hid ?_
  have B9 : Below w.heap.size w w9 := bel_grown' B8 hg9 B8.size hs3
  have HO59 : Hid (OwS bs5 w5.heap.size w9 G5 gs5 X) := HO58.out.kept hg9.size (fun k h1 h2 => hg9.block k (Nat.lt_of_lt_of_le h2 HO58.out.hi_le) (fun e => by have := Option.some.inj e; omega))
  have HO39 : Hid (OwS bs3 w3.heap.size w9 G3 gs3 X) := HO38.out.kept hg9.size (fun k h1 h2 => hg9.block k (Nat.lt_of_lt_of_le h2 HO38.out.hi_le) (fun e => by have := Option.some.inj e; omega))
  clear hg9
  go_wp2_with (go_at_call 14; refine (HES.out _ _ _ _ _ HO59.out.src HO39.out.src).mono ?_; rintro e w10 ⟨rfl, hl10⟩; refine Hid.out ?_)
  refine Lib.hid ?_
  have B10 : Below w.heap.size w w10 := B9.trans (hl10.mono B9.size)
  have HO510 : Hid (OwS bs5 w5.heap.size w10 G5 gs5 X) := HO59.out.below hl10
  have HO310 : Hid (OwS bs3 w3.heap.size w10 G3 gs3 X) := HO39.out.below hl10
  have hsb5 : w.heap.size ≤ bs5 := Nat.le_trans B4.size hbs5
  go_wp2_with (go_at_call 16; refine (HMS.out _ _ _ _ _ _ HO510.out).mono ?_; rintro e w11 ⟨rfl, hm11, hd11⟩; refine Hid.out ?_)
  refine Lib.hid ?_
  have B11 : Below w.heap.size w w11 := B10.trans (hd11.toBelow hsb5 B10.size)
  have HM11 : Hid (OwS bs5 w5.heap.size w11 G5 gs5 (mkS 1 X)) := hm11
  have HO311 : Hid (OwS bs3 w3.heap.size w11 G3 gs3 X) := HO310.out.kept hd11.size (fun k h1 h2 => hd11.block k (Nat.lt_of_lt_of_le h2 HO310.out.hi_le) (.inl (by omega)))
  clear hm11 hd11
  go_wp2_with (go_at_call 22; refine (HHS.out _ _ _ _ _ _ HM11.out).mono ?_; rintro e w12 ⟨rfl, hl12⟩; refine Hid.out ?_)
  refine Lib.hid ?_
  have B12 : Below w.heap.size w w12 := B11.trans (hl12.mono B11.size)
  have HM12 : Hid (OwS bs5 w5.heap.size w12 G5 gs5 (mkS 1 X)) := HM11.out.below hl12
  have HO312 : Hid (OwS bs3 w3.heap.size w12 G3 gs3 X) := HO311.out.below hl12
  go_wp2_with (go_at_call 10; refine (HTB.out _ B12).mono ?_; rintro e w13 ⟨rfl, hr13, hl13⟩; refine Hid.out ?_)
  refine Lib.hid ?_
  have B13 : Below w.heap.size w w13 := B12.trans (hl13.mono B12.size)
  have HR13 : Hid (RwB w13 w12.heap.size l on) := hr13
  clear hr13
  go_wp2_with (go_at_call 21; refine (HIP.out _ _ HR13.out).mono ?_; rintro e w14 ⟨⟨G14, c14, gs14, bs14, rfl, hbs14, ho14⟩, hl14⟩; refine Hid.out ?_)
  refine Lib.hid ?_
  have B14 : Below w.heap.size w w14 := B13.trans (hl14.mono B13.size)
  have b1214 : Below w12.heap.size w12 w14 := hl13.trans (hl14.mono hl13.size)
  have HO14 : Hid (OwS bs14 w14.heap.size w14 G14 gs14 X) := ho14
  have HO314 : Hid (OwS bs3 w3.heap.size w14 G3 gs3 X) := HO312.out.below b1214
  have HM14 : Hid (OwS bs5 w5.heap.size w14 G5 gs5 (mkS 1 X)) := HM12.out.below b1214
  clear ho14
  go_wp2_with (go_at_call 14; refine (HES.out _ _ _ _ _ HO14.out.src HO314.out.src).mono ?_; rintro e w15 ⟨rfl, hl15⟩; refine Hid.out ?_)
  refine Lib.hid ?_
  have B15 : Below w.heap.size w w15 := B14.trans (hl15.mono B14.size)
  have HM15 : Hid (OwS bs5 w5.heap.size w15 G5 gs5 (mkS 1 X)) := HM14.out.below hl15
  go_wp2_with (go_at_call 22; refine (HHS.out _ _ _ _ _ _ HM15.out).mono ?_; rintro e w16 ⟨rfl, hl16⟩)
  go_ret
  exact ⟨rfl, B15.trans (hl16.mono B15.size)⟩

end Go.Proofs.Ytadkpkgloagnpaa.dl
