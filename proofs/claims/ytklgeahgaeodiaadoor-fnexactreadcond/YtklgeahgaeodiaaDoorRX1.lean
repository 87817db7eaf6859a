import Derived.Test.YtklgeahgaeodiaaDoorRW1
import Derived.Deep.Cut
namespace Go.Proofs.YtklgeahgaeodiaaDoor.cr
open Go.ChangeShapes Go.WideShapes Go.ChangeAt Go.RowKit Go.Deep
open cd (Tr Cn infoE)
set_option linter.unusedVariables false
set_option linter.unusedSimpArgs false

/-! ### spec.ReadCond -/

theorem spec_all : ∀ f, SC1 f ∧ SCr 38 1 f ∧ SCr 124 2 f ∧ SC2 f
  | 0 => ⟨fun S rb i d w _ _ _ _ hf => absurd hf (by omega), fun S rb i d w _ _ _ _ hf => absurd hf (by omega), fun S rb i d w _ _ _ _ hf => absurd hf (by omega), fun S rb i d w _ _ _ _ hf => absurd hf (by omega)⟩
  | f + 1 => by
    obtain ⟨h0, h1, h2, h3⟩ := spec_all f
    refine ⟨fun S rb i d w hsr hs hi hd hf hf2 => ?_, rowA_step f h0, rowO_step f h1, sany_step (f + 1) (rowO_step f h1)⟩
    cases hL : skip (S.data.toList.drop i) with
    | nil =>
      have hp : pkN (S.data.toList.drop i) = 0 := by unfold pkN; rw [hL]
      have := one_word f S rb i d w hsr hs hi (by omega) (by omega)
      rw [P_one, one_wd (by omega) (by omega)]
      exact this
    | cons c q =>
      have hp := pk_first hL
      by_cases hc : c = 33
      · subst hc
        exact one_not f h0 S rb i d w hsr hs hi hd hf hf2 q hL
      · by_cases hc2 : c = 40
        · subst hc2
          exact one_brk f h3 S rb i d w hsr hs hi hd hf hf2 q hL
        · have k1 : pkN (S.data.toList.drop i) ≠ 33 := fun e => hc (UInt8.toNat_inj.1 (by rw [← hp, e]; rfl))
          have k2 : pkN (S.data.toList.drop i) ≠ 40 := fun e => hc2 (UInt8.toNat_inj.1 (by rw [← hp, e]; rfl))
          have := one_word f S rb i d w hsr hs hi k1 k2
          rw [P_one, one_wd k1 k2]
          exact this
theorem bel_gr {w W1 w2 : World} (h : Below w.heap.size w W1) (hg : W1.grownBy w2 (some w.heap.size)) : Below w.heap.size w w2 := h.grown hg h.size (fun k hk => by cases hk; exact Nat.le_refl _)

set_option maxRecDepth 100000 in
set_option maxHeartbeats 4000000 in
theorem sread_any (S : ByteArray) (w : World) (hs : S.size ≤ 1048576) :
    Calls Tryd.prog 4 #[.string S] w fun e w' => RcR S w w' e ∧ Below w.heap.size w w' := by
  by_cases hs4 : S.size ≤ 4000
  · have h4 : ¬ (4000 : Int) < (S.size : Int) := by omega
    obtain ⟨W1, hW1⟩ : ∃ W1, W1 = w.alloc (.cells #[.string S, .int .i64 0, .bool false] 30) := ⟨_, rfl⟩
    have hrd : Sr W1 w.heap.size S 0 false := ⟨_, by rw [hW1]; exact blk_alloc_new _ _, rfl, fun i hi => by
      match i, hi with
      | 0, _ => rfl
      | 1, _ => rfl
      | 2, _ => rfl⟩
    have HB1 : Hid (Below w.heap.size w W1) := by show Below _ _ _; rw [hW1]; exact (Below.refl _ _).alloc (Nat.le_refl _) _
    have HANY := Lib.hid ((spec_all 12003).2.2.2 S w.heap.size 0 0 W1 hrd hs4 (Nat.zero_le _) (Nat.le_refl _) (by omega) (by omega))
    have HLT := Lib.hid hrd.lt
    have HW1 := Lib.hid hW1
    have HRC : Hid (rcO S = rcB S.data.toList) := if_pos hs4
    unfold rcB at HRC
    rw [List.drop_zero] at HANY
    obtain ⟨M, hM⟩ : ∃ M, P 12003 2 S.data.toList = M := ⟨_, rfl⟩
    rw [hM] at HANY HRC
    clear hrd hW1 hM
    go_enter Tryd.func4, Tryd.ntmps4
    go_upto_region 4 with fail
    rw [← HW1.out]
    go_wp2_with (go_at_call 9; refine HANY.out.mono ?_; rintro e w2 hres; obtain ⟨i4, b4, g4, c4, L4, rfl, h41, h42, h43⟩ := hres.rw HLT.out; clear hres; refine Hid.out ?_)
    refine Lib.hid ?_
    have HB2 := Lib.hid (bel_gr HB1.out h41.gr)
    have hc2 := h41.sr.c2
    cases M with
    | none =>
      have hb := h42 rfl
      subst hb
      have HE : Hid (rcO S = none) := HRC.out
      clear h41 h42 h43 HRC HANY
      go_wp2
      go_ret2
      exact ⟨rcr_no HE.out HB2.out.size, HB2.out.alloc HB2.out.size _⟩
    | some x =>
      obtain ⟨t, r⟩ := x
      obtain ⟨hb, hr, hi4, hex⟩ := h43 t r rfl
      subst hb
      have HPK := Lib.hid (peek_any S w.heap.size i4 false w2 h41.sr hs4 (by omega))
      have HR4 := Lib.hid h41
      have HEX := Lib.hid hex
      simp only at HRC
      clear h41 h42 h43 HANY hex
      go_wp2_with (go_at_call 10; refine HPK.out.mono ?_; rintro e w6 hpk; obtain ⟨rfl, k6, h61, h62, h63, h64, h65⟩ := HR4.out.peek hpk; clear hpk; refine Hid.out ?_)
      refine Lib.hid ?_
      rw [hr] at h64
      obtain ⟨pv, hpv⟩ : ∃ pv, pkN r = pv := ⟨_, rfl⟩
      rw [hpv]
      have HB6 := Lib.hid (bel_gr HB1.out h65.gr)
      have hc1 := h65.sr.c1
      have HR6 := Lib.hid h65
      have hk6 := h63 hi4
      cases hsk : skip r with
      | cons c q =>
        have HE : Hid (rcO S = none) := by show _ = _; rw [HRC.out, if_neg (by rw [hsk]; simp)]
        have hkS : k6 < S.size := by
          have := congrArg List.length h64
          rw [drop_len, hsk] at this
          simp at this
          omega
        have hkS' : (k6 : Int) < (S.size : Int) := by omega
        clear h65 h64 hpv hsk HRC HPK HR4 hc2
        by_cases hp0 : pv = 0
        · subst hp0
          go_wp2
          go_ret2
          exact ⟨rcr_no HE.out HB6.out.size, HB6.out.alloc HB6.out.size _⟩
        · have hp0' : ¬ (pv : Int) = 0 := by omega
          go_wp2
          go_ret2
          exact ⟨rcr_no HE.out HB6.out.size, HB6.out.alloc HB6.out.size _⟩
      | nil =>
        have hp0 : pv = 0 := by rw [← hpv]; unfold pkN; rw [hsk]
        subst hp0
        have hkS : ¬ k6 < S.size := by
          have := congrArg List.length h64
          rw [drop_len, hsk] at this
          simp at this
          omega
        have hkS' : ¬ (k6 : Int) < (S.size : Int) := by omega
        obtain ⟨hx6, hcc, hcm⟩ := h65.oc.xs
        have hl6 := h65.ll
        have hl0 := h65.l0
        have HOK := Lib.hid (cd.sok_any (cnE L4) g4 L4.length c4 ⟨hcc, Nat.le_trans hcm (by unfold maxLen; omega)⟩ (by omega) (fun i hi => by have := h65.nm (cnE L4 i) (List.mem_of_getElem? (cnE_some hi)); omega) w6 hx6)
        have HKE : Hid (okL (fl t) = true → L4 = fl t) := fun h => by
          rcases HEX.out with e | ⟨_, h3⟩
          · exact e
          · unfold okL at h
            rw [cd.okAll_no (.inr h3)] at h
            cases h
        have HKN : Hid (okL (fl t) = cd.okAll (cnE L4) L4.length) := by
          show _ = _
          rcases HEX.out with e | ⟨h2, h3⟩
          · rw [e]; rfl
          · unfold okL
            rw [cd.okAll_no (.inr h3), cd.okAll_no (.inr (by omega))]
        have HSE : Hid ((skip r).isEmpty = true) := by show _ = _; rw [hsk]; rfl
        rw [← HKN.out] at HOK
        clear h65 h64 hpv hsk HPK HR4 hc2 hx6 HKN hkS
        cases hk : okL (fl t) with
        | false =>
          rw [hk] at HOK
          have HE : Hid (rcO S = none) := by show _ = _; rw [HRC.out, if_neg (by rw [hk]; simp)]
          clear HRC hk
          go_wp2_with (go_at_call 11; refine HOK.out.mono ?_; rintro e w7 ⟨rfl, hw⟩; obtain rfl := hw.symm; clear hw)
          go_ret2
          exact ⟨rcr_no HE.out HB6.out.size, HB6.out.alloc HB6.out.size _⟩
        | true =>
          have HE : Hid (rcO S = some L4) := by show _ = _; rw [HRC.out, if_pos ⟨HSE.out, hk⟩, HKE.out hk]
          rw [hk] at HOK
          clear HRC hk HKE HEX
          go_wp2_with (go_at_call 11; refine HOK.out.mono ?_; rintro e w7 ⟨rfl, hw⟩; obtain rfl := hw.symm; clear hw)
          go_ret2
          have e1 : rcL S = L4 := by unfold rcL; rw [HE.out]; rfl
          have e2 : rcK S = true := by unfold rcK; rw [HE.out]; rfl
          refine ⟨⟨g4, c4, by rw [e1, e2]; rfl, ?_⟩, HB6.out⟩
          rw [e1]
          exact HR6.out.oc.mono HB1.out.size
  · have h4 : (4000 : Int) < (S.size : Int) := by omega
    have HE : Hid (rcO S = none) := if_neg hs4
    clear hs4
    go_enter Tryd.func4, Tryd.ntmps4
    go_wp2
    go_ret2
    exact ⟨rcr_no HE.out (Nat.le_refl _), (Below.refl _ _).alloc (Nat.le_refl _) _⟩
end Go.Proofs.YtklgeahgaeodiaaDoor.cr
