import Derived.Test.YtklgeahgaeodiaaDoorRU1
namespace Go.Proofs.YtklgeahgaeodiaaDoor.cr
open Go.ChangeShapes Go.WideShapes Go.ChangeAt Go.RowKit Go.Deep
open cd (Tr Cn infoE)
set_option linter.unusedVariables false
set_option linter.unusedSimpArgs false

/-! ### The specification's reader: nots, brackets, words -/

theorem pk_cons {S : ByteArray} {k : Nat} {c : UInt8} {l q : List UInt8} (h : skip l = c :: q) (hk : S.data.toList.drop k = skip l) : S.data.toList.drop (k + 1) = q ∧ k + 1 ≤ S.size := by
  rw [h] at hk
  refine ⟨by rw [← List.drop_drop, hk]; rfl, ?_⟩
  have := congrArg List.length hk
  rw [drop_len] at this
  simp at this
  omega
theorem pk_first {l q : List UInt8} {c : UInt8} (h : skip l = c :: q) : pkN l = c.toNat := by unfold pkN; rw [h]

set_option maxRecDepth 100000 in
set_option maxHeartbeats 4000000 in
theorem one_not (f : Nat) (h0 : SC1 f) (S : ByteArray) (rb i d : Nat) (w : World) (hsr : Sr w rb S i false) (hs : S.size ≤ 4000) (hi : i ≤ S.size) (hd : d ≤ i) (hf : 3 * (S.size - i) + 0 + 1 ≤ f + 1) (hf2 : f + 1 ≤ 20000) (q : List UInt8) (hL : skip (S.data.toList.drop i) = 33 :: q) :
    Calls Tryd.prog 25 #[.pointer (some ⟨rb, 0, none⟩), .int .i64 (d : Int)] w fun e w' => SRes w w' rb S (f + 1) (P (f + 1) 0 (S.data.toList.drop i)) e := by
  rw [P_one]
  have HE : Hid (oneP (P f 0) (P f 2) (S.data.toList.drop i) = (P f 0 q).map (fun x => (.mk 4 (bA []) [x.1], x.2))) := by show _ = _; unfold oneP; rw [hL]; rfl
  rw [HE.out]
  have hlt := hsr.lt
  have HPK := Lib.hid (peek_any S rb i false w hsr hs (by omega))
  have HPF : Hid (pkN (S.data.toList.drop i) = 33) := pk_first hL
  have HL := Lib.hid hL
  have H0 := Lib.hid h0
  obtain ⟨M, hM⟩ : ∃ M, P f 0 q = M := ⟨_, rfl⟩
  rw [hM]
  have HM := Lib.hid hM
  clear hL hsr h0 HE hM
  go_enter Tryd.func25, Tryd.ntmps25
  go_wp2_with (go_at_call 10; refine HPK.out.mono ?_; rintro e w1 hpk; obtain ⟨rfl, hg1, hz1, k, hk1, hk2, hk3, hk4, hsr1⟩ := hpk; rw [HPF.out]; refine Hid.out ?_)
  refine Lib.hid ?_
  obtain ⟨hdr, hkS⟩ := pk_cons HL.out hk4
  have HS2 := Lib.hid (hsr1.seti (k + 1))
  have HG2 := Lib.hid (gr_trans hg1 (gr_set w1 rb 1 (.int .i64 ((k + 1 : Nat) : Int))))
  have HO := Lib.hid (H0.out S rb (k + 1) (d + 1) _ HS2.out hs hkS (by omega) (by omega) (by omega))
  rw [hdr, HM.out] at HO
  have hc1 := hsr1.c1
  have hf1 := hsr1.f 1
  have HLT := Lib.hid HS2.out.lt
  have hwk : IntKind.i64.wrap ((k : Int) + 1) = ((k + 1 : Nat) : Int) := by rw [IntKind.wrap_i64]; omega
  have hwd : IntKind.i64.wrap ((d : Int) + 1) = ((d + 1 : Nat) : Int) := by rw [IntKind.wrap_i64]; omega
  have eK : ((k + 1 : Nat) : Int) = (k : Int) + 1 := by simp
  have eD : ((d + 1 : Nat) : Int) = (d : Int) + 1 := by simp
  rw [eK] at HO HS2 HG2 HLT
  rw [eD] at HO
  obtain ⟨W2, hW2⟩ : ∃ W2, W2 = w1.setCell ⟨rb, 1, none⟩ (.int .i64 ((k : Int) + 1)) := ⟨_, rfl⟩
  rw [← hW2] at HO HS2 HG2 HLT
  have HW2 := Lib.hid hW2
  clear hW2 hsr1 hdr hk4 HM HL H0 HPK HPF
  go_upto_region 4 with fail
  rw [← HW2.out]
  clear hc1 hf1
  go_wp2_with (go_at_call 25; refine HO.out.mono ?_; rintro e w4 hres; obtain ⟨i4, b4, g4, c4, L4, rfl, h41, h42, h43⟩ := hres.rw HLT.out; clear hres; refine Hid.out ?_)
  refine Lib.hid ?_
  have HR4 := Lib.hid (h41.pre HG2.out hlt)
  have HMK := Lib.hid (make_any 4 _ g4 c4 L4 w4 h41.oc (by have := h41.ll; omega) h41.gb.2)
  have HF : Hid (∀ e w', MkR 4 L4 w4 w' e → Below w4.heap.size w4 w' → SRes w w' rb S (f + 1) (M.map (fun x => (.mk 4 (bA []) [x.1], x.2))) e) := fun e w' a b => by
    obtain ⟨g', c', L', rfl, k1, k2⟩ := HR4.out.made a b
    refine (k1.up (Nat.le_succ f)).done ⟨fun hb => ?_, fun hb => ?_⟩
    · cases M with
      | none => rfl
      | some x => have := (h43 x.1 x.2 rfl).1; rw [hb] at this; cases this
    · cases M with
      | none => have := h42 rfl; rw [hb] at this; cases this
      | some x =>
        obtain ⟨t, r⟩ := x
        obtain ⟨_, e1, e2, e3⟩ := h43 t r rfl
        refine ⟨.mk 4 (bA []) [t], by rw [e1]; rfl, e2, ?_⟩
        rw [fl_eq, flL_one]
        exact k2 _ e3
  clear h41 h42 h43 HO
  go_wp2_with (go_at_call 26; refine HMK.out.mono ?_; rintro e w9 ⟨hmk, hb⟩; have HFF := Lib.hid (HF.out _ _ hmk hb); have hE : ∃ v, e = .returned v := ⟨_, hmk.choose_spec.choose_spec.1⟩; obtain ⟨v9, rfl⟩ := hE; clear hmk hb)
  go_ret
  exact HFF.out

set_option maxRecDepth 100000 in
set_option maxHeartbeats 4000000 in
theorem one_brk (f : Nat) (h2 : SC2 f) (S : ByteArray) (rb i d : Nat) (w : World) (hsr : Sr w rb S i false) (hs : S.size ≤ 4000) (hi : i ≤ S.size) (hd : d ≤ i) (hf : 3 * (S.size - i) + 0 + 1 ≤ f + 1) (hf2 : f + 1 ≤ 20000) (q : List UInt8) (hL : skip (S.data.toList.drop i) = 40 :: q) :
    Calls Tryd.prog 25 #[.pointer (some ⟨rb, 0, none⟩), .int .i64 (d : Int)] w fun e w' => SRes w w' rb S (f + 1) (P (f + 1) 0 (S.data.toList.drop i)) e := by
  rw [P_one]
  have HE := Lib.hid (one_br (p0 := P f 0) (p2 := P f 2) hL)
  obtain ⟨R, hR⟩ : ∃ R, oneP (P f 0) (P f 2) (S.data.toList.drop i) = R := ⟨_, rfl⟩
  rw [hR] at HE ⊢
  have hlt := hsr.lt
  have HPK := Lib.hid (peek_any S rb i false w hsr hs (by omega))
  have HPF : Hid (pkN (S.data.toList.drop i) = 40) := pk_first hL
  have HL := Lib.hid hL
  have H2 := Lib.hid h2
  obtain ⟨M, hM⟩ : ∃ M, P f 2 q = M := ⟨_, rfl⟩
  rw [hM] at HE
  have HM := Lib.hid hM
  clear hL hsr h2 hM hR
  go_enter Tryd.func25, Tryd.ntmps25
  go_wp2_with (go_at_call 10; refine HPK.out.mono ?_; rintro e w1 hpk; obtain ⟨rfl, hg1, hz1, k, hk1, hk2, hk3, hk4, hsr1⟩ := hpk; rw [HPF.out]; refine Hid.out ?_)
  refine Lib.hid ?_
  obtain ⟨hdr, hkS⟩ := pk_cons HL.out hk4
  have HS2 := Lib.hid (hsr1.seti (k + 1))
  have HG2 := Lib.hid (gr_trans hg1 (gr_set w1 rb 1 (.int .i64 ((k + 1 : Nat) : Int))))
  have HO := Lib.hid (H2.out S rb (k + 1) (d + 1) _ HS2.out hs hkS (by omega) (by omega) (by omega))
  rw [hdr, HM.out] at HO
  have hc1 := hsr1.c1
  have hf1 := hsr1.f 1
  have HLT := Lib.hid HS2.out.lt
  have hwk : IntKind.i64.wrap ((k : Int) + 1) = ((k + 1 : Nat) : Int) := by rw [IntKind.wrap_i64]; omega
  have hwd : IntKind.i64.wrap ((d : Int) + 1) = ((d + 1 : Nat) : Int) := by rw [IntKind.wrap_i64]; omega
  have eK : ((k + 1 : Nat) : Int) = (k : Int) + 1 := by simp
  have eD : ((d + 1 : Nat) : Int) = (d : Int) + 1 := by simp
  rw [eK] at HO HS2 HG2 HLT
  rw [eD] at HO
  obtain ⟨W2, hW2⟩ : ∃ W2, W2 = w1.setCell ⟨rb, 1, none⟩ (.int .i64 ((k : Int) + 1)) := ⟨_, rfl⟩
  rw [← hW2] at HO HS2 HG2 HLT
  have HW2 := Lib.hid hW2
  clear hW2 hsr1 hdr hk4 HM HL H2 HPK HPF
  go_upto_region 7 with fail
  rw [← HW2.out]
  clear hc1 hf1
  go_wp2_with (go_at_call 9; refine HO.out.mono ?_; rintro e w4 hres; obtain ⟨i4, b4, g4, c4, L4, rfl, h41, h42, h43⟩ := hres.rw HLT.out; clear hres; refine Hid.out ?_)
  refine Lib.hid ?_
  have HR4 := Lib.hid (h41.pre HG2.out hlt)
  have HPK2 := Lib.hid (peek_any S rb i4 b4 w4 h41.sr hs (by have := h41.il; omega))
  have H42 := Lib.hid h42
  have H43 := Lib.hid h43
  clear h41 h42 h43 HO
  go_wp2_with (go_at_call 10; refine HPK2.out.mono ?_; rintro e w6 hpk; obtain ⟨rfl, k6, h61, h62, h63, h64, h65⟩ := HR4.out.peek hpk; clear hpk; refine Hid.out ?_)
  refine Lib.hid ?_
  have HR6 := Lib.hid h65
  have H64 := Lib.hid h64
  obtain ⟨pv, hpv⟩ : ∃ pv, pkN (S.data.toList.drop i4) = pv := ⟨_, rfl⟩
  have HPV := Lib.hid hpv
  rw [hpv]
  have hwk6 : IntKind.i64.wrap ((k6 : Int) + 1) = ((k6 + 1 : Nat) : Int) := by rw [IntKind.wrap_i64]; omega
  have eK6 : ((k6 + 1 : Nat) : Int) = (k6 : Int) + 1 := by simp
  by_cases hps : pv = 41
  · have hps' : (pv : Int) = 41 := by omega
    have hc6 := h65.sr.c1
    have hf6 := h65.sr.f 1
    have hcl : ∀ t r, S.data.toList.drop i4 = r → clP t r = some (t, S.data.toList.drop (k6 + 1)) ∧ k6 + 1 ≤ S.size := fun t r e => by
      subst e
      cases hq : skip (S.data.toList.drop i4) with
      | nil => have h9 := HPV.out; unfold pkN at h9; rw [hq] at h9; simp at h9; omega
      | cons x y =>
        have h9 := pk_first hq
        have hx : x = 41 := UInt8.toNat_inj.1 (by rw [← h9, HPV.out, hps]; rfl)
        obtain ⟨a1, a2⟩ := pk_cons hq H64.out
        rw [clP_cons hq, if_pos hx, a1]
        exact ⟨rfl, a2⟩
    have hy1 : b4 = true → R = none := fun hb => by
      cases M with
      | none => exact HE.out.1 rfl
      | some x => have := (H43.out x.1 x.2 rfl).1; rw [hb] at this; cases this
    have hy2 : b4 = false → ∃ t, R = some (t, S.data.toList.drop (k6 + 1)) ∧ k6 + 1 ≤ S.size ∧ Ex L4 (fl t) := fun hb => by
      cases M with
      | none => have := H42.out rfl; rw [hb] at this; cases this
      | some x =>
        obtain ⟨t, r⟩ := x
        obtain ⟨_, e1, e2, e3⟩ := H43.out t r rfl
        obtain ⟨a1, a2⟩ := hcl t r e1
        exact ⟨t, by rw [HE.out.2 t r rfl, a1], a2, e3⟩
    have HFF := Lib.hid ((Rw.seti (HR6.out.up (Nat.le_succ f)) (k6 + 1) (by omega)).done (m := R) ⟨hy1, hy2⟩)
    rw [eK6] at HFF
    clear h64 h65 hpv hcl hps hy1 hy2
    go_wp2
    go_ret
    exact HFF.out
  · have hps' : ¬ (pv : Int) = 41 := by omega
    have hc6 : ∃ u, w6.cell? ⟨rb, 2, none⟩ = some u := ⟨_, h65.sr.c2⟩
    obtain ⟨u6, hc6⟩ := hc6
    have hf6 := h65.sr.f 2
    have HB6 := Lib.hid (h65.setb true)
    have hc7 := HB6.out.sr.c1
    have hf7 := HB6.out.sr.f 1
    have hno : R = none := by
      cases M with
      | none => exact HE.out.1 rfl
      | some x =>
        obtain ⟨t, r⟩ := x
        obtain ⟨_, e1, e2, e3⟩ := H43.out t r rfl
        rw [HE.out.2 t r rfl]
        subst e1
        cases hq : skip (S.data.toList.drop i4) with
        | nil => exact clP_nil hq
        | cons x y =>
          have h9 := pk_first hq
          rw [clP_cons hq, if_neg (fun e => hps (by rw [← HPV.out, h9, e]; rfl))]
    have HFF := Lib.hid ((Rw.seti (HB6.out.up (Nat.le_succ f)) (k6 + 1) (by omega)).done (m := R) ⟨fun _ => hno, fun hb => by cases hb⟩)
    rw [eK6] at HFF
    clear h64 h65 hpv hps hno
    go_wp2
    go_ret
    exact HFF.out
end Go.Proofs.YtklgeahgaeodiaaDoor.cr
