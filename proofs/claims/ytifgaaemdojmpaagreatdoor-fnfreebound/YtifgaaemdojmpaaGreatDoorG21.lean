import Derived.Test.YtifgaaemdojmpaaGreatDoorG20
namespace Go.Proofs.YtifgaaemdojmpaaGreatDoor.pr
open Go.ChangeShapes Go.WideShapes Go.ChangeAt Go.RowKit Go.Deep
open lx (Lx)
open ex (Tr Ex infoE)
set_option linter.unusedVariables false
set_option linter.unusedSimpArgs false

/-! ### The specification's reader: levels -/

theorem sign_fact {l : Ls} {lv i : Nat} {s : ByteArray} (hs : (⟨(signOf l lv i).toArray⟩ : ByteArray) = s) (h : signOf l lv i ≠ []) : s.toList.isEmpty = false := by
  subst hs
  rw [ByteArray.toList_eq, List.isEmpty_eq_false_iff]
  simpa using h
theorem bin_more {l : Ls} {p : Pt} {k i lv : Nat} (h : signOf l lv i ≠ []) (t : Tr) : binL l p lv (k + 1) t i = (rightP l p (if sameLv lv = true then lv else lv + 1) (i + 1)).bind fun r j => if stopsAt lv = true then .ok (.mk 18 ⟨(signOf l lv i).toArray⟩ 0 [t, r]) j else binL l p lv k (.mk 18 ⟨(signOf l lv i).toArray⟩ 0 [t, r]) j := by
  conv => lhs; unfold binL
  rw [if_neg h]
theorem bin_end {l : Ls} {p : Pt} {k i lv : Nat} (h : signOf l lv i = []) (t : Tr) : binL l p lv (k + 1) t i = .ok t i := by
  conv => lhs; unfold binL
  rw [if_pos h]
theorem sign_lt {l : Ls} {lv i : Nat} (h : signOf l lv i ≠ []) : i < l.length := by
  unfold signOf at h
  cases hf : (signsOf lv).find? fun s => isS l i s with
  | none => rw [hf] at h; exact absurd rfl h
  | some s => exact isS_lt (s := s) (by have := List.find?_some hf; simpa using this)
theorem sign_sz {l : Ls} {lv i : Nat} {s : ByteArray} (hs : (⟨(signOf l lv i).toArray⟩ : ByteArray) = s) : s.size ≤ 4000 := by
  subst hs
  have h : (signOf l lv i).length ≤ 4 := by
    unfold signOf
    cases hf : (signsOf lv).find? fun s => isS l i s with
    | none => simp
    | some s =>
      have hm := List.mem_of_find?_eq_some hf
      have : ∀ x ∈ signsOf lv, x.length ≤ 4 := by
        unfold signsOf
        repeat' split
        all_goals simp
      simpa using this s hm
  show (signOf l lv i).toArray.size ≤ 4000
  simp
  omega
theorem Rel.ger {l : Ls} {f lv i0 : Nat} (hlt : Lt l f) {i' : Nat} {b' : Bool} {L : List Ex} (r : Rel (rightP l (P l f) lv i0) i' b' L) (h : b' = false) : i0 < i' := by
  cases hm : rightP l (P l f) lv i0 with
  | bad j => rw [hm] at r; obtain ⟨r1, _⟩ := r; rw [h] at r1; cases r1
  | ok t j => rw [hm] at r; obtain ⟨_, r2, _⟩ := r; rw [r2]; exact right_lt hlt hm


set_option maxRecDepth 100000 in
set_option maxHeartbeats 4000000 in
theorem lv8_any {f : Nat} (hE : CE f) (hV : CV f) (hC : CC f) (hlt : ∀ l, Lt l f) {w : World} {rb cp i0 : Nat} {a : Option Addr} {l : Ls} (h : Rd w rb a cp l i0 false) (hf : FC l i0 8 (f + 1)) :
    Calls Tryz.prog 90 #[.pointer (some ⟨rb, 0, none⟩), .int .i64 8] w fun e w' => SRes w w' rb a cp l (levelP l (P l f) 8 i0) e := by
  obtain ⟨M, hM⟩ : ∃ M, levelP l (P l f) 8 i0 = M := ⟨_, rfl⟩
  rw [hM]
  have HP0 : Hid (Pg M i0 false (fun _ : Unit => True) (fun _ => if isS l i0 [33] = true then (rightP l (P l f) 8 (i0 + 1)).bind fun e j => .ok (.mk 20 noT 0 [e]) j else P l f 9 i0)) := by
    rw [← hM]
    exact Pg.start _ _
  have hrb := h.sr.lt
  have HRB := Lib.hid hrb
  have HNE := Lib.hid h.blk
  have HE := Lib.hid hE
  have HVV := Lib.hid hV
  have HCC := Lib.hid hC
  have HLT := Lib.hid (hlt l)
  have HFC := Lib.hid hf
  have HM0 := Lib.hid (Mv.refl h)
  have c2 := h.sr.c2
  clear h hE hV hC hlt hf hM
  cases hv0 : isS l (i0 + 0) [33] with
  | true =>
    have HV0 := Lib.hid hv0
    replace HP0 := Lib.hid (HP0.out.eq (m' := fun _ => (rightP l (P l f) 8 (i0 + 1)).bind fun e j => .ok (.mk 20 noT 0 [e]) j) fun _ _ _ => if_pos hv0)
    clear hv0
    go_enter Tryz.func90, Tryz.ntmps90
    go_wp2_with (go_at_call 80; refine (lk_is (v := ?_) (k := ?_) HM0 ?_ ?_ ?_).mono ?_; rotate_left 2; exact HV0; exact rfl; decide; rintro e w101 ⟨rfl, hgo101⟩; refine Hid.out ?_)
    refine Lib.hid ?_
    have HM102 := Lib.hid hgo101.1
    clear hgo101
    have hc1_103 := HM102.out.rd.sr.c1
    have hf1_103 := HM102.out.rd.sr.f 1
    have hwr_103 := HM102.out.wr (isS_lt (i := i0) HV0.out)
    have hgo103 := HM102.out.inc (isS_lt (i := i0) HV0.out)
    obtain ⟨w103, hw103⟩ : ∃ W, W = w101.setCell ⟨rb, 1, none⟩ (.int .i64 (((i0 : Nat) : Int) + 1)) := ⟨_, rfl⟩
    rw [← hw103] at hgo103
    have HW103 := Lib.hid hw103
    obtain ⟨i103, hi103⟩ : ∃ z, i0 + 1 = z := ⟨_, rfl⟩
    rw [hi103] at hgo103
    have HI103 := Lib.hid hi103
    have HM104 := Lib.hid hgo103.1
    clear HM102 hgo103 hw103 hi103
    replace HP0 := Lib.hid (by have h1 := HP0.out.pos (i0 + 1); have h2 : i0 + 1 = i103 := HI103.out; rw [h2] at h1; exact h1)
    have HRD105 := Lib.hid (right_any HE.out HVV.out HM104.out.rd 8 (by omega) (by omega) (by have h1 := HFC.out; have h2 := HI103.out; have h3 := isS_lt (i := i0) HV0.out; unfold FC at h1 ⊢; omega))
    go_wp2_with (go_at_call 107; rw [← HW103.out]; refine (st_read HM104 HRD105.out).mono ?_; rintro e w105 ⟨i105, b105, L105, ⟨g105, c105, rfl, ho105, hgo105⟩, hk105, hr105⟩; refine Hid.out ?_)
    refine Lib.hid ?_
    have HM106 := Lib.hid hgo105.1
    have HO105 := Lib.hid ho105
    have HP105 := Lib.hid (HP0.out.read0 hr105.out)
    clear hc1_103 hf1_103 hwr_103 HM104 ho105 hgo105 HRD105 HP0
    go_wp2_with (go_at_call 82; refine (st_make HM106 20 0 HO105 hk105 (by omega)).mono ?_; rintro e w107 ⟨L107, ⟨g107, c107, rfl, ho107, hgo107⟩, HL107⟩; refine Hid.out ?_)
    refine Lib.hid ?_
    have HM108 := Lib.hid hgo107.1
    have HO108e := Lib.hid (HO105.out.step hgo107.2 HRB.out)
    have HO107 := Lib.hid ho107
    have HK107 : Hid (Okn 3001 L107) := by rw [HL107.out]; exact hk105.out.mk 20 0 (by decide)
    clear HO105 HM106 ho107 hgo107
    have HF := Lib.hid (SRes.of HM108 HO107 HK107 (by decide) (Pg.fin HP105.out (T := fun x : Unit × Tr => .mk 20 noT 0 [x.2]) (fun _ x hx => by rw [HL107.out]; exact Xx.mk1 hx.2.l1 20 _ 0)))
    go_wp2_with fail
    go_ret
    exact HF.out
  | false =>
    have HV0 := Lib.hid hv0
    replace HP0 := Lib.hid (HP0.out.eq (m' := fun _ => P l f 9 i0) fun _ _ _ => if_neg (by rw [show isS l i0 [33] = false from hv0]; decide))
    clear hv0
    go_enter Tryz.func90, Tryz.ntmps90
    go_wp2_with (go_at_call 80; refine (lk_is (v := ?_) (k := ?_) HM0 ?_ ?_ ?_).mono ?_; rotate_left 2; exact HV0; exact rfl; decide; rintro e w201 ⟨rfl, hgo201⟩; refine Hid.out ?_)
    refine Lib.hid ?_
    have HM202 := Lib.hid hgo201.1
    clear hgo201
    replace HP0 := Lib.hid (HP0.out.eq (m' := fun _ => (P l f 9 i0).bind fun t j => .ok t j) fun _ _ _ => (bind_id _).symm)
    have HRD203 := Lib.hid (HVV.out w201 rb cp i0 9 a l HM202.out.rd (by omega) (by omega) (by have h1 := HFC.out; unfold FC at h1 ⊢; omega))
    go_wp2_with (go_at_call 90; refine (st_read HM202 HRD203.out).mono ?_; rintro e w203 ⟨i203, b203, L203, ⟨g203, c203, rfl, ho203, hgo203⟩, hk203, hr203⟩; refine Hid.out ?_)
    refine Lib.hid ?_
    have HM204 := Lib.hid hgo203.1
    have HO203 := Lib.hid ho203
    have HP203 := Lib.hid (HP0.out.read0 hr203.out)
    clear HM202 ho203 hgo203 HRD203 HP0
    have HF := Lib.hid (SRes.of HM204 HO203 hk203 (by decide) (Pg.fin HP203.out (T := fun x : Unit × Tr => x.2) (fun _ x hx => hx.2)))
    go_wp2_with fail
    go_ret
    exact HF.out

set_option maxRecDepth 100000 in
set_option maxHeartbeats 4000000 in
theorem lv13_any {f : Nat} (hE : CE f) (hV : CV f) (hC : CC f) (hlt : ∀ l, Lt l f) {w : World} {rb cp i0 : Nat} {a : Option Addr} {l : Ls} (h : Rd w rb a cp l i0 false) (hf : FC l i0 13 (f + 1)) :
    Calls Tryz.prog 90 #[.pointer (some ⟨rb, 0, none⟩), .int .i64 13] w fun e w' => SRes w w' rb a cp l (levelP l (P l f) 13 i0) e := by
  obtain ⟨M, hM⟩ : ∃ M, levelP l (P l f) 13 i0 = M := ⟨_, rfl⟩
  rw [hM]
  have HP0 : Hid (Pg M i0 false (fun _ : Unit => True) (fun _ => if isS l i0 [45] = true then (rightP l (P l f) 13 (i0 + 1)).bind fun e j => .ok (.mk 19 noT 0 [e]) j else P l f 14 i0)) := by
    rw [← hM]
    exact Pg.start _ _
  have hrb := h.sr.lt
  have HRB := Lib.hid hrb
  have HNE := Lib.hid h.blk
  have HE := Lib.hid hE
  have HVV := Lib.hid hV
  have HCC := Lib.hid hC
  have HLT := Lib.hid (hlt l)
  have HFC := Lib.hid hf
  have HM0 := Lib.hid (Mv.refl h)
  have c2 := h.sr.c2
  clear h hE hV hC hlt hf hM
  cases hv0 : isS l (i0 + 0) [45] with
  | true =>
    have HV0 := Lib.hid hv0
    replace HP0 := Lib.hid (HP0.out.eq (m' := fun _ => (rightP l (P l f) 13 (i0 + 1)).bind fun e j => .ok (.mk 19 noT 0 [e]) j) fun _ _ _ => if_pos hv0)
    clear hv0
    go_enter Tryz.func90, Tryz.ntmps90
    go_wp2_with (go_at_call 80; refine (lk_is (v := ?_) (k := ?_) HM0 ?_ ?_ ?_).mono ?_; rotate_left 2; exact HV0; exact rfl; decide; rintro e w101 ⟨rfl, hgo101⟩; refine Hid.out ?_)
    refine Lib.hid ?_
    have HM102 := Lib.hid hgo101.1
    clear hgo101
    have hc1_103 := HM102.out.rd.sr.c1
    have hf1_103 := HM102.out.rd.sr.f 1
    have hwr_103 := HM102.out.wr (isS_lt (i := i0) HV0.out)
    have hgo103 := HM102.out.inc (isS_lt (i := i0) HV0.out)
    obtain ⟨w103, hw103⟩ : ∃ W, W = w101.setCell ⟨rb, 1, none⟩ (.int .i64 (((i0 : Nat) : Int) + 1)) := ⟨_, rfl⟩
    rw [← hw103] at hgo103
    have HW103 := Lib.hid hw103
    obtain ⟨i103, hi103⟩ : ∃ z, i0 + 1 = z := ⟨_, rfl⟩
    rw [hi103] at hgo103
    have HI103 := Lib.hid hi103
    have HM104 := Lib.hid hgo103.1
    clear HM102 hgo103 hw103 hi103
    replace HP0 := Lib.hid (by have h1 := HP0.out.pos (i0 + 1); have h2 : i0 + 1 = i103 := HI103.out; rw [h2] at h1; exact h1)
    have HRD105 := Lib.hid (right_any HE.out HVV.out HM104.out.rd 13 (by omega) (by omega) (by have h1 := HFC.out; have h2 := HI103.out; have h3 := isS_lt (i := i0) HV0.out; unfold FC at h1 ⊢; omega))
    go_wp2_with (go_at_call 107; rw [← HW103.out]; refine (st_read HM104 HRD105.out).mono ?_; rintro e w105 ⟨i105, b105, L105, ⟨g105, c105, rfl, ho105, hgo105⟩, hk105, hr105⟩; refine Hid.out ?_)
    refine Lib.hid ?_
    have HM106 := Lib.hid hgo105.1
    have HO105 := Lib.hid ho105
    have HP105 := Lib.hid (HP0.out.read0 hr105.out)
    clear hc1_103 hf1_103 hwr_103 HM104 ho105 hgo105 HRD105 HP0
    go_wp2_with (go_at_call 82; refine (st_make HM106 19 0 HO105 hk105 (by omega)).mono ?_; rintro e w107 ⟨L107, ⟨g107, c107, rfl, ho107, hgo107⟩, HL107⟩; refine Hid.out ?_)
    refine Lib.hid ?_
    have HM108 := Lib.hid hgo107.1
    have HO108e := Lib.hid (HO105.out.step hgo107.2 HRB.out)
    have HO107 := Lib.hid ho107
    have HK107 : Hid (Okn 3001 L107) := by rw [HL107.out]; exact hk105.out.mk 19 0 (by decide)
    clear HO105 HM106 ho107 hgo107
    have HF := Lib.hid (SRes.of HM108 HO107 HK107 (by decide) (Pg.fin HP105.out (T := fun x : Unit × Tr => .mk 19 noT 0 [x.2]) (fun _ x hx => by rw [HL107.out]; exact Xx.mk1 hx.2.l1 19 _ 0)))
    go_wp2_with fail
    go_ret
    exact HF.out
  | false =>
    have HV0 := Lib.hid hv0
    replace HP0 := Lib.hid (HP0.out.eq (m' := fun _ => P l f 14 i0) fun _ _ _ => if_neg (by rw [show isS l i0 [45] = false from hv0]; decide))
    clear hv0
    go_enter Tryz.func90, Tryz.ntmps90
    go_wp2_with (go_at_call 80; refine (lk_is (v := ?_) (k := ?_) HM0 ?_ ?_ ?_).mono ?_; rotate_left 2; exact HV0; exact rfl; decide; rintro e w201 ⟨rfl, hgo201⟩; refine Hid.out ?_)
    refine Lib.hid ?_
    have HM202 := Lib.hid hgo201.1
    clear hgo201
    replace HP0 := Lib.hid (HP0.out.eq (m' := fun _ => (P l f 14 i0).bind fun t j => .ok t j) fun _ _ _ => (bind_id _).symm)
    have HRD203 := Lib.hid (HCC.out w201 rb cp i0 a l HM202.out.rd (by have h1 := HFC.out; unfold FC at h1 ⊢; omega))
    go_wp2_with (go_at_call 108; refine (st_read HM202 HRD203.out).mono ?_; rintro e w203 ⟨i203, b203, L203, ⟨g203, c203, rfl, ho203, hgo203⟩, hk203, hr203⟩; refine Hid.out ?_)
    refine Lib.hid ?_
    have HM204 := Lib.hid hgo203.1
    have HO203 := Lib.hid ho203
    have HP203 := Lib.hid (HP0.out.read0 hr203.out)
    clear HM202 ho203 hgo203 HRD203 HP0
    have HF := Lib.hid (SRes.of HM204 HO203 hk203 (by decide) (Pg.fin HP203.out (T := fun x : Unit × Tr => x.2) (fun _ x hx => hx.2)))
    go_wp2_with fail
    go_ret
    exact HF.out

set_option maxRecDepth 100000 in
set_option maxHeartbeats 4000000 in
theorem lv12_any {f : Nat} (hE : CE f) (hV : CV f) (hC : CC f) (hlt : ∀ l, Lt l f) {w : World} {rb cp i0 : Nat} {a : Option Addr} {l : Ls} (h : Rd w rb a cp l i0 false) (hf : FC l i0 12 (f + 1)) :
    Calls Tryz.prog 90 #[.pointer (some ⟨rb, 0, none⟩), .int .i64 12] w fun e w' => SRes w w' rb a cp l (levelP l (P l f) 12 i0) e := by
  obtain ⟨M, hM⟩ : ∃ M, levelP l (P l f) 12 i0 = M := ⟨_, rfl⟩
  rw [hM]
  have HP0 : Hid (Pg M i0 false (fun _ : Unit => True) (fun _ => (P l f 13 i0).bind fun e j => hasL l (l.length + 1) e j)) := by
    rw [← hM]
    exact Pg.start _ _
  have hrb := h.sr.lt
  have HRB := Lib.hid hrb
  have HNE := Lib.hid h.blk
  have HE := Lib.hid hE
  have HVV := Lib.hid hV
  have HCC := Lib.hid hC
  have HLT := Lib.hid (hlt l)
  have HFC := Lib.hid hf
  have HM0 := Lib.hid (Mv.refl h)
  have c2 := h.sr.c2
  clear h hE hV hC hlt hf hM
  go_enter Tryz.func90, Tryz.ntmps90
  have HRD1 := Lib.hid (HVV.out w rb cp i0 13 a l HM0.out.rd (by omega) (by omega) (by have h1 := HFC.out; unfold FC at h1 ⊢; omega))
  go_wp2_with (go_at_call 90; refine (st_read HM0 HRD1.out).mono ?_; rintro e w1 ⟨i1, b1, L1, ⟨g1, c1, rfl, ho1, hgo1⟩, hk1, hr1⟩; refine Hid.out ?_)
  refine Lib.hid ?_
  have HM2 := Lib.hid hgo1.1
  have HO1 := Lib.hid ho1
  have HP1 := Lib.hid (HP0.out.read0 hr1.out)
  clear ho1 hgo1 HRD1 HP0
  have HST : Hid (LE (hasL l) w w1 rb cp a l M i0 (.slice (some ⟨g1, 0, none⟩) L1.length c1) (l.length + 1)) := ⟨g1, c1, L1, i1, b1, l.length + 1, rfl, HO1.out, HM2.out, hk1.out, HP1.out.via (fun x => x.2) (fun _ x hx => ⟨hx.2, rfl⟩), (fun hb => ⟨by omega, Rel.ge0 (HLT.out 13 i0) hr1.out hb⟩), by split <;> omega⟩
  clear HP1 HO1 HM2 hk1 hr1
  clear c2
  go_wp2_with fail
  go_loopg [5] (l.length + 1) (fun q v wr => LE (hasL l) w wr rb cp a l M i0 v q)
  case atStart => exact HST.out
  case round =>
    clear HST hrb
    obtain ⟨g, c, L, i, b, k, rfl, ho, hm, hk, hp, hb, hq⟩ := hrel
    have HM0 := Lib.hid hm
    have HO := Lib.hid ho
    have HK := Lib.hid hk
    have HP := Lib.hid hp
    have HBQ := Lib.hid hb
    have HQ : Hid ((if b = true then 0 else l.length + 1 - i) ≤ gk) := hq
    have c2 := hm.rd.sr.c2
    clear ho hm hk hp hb hq
    cases b with
    | true =>
      have HF := Lib.hid (SRes.of HM0 HO HK (by decide) (Pg.fin (T := fun t => t) (Pg.any HP.out) (fun e => by cases e)))
      go_wp2
      go_ret
      exact HF.out
    | false =>
      have HKI : Hid (l.length + 1 ≤ k + i ∧ i0 < i) := HBQ.out rfl
      replace HQ : Hid (l.length + 1 - i ≤ gk) := HQ
      have HIL := Lib.hid HM0.out.rd.le
      obtain ⟨k, rfl⟩ : ∃ z, k = z + 1 := ⟨k - 1, by have h1 := HKI.out; have h2 := HIL.out; omega⟩
      clear HBQ

      cases hv0 : isS l (i + 0) [63] with
      | false =>
        have HV0 := Lib.hid hv0
        replace HP : Hid (Pg M i false (fun t : Tr => Xx L (fl t)) (fun t => .ok t i)) := Lib.hid (HP.out.eq fun _ t _ => has_end (i := i) hv0 t)
        clear hv0
        go_wp2_with (go_at_call 80; refine (lk_is (v := ?_) (k := ?_) HM0 ?_ ?_ ?_).mono ?_; rotate_left 2; exact HV0; exact rfl; decide; rintro e w101 ⟨rfl, hgo101⟩; refine Hid.out ?_)
        refine Lib.hid ?_
        have HM102 := Lib.hid hgo101.1
        have HO102out := Lib.hid (HO.out.step hgo101.2 HRB.out)
        clear HO hgo101
        have HF := Lib.hid (SRes.of HM102 HO102out HK (by decide) (Pg.fin HP.out (T := fun t => t) (fun _ _ hx => hx)))
        go_wp2_with fail
        go_ret
        exact HF.out
      | true =>
        have HV0 := Lib.hid hv0
        replace HP : Hid (Pg M i false (fun t : Tr => Xx L (fl t)) (fun t => ww l (i + 1) fun n j => hasL l k (.mk 17 n 0 [t]) j)) := Lib.hid (HP.out.eq fun _ t _ => has_more (i := i) hv0 t)
        clear hv0
        go_wp2_with (go_at_call 80; refine (lk_is (v := ?_) (k := ?_) HM0 ?_ ?_ ?_).mono ?_; rotate_left 2; exact HV0; exact rfl; decide; rintro e w101 ⟨rfl, hgo101⟩; refine Hid.out ?_)
        refine Lib.hid ?_
        have HM102 := Lib.hid hgo101.1
        have HO102out := Lib.hid (HO.out.step hgo101.2 HRB.out)
        clear HO hgo101
        have hc1_103 := HM102.out.rd.sr.c1
        have hf1_103 := HM102.out.rd.sr.f 1
        have hwr_103 := HM102.out.wr (isS_lt (i := i) HV0.out)
        have hgo103 := HM102.out.inc (isS_lt (i := i) HV0.out)
        obtain ⟨w103, hw103⟩ : ∃ W, W = w101.setCell ⟨rb, 1, none⟩ (.int .i64 (((i : Nat) : Int) + 1)) := ⟨_, rfl⟩
        rw [← hw103] at hgo103
        have HW103 := Lib.hid hw103
        obtain ⟨i103, hi103⟩ : ∃ z, i + 1 = z := ⟨_, rfl⟩
        rw [hi103] at hgo103
        have HI103 := Lib.hid hi103
        have HM104 := Lib.hid hgo103.1
        have HO104out := Lib.hid (HO102out.out.step hgo103.2 HRB.out)
        clear HO102out HM102 hgo103 hw103 hi103
        replace HP : Hid (Pg M i103 false (fun t : Tr => Xx L (fl t)) (fun t => ww l i103 fun n j => hasL l k (.mk 17 n 0 [t]) j)) := Lib.hid (by have h1 := HP.out.pos (i + 1); have h2 : i + 1 = i103 := HI103.out; rw [h2] at h1; exact h1)
        cases hv2 : isW l i103 with
        | false =>
          have HV2 := Lib.hid hv2
          clear hv2
          go_wp2_with (go_at_call 81; rw [← HW103.out]; refine (st_word (v := false) HM104 HV2).mono ?_; rintro e w205 ⟨s205, ⟨rfl, hs205, hz205⟩, hgo205⟩; refine Hid.out ?_)
          refine Lib.hid ?_
          have HM206 := Lib.hid hgo205.1
          have HO206out := Lib.hid (HO104out.out.step hgo205.2 HRB.out)
          have HZ205 := Lib.hid hz205
          replace HM206 : Hid (Mv w w205 rb a cp l i103 true) := HM206
          have HBD : Hid (M = .bad i103) := by
            obtain ⟨x, _, hx⟩ := HP.out.no rfl
            show _ = _
            rw [hx]
            unfold ww
            rw [if_neg (by rw [HV2.out]; decide)]
          clear hc1_103 hf1_103 hwr_103 HO104out HM104 hz205 hgo205 HP
          go_wp2_with (go_at_call 82; refine (st_make HM206 17 0 HO206out HK (by omega)).mono ?_; rintro e w207 ⟨L207, ⟨g207, c207, rfl, ho207, hgo207⟩, HL207⟩; refine Hid.out ?_)
          refine Lib.hid ?_
          have HM208 := Lib.hid hgo207.1
          have HO208out := Lib.hid (HO206out.out.step hgo207.2 HRB.out)
          have HO207 := Lib.hid ho207
          have HK207 : Hid (Okn 3001 L207) := by rw [HL207.out]; exact HK.out.mk 17 0 HZ205.out
          clear HO206out HM206 ho207 hgo207
          have HGE : Hid (true = false → i < i103) := fun e => by cases e
          have HLB : Hid (LE (hasL l) w w207 rb cp a l M i0 (.slice (some ⟨g207, 0, none⟩) L207.length c207) (if true = true then 0 else l.length + 1 - i103)) := ⟨g207, c207, L207, i103, true, k, rfl, HO207.out, HM208.out, HK207.out, ⟨fun _ => HBD.out, fun e => by cases e⟩, (fun hb => by cases hb), Nat.le_refl _⟩
          go_wp2_with fail
          go_roundg 0
          case measure => have h1 := HQ.out; have h2 := HIL.out; omega
          case rel => exact HLB.out
        | true =>
          have HV2 := Lib.hid hv2
          clear hv2
          go_wp2_with (go_at_call 81; rw [← HW103.out]; refine (st_word (v := true) HM104 HV2).mono ?_; rintro e w305 ⟨s305, ⟨rfl, hs305, hz305⟩, hgo305⟩; refine Hid.out ?_)
          refine Lib.hid ?_
          have HM306 := Lib.hid hgo305.1
          have HO306out := Lib.hid (HO104out.out.step hgo305.2 HRB.out)
          have HZ305 := Lib.hid hz305
          have HP305 := Lib.hid (HP.out.word HV2.out hs305.out)
          replace HM306 : Hid (Mv w w305 rb a cp l (i103 + 1) false) := HM306
          obtain ⟨i305, hi305⟩ : ∃ z, i103 + 1 = z := ⟨_, rfl⟩
          rw [hi305] at HM306
          have HI305 := Lib.hid hi305
          have hw9 : wtI false true i103 = i305 := hi305
          have hb9 : wtB false true = false := rfl
          rw [hw9, hb9] at HP305
          clear hw9 hb9
          clear hc1_103 hf1_103 hwr_103 HO104out HM104 hz305 hgo305 HP hi305
          go_wp2_with (go_at_call 82; refine (st_make HM306 17 0 HO306out HK (by omega)).mono ?_; rintro e w307 ⟨L307, ⟨g307, c307, rfl, ho307, hgo307⟩, HL307⟩; refine Hid.out ?_)
          refine Lib.hid ?_
          have HM308 := Lib.hid hgo307.1
          have HO308out := Lib.hid (HO306out.out.step hgo307.2 HRB.out)
          have HO307 := Lib.hid ho307
          have HK307 : Hid (Okn 3001 L307) := by rw [HL307.out]; exact HK.out.mk 17 0 HZ305.out
          clear HO306out HM306 ho307 hgo307
          have HGE : Hid (false = false → i < i305) := fun _ => by have h1 := HI103.out; have h2 := HI305.out; omega
          have HLB : Hid (LE (hasL l) w w307 rb cp a l M i0 (.slice (some ⟨g307, 0, none⟩) L307.length c307) (if false = true then 0 else l.length + 1 - i305)) := ⟨g307, c307, L307, i305, false, k, rfl, HO307.out, HM308.out, HK307.out, HP305.out.via (fun t => .mk 17 s305 0 [t]) (fun _ t hx => ⟨by rw [HL307.out]; exact Xx.mk1 hx.l1 17 _ 0, rfl⟩), (fun hb => by have h1 := HGE.out (by first | exact hb | trivial); have h2 := HKI.out; omega), Nat.le_refl _⟩
          go_wp2_with fail
          go_roundg (l.length + 1 - i305)
          case measure => have h1 := HQ.out; have h2 := HIL.out; have h3 := HGE.out (by trivial); omega
          case rel => exact HLB.out

set_option maxRecDepth 100000 in
set_option maxHeartbeats 4000000 in
theorem lv2_any {f : Nat} (hE : CE f) (hV : CV f) (hC : CC f) (hlt : ∀ l, Lt l f) {w : World} {rb cp i0 : Nat} {a : Option Addr} {l : Ls} (h : Rd w rb a cp l i0 false) (hf : FC l i0 2 (f + 1)) :
    Calls Tryz.prog 90 #[.pointer (some ⟨rb, 0, none⟩), .int .i64 2] w fun e w' => SRes w w' rb a cp l (levelP l (P l f) 2 i0) e := by
  obtain ⟨M, hM⟩ : ∃ M, levelP l (P l f) 2 i0 = M := ⟨_, rfl⟩
  rw [hM]
  have HP0 : Hid (Pg M i0 false (fun _ : Unit => True) (fun _ => (P l f 3 i0).bind fun e j => binL l (P l f) 2 (l.length + 1) e j)) := by
    rw [← hM]
    exact Pg.start _ _
  have hrb := h.sr.lt
  have HRB := Lib.hid hrb
  have HNE := Lib.hid h.blk
  have HE := Lib.hid hE
  have HVV := Lib.hid hV
  have HCC := Lib.hid hC
  have HLT := Lib.hid (hlt l)
  have HFC := Lib.hid hf
  have HM0 := Lib.hid (Mv.refl h)
  have c2 := h.sr.c2
  clear h hE hV hC hlt hf hM
  go_enter Tryz.func90, Tryz.ntmps90
  have HRD1 := Lib.hid (HVV.out w rb cp i0 3 a l HM0.out.rd (by omega) (by omega) (by have h1 := HFC.out; unfold FC at h1 ⊢; omega))
  go_wp2_with (go_at_call 90; refine (st_read HM0 HRD1.out).mono ?_; rintro e w1 ⟨i1, b1, L1, ⟨g1, c1, rfl, ho1, hgo1⟩, hk1, hr1⟩; refine Hid.out ?_)
  refine Lib.hid ?_
  have HM2 := Lib.hid hgo1.1
  have HO1 := Lib.hid ho1
  have HP1 := Lib.hid (HP0.out.read0 hr1.out)
  clear ho1 hgo1 HRD1 HP0
  have HST : Hid (LE (binL l (P l f) 2) w w1 rb cp a l M i0 (.slice (some ⟨g1, 0, none⟩) L1.length c1) (l.length + 1)) := ⟨g1, c1, L1, i1, b1, l.length + 1, rfl, HO1.out, HM2.out, hk1.out, HP1.out.via (fun x => x.2) (fun _ x hx => ⟨hx.2, rfl⟩), (fun hb => ⟨by omega, Rel.ge0 (HLT.out 3 i0) hr1.out hb⟩), by split <;> omega⟩
  clear HP1 HO1 HM2 hk1 hr1
  clear c2
  go_wp2_with fail
  go_loopg [7] (l.length + 1) (fun q v wr => LE (binL l (P l f) 2) w wr rb cp a l M i0 v q)
  case atStart => exact HST.out
  case round =>
    clear HST hrb
    obtain ⟨g, c, L, i, b, k, rfl, ho, hm, hk, hp, hb, hq⟩ := hrel
    have HM0 := Lib.hid hm
    have HO := Lib.hid ho
    have HK := Lib.hid hk
    have HP := Lib.hid hp
    have HBQ := Lib.hid hb
    have HQ : Hid ((if b = true then 0 else l.length + 1 - i) ≤ gk) := hq
    have c2 := hm.rd.sr.c2
    clear ho hm hk hp hb hq
    cases b with
    | true =>
      have HF := Lib.hid (SRes.of HM0 HO HK (by decide) (Pg.fin (T := fun t => t) (Pg.any HP.out) (fun e => by cases e)))
      go_wp2
      go_ret
      exact HF.out
    | false =>
      have HKI : Hid (l.length + 1 ≤ k + i ∧ i0 < i) := HBQ.out rfl
      replace HQ : Hid (l.length + 1 - i ≤ gk) := HQ
      have HIL := Lib.hid HM0.out.rd.le
      obtain ⟨k, rfl⟩ : ∃ z, k = z + 1 := ⟨k - 1, by have h1 := HKI.out; have h2 := HIL.out; omega⟩
      clear HBQ

      by_cases hsg : signOf l 2 i = []
      · have HSG : Hid ((⟨(signOf l 2 i).toArray⟩ : ByteArray) = ⟨#[]⟩) := by rw [hsg]; rfl
        replace HP : Hid (Pg M i false (fun t : Tr => Xx L (fl t)) (fun t => .ok t i)) := Lib.hid (HP.out.eq fun _ t _ => bin_end hsg t)
        clear hsg
        go_wp2_with (go_at_call 109; refine (lk_sign HM0 (lv := 2) (by unfold isLv; omega) HSG).mono ?_; rintro e w101 ⟨rfl, hgo101⟩; refine Hid.out ?_)
        refine Lib.hid ?_
        have HM101 := Lib.hid hgo101.1
        have HO101out := Lib.hid (HO.out.step hgo101.2 HRB.out)
        clear HO hgo101
        have HF := Lib.hid (SRes.of HM101 HO101out HK (by decide) (Pg.fin HP.out (T := fun t => t) (fun _ _ hx => hx)))
        go_wp2_with fail
        go_ret
        exact HF.out
      · have HSN := Lib.hid hsg
        obtain ⟨S, hS⟩ : ∃ S, (⟨(signOf l 2 i).toArray⟩ : ByteArray) = S := ⟨_, rfl⟩
        replace HP : Hid (Pg M i false (fun t : Tr => Xx L (fl t)) (fun t => (rightP l (P l f) 2 (i + 1)).bind fun r j => .ok (.mk 18 S 0 [t, r]) j)) := Lib.hid (HP.out.eq fun _ t _ => by rw [bin_more hsg t, hS]; rfl)
        have hsb := sign_fact hS hsg
        have HSG := Lib.hid hS
        clear hsg hS
        go_wp2_with (go_at_call 109; refine (lk_sign HM0 (lv := 2) (by unfold isLv; omega) HSG).mono ?_; rintro e w201 ⟨rfl, hgo201⟩; refine Hid.out ?_)
        refine Lib.hid ?_
        have HM201 := Lib.hid hgo201.1
        have HO201out := Lib.hid (HO.out.step hgo201.2 HRB.out)
        clear HO hgo201
        have hc1_202 := HM201.out.rd.sr.c1
        have hf1_202 := HM201.out.rd.sr.f 1
        have hwr_202 := HM201.out.wr (sign_lt HSN.out)
        have hgo202 := HM201.out.inc (sign_lt HSN.out)
        obtain ⟨w202, hw202⟩ : ∃ W, W = w201.setCell ⟨rb, 1, none⟩ (.int .i64 (((i : Nat) : Int) + 1)) := ⟨_, rfl⟩
        rw [← hw202] at hgo202
        have HW202 := Lib.hid hw202
        obtain ⟨i202, hi202⟩ : ∃ z, i + 1 = z := ⟨_, rfl⟩
        rw [hi202] at hgo202
        have HI202 := Lib.hid hi202
        have HM203 := Lib.hid hgo202.1
        have HO203out := Lib.hid (HO201out.out.step hgo202.2 HRB.out)
        clear HO201out HM201 hgo202 hw202 hi202
        replace HP : Hid (Pg M i202 false (fun t : Tr => Xx L (fl t)) (fun t => (rightP l (P l f) 2 i202).bind fun r j => .ok (.mk 18 S 0 [t, r]) j)) := Lib.hid (by have h1 := HP.out.pos (i + 1); have h2 : i + 1 = i202 := HI202.out; rw [h2] at h1; exact h1)
        obtain ⟨w204, hw204⟩ : ∃ W, W = w202.alloc (.cells #[] 27) := ⟨_, rfl⟩
        have hgo204 : Go w w202 w204 rb a cp l i202 false := by rw [hw204]; exact ⟨HM203.out.below ((Below.refl _ _).alloc (Nat.le_refl _) _), grb ((Below.refl _ _).alloc (Nat.le_refl _) _)⟩
        have HM205 := Lib.hid hgo204.1
        have HO205out := Lib.hid (HO203out.out.step hgo204.2 HRB.out)
        have HW204 := Lib.hid hw204
        clear HO203out HM203 hgo204 hw204
        have HRD206 := Lib.hid (right_any HE.out HVV.out HM205.out.rd 2 (by omega) (by omega) (by have h1 := HFC.out; have h2 := HI202.out; have h3 := sign_lt HSN.out; have h4 := HKI.out; unfold FC at h1 ⊢; omega))
        go_wp2_with (go_at_call 107; rw [← HW202.out, ← HW204.out]; refine (st_read HM205 HRD206.out).mono ?_; rintro e w206 ⟨i206, b206, L206, ⟨g206, c206, rfl, ho206, hgo206⟩, hk206, hr206⟩; refine Hid.out ?_)
        refine Lib.hid ?_
        have HM207 := Lib.hid hgo206.1
        have HO207out := Lib.hid (HO205out.out.step hgo206.2 HRB.out)
        have HO206 := Lib.hid ho206
        have HP206 := Lib.hid (HP.out.read0 hr206.out)
        clear hc1_202 hf1_202 hwr_202 HO205out HM205 ho206 hgo206 HRD206 HP
        have HGE : Hid (b206 = false → i < i206) := fun hb => by have h1 := Rel.ger HLT.out hr206.out hb; have h2 := HI202.out; omega
        go_wp2_with (go_at_call 88; refine (st_both HM207 HO207out HO206 HK (by omega) hk206 (by omega)).mono ?_; rintro e w208 ⟨L208, ⟨g208, c208, rfl, ho208, hgo208⟩, HL208⟩; refine Hid.out ?_)
        refine Lib.hid ?_
        have HM209 := Lib.hid hgo208.1
        have HO209out := Lib.hid (HO207out.out.step hgo208.2 HRB.out)
        have HO209e := Lib.hid (HO206.out.step hgo208.2 HRB.out)
        have HO208 := Lib.hid ho208
        have HK208 : Hid (Okn 3001 L208) := by rw [HL208.out]; exact HK.out.bo hk206.out
        clear HO207out HO206 HM207 ho208 hgo208
        go_wp2_with (go_at_call 82; refine (st_make HM209 18 0 HO208 HK208 (by omega)).mono ?_; rintro e w210 ⟨L210, ⟨g210, c210, rfl, ho210, hgo210⟩, HL210⟩; refine Hid.out ?_)
        refine Lib.hid ?_
        have HM211 := Lib.hid hgo210.1
        have HO211out := Lib.hid (HO209out.out.step hgo210.2 HRB.out)
        have HO211e := Lib.hid (HO209e.out.step hgo210.2 HRB.out)
        have HO211bo := Lib.hid (HO208.out.step hgo210.2 HRB.out)
        have HO210 := Lib.hid ho210
        have HK210 : Hid (Okn 3001 L210) := by rw [HL210.out]; exact HK208.out.mk 18 0 (sign_sz HSG.out)
        clear HO209out HO209e HO208 HM209 ho210 hgo210
        have HF := Lib.hid (SRes.of HM211 HO210 HK210 (by decide) (Pg.fin HP206.out (T := fun x : Tr × Tr => .mk 18 S 0 [x.1, x.2]) (fun _ x hx => by rw [HL210.out, HL208.out]; exact Xx.mk1 (Xx.bo hx.1.l1 hx.2.l1) 18 _ 0)))
        go_wp2_with fail
        go_ret
        exact HF.out

set_option maxRecDepth 100000 in
set_option maxHeartbeats 4000000 in
theorem lv3_any {f : Nat} (hE : CE f) (hV : CV f) (hC : CC f) (hlt : ∀ l, Lt l f) {w : World} {rb cp i0 : Nat} {a : Option Addr} {l : Ls} (h : Rd w rb a cp l i0 false) (hf : FC l i0 3 (f + 1)) :
    Calls Tryz.prog 90 #[.pointer (some ⟨rb, 0, none⟩), .int .i64 3] w fun e w' => SRes w w' rb a cp l (levelP l (P l f) 3 i0) e := by
  obtain ⟨M, hM⟩ : ∃ M, levelP l (P l f) 3 i0 = M := ⟨_, rfl⟩
  rw [hM]
  have HP0 : Hid (Pg M i0 false (fun _ : Unit => True) (fun _ => (P l f 4 i0).bind fun e j => binL l (P l f) 3 (l.length + 1) e j)) := by
    rw [← hM]
    exact Pg.start _ _
  have hrb := h.sr.lt
  have HRB := Lib.hid hrb
  have HNE := Lib.hid h.blk
  have HE := Lib.hid hE
  have HVV := Lib.hid hV
  have HCC := Lib.hid hC
  have HLT := Lib.hid (hlt l)
  have HFC := Lib.hid hf
  have HM0 := Lib.hid (Mv.refl h)
  have c2 := h.sr.c2
  clear h hE hV hC hlt hf hM
  go_enter Tryz.func90, Tryz.ntmps90
  have HRD1 := Lib.hid (HVV.out w rb cp i0 4 a l HM0.out.rd (by omega) (by omega) (by have h1 := HFC.out; unfold FC at h1 ⊢; omega))
  go_wp2_with (go_at_call 90; refine (st_read HM0 HRD1.out).mono ?_; rintro e w1 ⟨i1, b1, L1, ⟨g1, c1, rfl, ho1, hgo1⟩, hk1, hr1⟩; refine Hid.out ?_)
  refine Lib.hid ?_
  have HM2 := Lib.hid hgo1.1
  have HO1 := Lib.hid ho1
  have HP1 := Lib.hid (HP0.out.read0 hr1.out)
  clear ho1 hgo1 HRD1 HP0
  have HST : Hid (LE (binL l (P l f) 3) w w1 rb cp a l M i0 (.slice (some ⟨g1, 0, none⟩) L1.length c1) (l.length + 1)) := ⟨g1, c1, L1, i1, b1, l.length + 1, rfl, HO1.out, HM2.out, hk1.out, HP1.out.via (fun x => x.2) (fun _ x hx => ⟨hx.2, rfl⟩), (fun hb => ⟨by omega, Rel.ge0 (HLT.out 4 i0) hr1.out hb⟩), by split <;> omega⟩
  clear HP1 HO1 HM2 hk1 hr1
  clear c2
  go_wp2_with fail
  go_loopg [7] (l.length + 1) (fun q v wr => LE (binL l (P l f) 3) w wr rb cp a l M i0 v q)
  case atStart => exact HST.out
  case round =>
    clear HST hrb
    obtain ⟨g, c, L, i, b, k, rfl, ho, hm, hk, hp, hb, hq⟩ := hrel
    have HM0 := Lib.hid hm
    have HO := Lib.hid ho
    have HK := Lib.hid hk
    have HP := Lib.hid hp
    have HBQ := Lib.hid hb
    have HQ : Hid ((if b = true then 0 else l.length + 1 - i) ≤ gk) := hq
    have c2 := hm.rd.sr.c2
    clear ho hm hk hp hb hq
    cases b with
    | true =>
      have HF := Lib.hid (SRes.of HM0 HO HK (by decide) (Pg.fin (T := fun t => t) (Pg.any HP.out) (fun e => by cases e)))
      go_wp2
      go_ret
      exact HF.out
    | false =>
      have HKI : Hid (l.length + 1 ≤ k + i ∧ i0 < i) := HBQ.out rfl
      replace HQ : Hid (l.length + 1 - i ≤ gk) := HQ
      have HIL := Lib.hid HM0.out.rd.le
      obtain ⟨k, rfl⟩ : ∃ z, k = z + 1 := ⟨k - 1, by have h1 := HKI.out; have h2 := HIL.out; omega⟩
      clear HBQ

      by_cases hsg : signOf l 3 i = []
      · have HSG : Hid ((⟨(signOf l 3 i).toArray⟩ : ByteArray) = ⟨#[]⟩) := by rw [hsg]; rfl
        replace HP : Hid (Pg M i false (fun t : Tr => Xx L (fl t)) (fun t => .ok t i)) := Lib.hid (HP.out.eq fun _ t _ => bin_end hsg t)
        clear hsg
        go_wp2_with (go_at_call 109; refine (lk_sign HM0 (lv := 3) (by unfold isLv; omega) HSG).mono ?_; rintro e w101 ⟨rfl, hgo101⟩; refine Hid.out ?_)
        refine Lib.hid ?_
        have HM101 := Lib.hid hgo101.1
        have HO101out := Lib.hid (HO.out.step hgo101.2 HRB.out)
        clear HO hgo101
        have HF := Lib.hid (SRes.of HM101 HO101out HK (by decide) (Pg.fin HP.out (T := fun t => t) (fun _ _ hx => hx)))
        go_wp2_with fail
        go_ret
        exact HF.out
      · have HSN := Lib.hid hsg
        obtain ⟨S, hS⟩ : ∃ S, (⟨(signOf l 3 i).toArray⟩ : ByteArray) = S := ⟨_, rfl⟩
        replace HP : Hid (Pg M i false (fun t : Tr => Xx L (fl t)) (fun t => (rightP l (P l f) 4 (i + 1)).bind fun r j => binL l (P l f) 3 k (.mk 18 S 0 [t, r]) j)) := Lib.hid (HP.out.eq fun _ t _ => by rw [bin_more hsg t, hS]; rfl)
        have hsb := sign_fact hS hsg
        have HSG := Lib.hid hS
        clear hsg hS
        go_wp2_with (go_at_call 109; refine (lk_sign HM0 (lv := 3) (by unfold isLv; omega) HSG).mono ?_; rintro e w201 ⟨rfl, hgo201⟩; refine Hid.out ?_)
        refine Lib.hid ?_
        have HM201 := Lib.hid hgo201.1
        have HO201out := Lib.hid (HO.out.step hgo201.2 HRB.out)
        clear HO hgo201
        have hc1_202 := HM201.out.rd.sr.c1
        have hf1_202 := HM201.out.rd.sr.f 1
        have hwr_202 := HM201.out.wr (sign_lt HSN.out)
        have hgo202 := HM201.out.inc (sign_lt HSN.out)
        obtain ⟨w202, hw202⟩ : ∃ W, W = w201.setCell ⟨rb, 1, none⟩ (.int .i64 (((i : Nat) : Int) + 1)) := ⟨_, rfl⟩
        rw [← hw202] at hgo202
        have HW202 := Lib.hid hw202
        obtain ⟨i202, hi202⟩ : ∃ z, i + 1 = z := ⟨_, rfl⟩
        rw [hi202] at hgo202
        have HI202 := Lib.hid hi202
        have HM203 := Lib.hid hgo202.1
        have HO203out := Lib.hid (HO201out.out.step hgo202.2 HRB.out)
        clear HO201out HM201 hgo202 hw202 hi202
        replace HP : Hid (Pg M i202 false (fun t : Tr => Xx L (fl t)) (fun t => (rightP l (P l f) 4 i202).bind fun r j => binL l (P l f) 3 k (.mk 18 S 0 [t, r]) j)) := Lib.hid (by have h1 := HP.out.pos (i + 1); have h2 : i + 1 = i202 := HI202.out; rw [h2] at h1; exact h1)
        obtain ⟨w204, hw204⟩ : ∃ W, W = w202.alloc (.cells #[] 27) := ⟨_, rfl⟩
        have hgo204 : Go w w202 w204 rb a cp l i202 false := by rw [hw204]; exact ⟨HM203.out.below ((Below.refl _ _).alloc (Nat.le_refl _) _), grb ((Below.refl _ _).alloc (Nat.le_refl _) _)⟩
        have HM205 := Lib.hid hgo204.1
        have HO205out := Lib.hid (HO203out.out.step hgo204.2 HRB.out)
        have HW204 := Lib.hid hw204
        clear HO203out HM203 hgo204 hw204
        have HRD206 := Lib.hid (right_any HE.out HVV.out HM205.out.rd 4 (by omega) (by omega) (by have h1 := HFC.out; have h2 := HI202.out; have h3 := sign_lt HSN.out; have h4 := HKI.out; unfold FC at h1 ⊢; omega))
        go_wp2_with (go_at_call 107; rw [← HW202.out, ← HW204.out]; refine (st_read HM205 HRD206.out).mono ?_; rintro e w206 ⟨i206, b206, L206, ⟨g206, c206, rfl, ho206, hgo206⟩, hk206, hr206⟩; refine Hid.out ?_)
        refine Lib.hid ?_
        have HM207 := Lib.hid hgo206.1
        have HO207out := Lib.hid (HO205out.out.step hgo206.2 HRB.out)
        have HO206 := Lib.hid ho206
        have HP206 := Lib.hid (HP.out.read0 hr206.out)
        clear hc1_202 hf1_202 hwr_202 HO205out HM205 ho206 hgo206 HRD206 HP
        have HGE : Hid (b206 = false → i < i206) := fun hb => by have h1 := Rel.ger HLT.out hr206.out hb; have h2 := HI202.out; omega
        go_wp2_with (go_at_call 88; refine (st_both HM207 HO207out HO206 HK (by omega) hk206 (by omega)).mono ?_; rintro e w208 ⟨L208, ⟨g208, c208, rfl, ho208, hgo208⟩, HL208⟩; refine Hid.out ?_)
        refine Lib.hid ?_
        have HM209 := Lib.hid hgo208.1
        have HO209out := Lib.hid (HO207out.out.step hgo208.2 HRB.out)
        have HO209e := Lib.hid (HO206.out.step hgo208.2 HRB.out)
        have HO208 := Lib.hid ho208
        have HK208 : Hid (Okn 3001 L208) := by rw [HL208.out]; exact HK.out.bo hk206.out
        clear HO207out HO206 HM207 ho208 hgo208
        go_wp2_with (go_at_call 82; refine (st_make HM209 18 0 HO208 HK208 (by omega)).mono ?_; rintro e w210 ⟨L210, ⟨g210, c210, rfl, ho210, hgo210⟩, HL210⟩; refine Hid.out ?_)
        refine Lib.hid ?_
        have HM211 := Lib.hid hgo210.1
        have HO211out := Lib.hid (HO209out.out.step hgo210.2 HRB.out)
        have HO211e := Lib.hid (HO209e.out.step hgo210.2 HRB.out)
        have HO211bo := Lib.hid (HO208.out.step hgo210.2 HRB.out)
        have HO210 := Lib.hid ho210
        have HK210 : Hid (Okn 3001 L210) := by rw [HL210.out]; exact HK208.out.mk 18 0 (sign_sz HSG.out)
        clear HO209out HO209e HO208 HM209 ho210 hgo210
        have HLB : Hid (LE (binL l (P l f) 3) w w210 rb cp a l M i0 (.slice (some ⟨g210, 0, none⟩) L210.length c210) (if b206 = true then 0 else l.length + 1 - i206)) := ⟨g210, c210, L210, i206, b206, k, rfl, HO210.out, HM211.out, HK210.out, HP206.out.via (fun x => .mk 18 S 0 [x.1, x.2]) (fun _ x hx => ⟨by rw [HL210.out, HL208.out]; exact Xx.mk1 (Xx.bo hx.1.l1 hx.2.l1) 18 _ 0, rfl⟩), (fun hb => by have h1 := HGE.out (by first | exact hb | trivial); have h2 := HKI.out; omega), Nat.le_refl _⟩
        go_wp2_with fail
        go_roundg (if b206 = true then 0 else l.length + 1 - i206)
        case measure =>
          have h4 := HQ.out
          have h6 := HIL.out
          by_cases hb : b206 = true
          · rw [if_pos hb]; omega
          · rw [if_neg hb]
            have h1 := HGE.out (by simpa using hb)
            omega
        case rel => exact HLB.out

set_option maxRecDepth 100000 in
set_option maxHeartbeats 4000000 in
theorem lv4_any {f : Nat} (hE : CE f) (hV : CV f) (hC : CC f) (hlt : ∀ l, Lt l f) {w : World} {rb cp i0 : Nat} {a : Option Addr} {l : Ls} (h : Rd w rb a cp l i0 false) (hf : FC l i0 4 (f + 1)) :
    Calls Tryz.prog 90 #[.pointer (some ⟨rb, 0, none⟩), .int .i64 4] w fun e w' => SRes w w' rb a cp l (levelP l (P l f) 4 i0) e := by
  obtain ⟨M, hM⟩ : ∃ M, levelP l (P l f) 4 i0 = M := ⟨_, rfl⟩
  rw [hM]
  have HP0 : Hid (Pg M i0 false (fun _ : Unit => True) (fun _ => (P l f 5 i0).bind fun e j => binL l (P l f) 4 (l.length + 1) e j)) := by
    rw [← hM]
    exact Pg.start _ _
  have hrb := h.sr.lt
  have HRB := Lib.hid hrb
  have HNE := Lib.hid h.blk
  have HE := Lib.hid hE
  have HVV := Lib.hid hV
  have HCC := Lib.hid hC
  have HLT := Lib.hid (hlt l)
  have HFC := Lib.hid hf
  have HM0 := Lib.hid (Mv.refl h)
  have c2 := h.sr.c2
  clear h hE hV hC hlt hf hM
  go_enter Tryz.func90, Tryz.ntmps90
  have HRD1 := Lib.hid (HVV.out w rb cp i0 5 a l HM0.out.rd (by omega) (by omega) (by have h1 := HFC.out; unfold FC at h1 ⊢; omega))
  go_wp2_with (go_at_call 90; refine (st_read HM0 HRD1.out).mono ?_; rintro e w1 ⟨i1, b1, L1, ⟨g1, c1, rfl, ho1, hgo1⟩, hk1, hr1⟩; refine Hid.out ?_)
  refine Lib.hid ?_
  have HM2 := Lib.hid hgo1.1
  have HO1 := Lib.hid ho1
  have HP1 := Lib.hid (HP0.out.read0 hr1.out)
  clear ho1 hgo1 HRD1 HP0
  have HST : Hid (LE (binL l (P l f) 4) w w1 rb cp a l M i0 (.slice (some ⟨g1, 0, none⟩) L1.length c1) (l.length + 1)) := ⟨g1, c1, L1, i1, b1, l.length + 1, rfl, HO1.out, HM2.out, hk1.out, HP1.out.via (fun x => x.2) (fun _ x hx => ⟨hx.2, rfl⟩), (fun hb => ⟨by omega, Rel.ge0 (HLT.out 5 i0) hr1.out hb⟩), by split <;> omega⟩
  clear HP1 HO1 HM2 hk1 hr1
  clear c2
  go_wp2_with fail
  go_loopg [7] (l.length + 1) (fun q v wr => LE (binL l (P l f) 4) w wr rb cp a l M i0 v q)
  case atStart => exact HST.out
  case round =>
    clear HST hrb
    obtain ⟨g, c, L, i, b, k, rfl, ho, hm, hk, hp, hb, hq⟩ := hrel
    have HM0 := Lib.hid hm
    have HO := Lib.hid ho
    have HK := Lib.hid hk
    have HP := Lib.hid hp
    have HBQ := Lib.hid hb
    have HQ : Hid ((if b = true then 0 else l.length + 1 - i) ≤ gk) := hq
    have c2 := hm.rd.sr.c2
    clear ho hm hk hp hb hq
    cases b with
    | true =>
      have HF := Lib.hid (SRes.of HM0 HO HK (by decide) (Pg.fin (T := fun t => t) (Pg.any HP.out) (fun e => by cases e)))
      go_wp2
      go_ret
      exact HF.out
    | false =>
      have HKI : Hid (l.length + 1 ≤ k + i ∧ i0 < i) := HBQ.out rfl
      replace HQ : Hid (l.length + 1 - i ≤ gk) := HQ
      have HIL := Lib.hid HM0.out.rd.le
      obtain ⟨k, rfl⟩ : ∃ z, k = z + 1 := ⟨k - 1, by have h1 := HKI.out; have h2 := HIL.out; omega⟩
      clear HBQ

      by_cases hsg : signOf l 4 i = []
      · have HSG : Hid ((⟨(signOf l 4 i).toArray⟩ : ByteArray) = ⟨#[]⟩) := by rw [hsg]; rfl
        replace HP : Hid (Pg M i false (fun t : Tr => Xx L (fl t)) (fun t => .ok t i)) := Lib.hid (HP.out.eq fun _ t _ => bin_end hsg t)
        clear hsg
        go_wp2_with (go_at_call 109; refine (lk_sign HM0 (lv := 4) (by unfold isLv; omega) HSG).mono ?_; rintro e w101 ⟨rfl, hgo101⟩; refine Hid.out ?_)
        refine Lib.hid ?_
        have HM101 := Lib.hid hgo101.1
        have HO101out := Lib.hid (HO.out.step hgo101.2 HRB.out)
        clear HO hgo101
        have HF := Lib.hid (SRes.of HM101 HO101out HK (by decide) (Pg.fin HP.out (T := fun t => t) (fun _ _ hx => hx)))
        go_wp2_with fail
        go_ret
        exact HF.out
      · have HSN := Lib.hid hsg
        obtain ⟨S, hS⟩ : ∃ S, (⟨(signOf l 4 i).toArray⟩ : ByteArray) = S := ⟨_, rfl⟩
        replace HP : Hid (Pg M i false (fun t : Tr => Xx L (fl t)) (fun t => (rightP l (P l f) 5 (i + 1)).bind fun r j => binL l (P l f) 4 k (.mk 18 S 0 [t, r]) j)) := Lib.hid (HP.out.eq fun _ t _ => by rw [bin_more hsg t, hS]; rfl)
        have hsb := sign_fact hS hsg
        have HSG := Lib.hid hS
        clear hsg hS
        go_wp2_with (go_at_call 109; refine (lk_sign HM0 (lv := 4) (by unfold isLv; omega) HSG).mono ?_; rintro e w201 ⟨rfl, hgo201⟩; refine Hid.out ?_)
        refine Lib.hid ?_
        have HM201 := Lib.hid hgo201.1
        have HO201out := Lib.hid (HO.out.step hgo201.2 HRB.out)
        clear HO hgo201
        have hc1_202 := HM201.out.rd.sr.c1
        have hf1_202 := HM201.out.rd.sr.f 1
        have hwr_202 := HM201.out.wr (sign_lt HSN.out)
        have hgo202 := HM201.out.inc (sign_lt HSN.out)
        obtain ⟨w202, hw202⟩ : ∃ W, W = w201.setCell ⟨rb, 1, none⟩ (.int .i64 (((i : Nat) : Int) + 1)) := ⟨_, rfl⟩
        rw [← hw202] at hgo202
        have HW202 := Lib.hid hw202
        obtain ⟨i202, hi202⟩ : ∃ z, i + 1 = z := ⟨_, rfl⟩
        rw [hi202] at hgo202
        have HI202 := Lib.hid hi202
        have HM203 := Lib.hid hgo202.1
        have HO203out := Lib.hid (HO201out.out.step hgo202.2 HRB.out)
        clear HO201out HM201 hgo202 hw202 hi202
        replace HP : Hid (Pg M i202 false (fun t : Tr => Xx L (fl t)) (fun t => (rightP l (P l f) 5 i202).bind fun r j => binL l (P l f) 4 k (.mk 18 S 0 [t, r]) j)) := Lib.hid (by have h1 := HP.out.pos (i + 1); have h2 : i + 1 = i202 := HI202.out; rw [h2] at h1; exact h1)
        obtain ⟨w204, hw204⟩ : ∃ W, W = w202.alloc (.cells #[] 27) := ⟨_, rfl⟩
        have hgo204 : Go w w202 w204 rb a cp l i202 false := by rw [hw204]; exact ⟨HM203.out.below ((Below.refl _ _).alloc (Nat.le_refl _) _), grb ((Below.refl _ _).alloc (Nat.le_refl _) _)⟩
        have HM205 := Lib.hid hgo204.1
        have HO205out := Lib.hid (HO203out.out.step hgo204.2 HRB.out)
        have HW204 := Lib.hid hw204
        clear HO203out HM203 hgo204 hw204
        have HRD206 := Lib.hid (right_any HE.out HVV.out HM205.out.rd 5 (by omega) (by omega) (by have h1 := HFC.out; have h2 := HI202.out; have h3 := sign_lt HSN.out; have h4 := HKI.out; unfold FC at h1 ⊢; omega))
        go_wp2_with (go_at_call 107; rw [← HW202.out, ← HW204.out]; refine (st_read HM205 HRD206.out).mono ?_; rintro e w206 ⟨i206, b206, L206, ⟨g206, c206, rfl, ho206, hgo206⟩, hk206, hr206⟩; refine Hid.out ?_)
        refine Lib.hid ?_
        have HM207 := Lib.hid hgo206.1
        have HO207out := Lib.hid (HO205out.out.step hgo206.2 HRB.out)
        have HO206 := Lib.hid ho206
        have HP206 := Lib.hid (HP.out.read0 hr206.out)
        clear hc1_202 hf1_202 hwr_202 HO205out HM205 ho206 hgo206 HRD206 HP
        have HGE : Hid (b206 = false → i < i206) := fun hb => by have h1 := Rel.ger HLT.out hr206.out hb; have h2 := HI202.out; omega
        go_wp2_with (go_at_call 88; refine (st_both HM207 HO207out HO206 HK (by omega) hk206 (by omega)).mono ?_; rintro e w208 ⟨L208, ⟨g208, c208, rfl, ho208, hgo208⟩, HL208⟩; refine Hid.out ?_)
        refine Lib.hid ?_
        have HM209 := Lib.hid hgo208.1
        have HO209out := Lib.hid (HO207out.out.step hgo208.2 HRB.out)
        have HO209e := Lib.hid (HO206.out.step hgo208.2 HRB.out)
        have HO208 := Lib.hid ho208
        have HK208 : Hid (Okn 3001 L208) := by rw [HL208.out]; exact HK.out.bo hk206.out
        clear HO207out HO206 HM207 ho208 hgo208
        go_wp2_with (go_at_call 82; refine (st_make HM209 18 0 HO208 HK208 (by omega)).mono ?_; rintro e w210 ⟨L210, ⟨g210, c210, rfl, ho210, hgo210⟩, HL210⟩; refine Hid.out ?_)
        refine Lib.hid ?_
        have HM211 := Lib.hid hgo210.1
        have HO211out := Lib.hid (HO209out.out.step hgo210.2 HRB.out)
        have HO211e := Lib.hid (HO209e.out.step hgo210.2 HRB.out)
        have HO211bo := Lib.hid (HO208.out.step hgo210.2 HRB.out)
        have HO210 := Lib.hid ho210
        have HK210 : Hid (Okn 3001 L210) := by rw [HL210.out]; exact HK208.out.mk 18 0 (sign_sz HSG.out)
        clear HO209out HO209e HO208 HM209 ho210 hgo210
        have HLB : Hid (LE (binL l (P l f) 4) w w210 rb cp a l M i0 (.slice (some ⟨g210, 0, none⟩) L210.length c210) (if b206 = true then 0 else l.length + 1 - i206)) := ⟨g210, c210, L210, i206, b206, k, rfl, HO210.out, HM211.out, HK210.out, HP206.out.via (fun x => .mk 18 S 0 [x.1, x.2]) (fun _ x hx => ⟨by rw [HL210.out, HL208.out]; exact Xx.mk1 (Xx.bo hx.1.l1 hx.2.l1) 18 _ 0, rfl⟩), (fun hb => by have h1 := HGE.out (by first | exact hb | trivial); have h2 := HKI.out; omega), Nat.le_refl _⟩
        go_wp2_with fail
        go_roundg (if b206 = true then 0 else l.length + 1 - i206)
        case measure =>
          have h4 := HQ.out
          have h6 := HIL.out
          by_cases hb : b206 = true
          · rw [if_pos hb]; omega
          · rw [if_neg hb]
            have h1 := HGE.out (by simpa using hb)
            omega
        case rel => exact HLB.out

set_option maxRecDepth 100000 in
set_option maxHeartbeats 4000000 in
theorem lv5_any {f : Nat} (hE : CE f) (hV : CV f) (hC : CC f) (hlt : ∀ l, Lt l f) {w : World} {rb cp i0 : Nat} {a : Option Addr} {l : Ls} (h : Rd w rb a cp l i0 false) (hf : FC l i0 5 (f + 1)) :
    Calls Tryz.prog 90 #[.pointer (some ⟨rb, 0, none⟩), .int .i64 5] w fun e w' => SRes w w' rb a cp l (levelP l (P l f) 5 i0) e := by
  obtain ⟨M, hM⟩ : ∃ M, levelP l (P l f) 5 i0 = M := ⟨_, rfl⟩
  rw [hM]
  have HP0 : Hid (Pg M i0 false (fun _ : Unit => True) (fun _ => (P l f 6 i0).bind fun e j => binL l (P l f) 5 (l.length + 1) e j)) := by
    rw [← hM]
    exact Pg.start _ _
  have hrb := h.sr.lt
  have HRB := Lib.hid hrb
  have HNE := Lib.hid h.blk
  have HE := Lib.hid hE
  have HVV := Lib.hid hV
  have HCC := Lib.hid hC
  have HLT := Lib.hid (hlt l)
  have HFC := Lib.hid hf
  have HM0 := Lib.hid (Mv.refl h)
  have c2 := h.sr.c2
  clear h hE hV hC hlt hf hM
  go_enter Tryz.func90, Tryz.ntmps90
  have HRD1 := Lib.hid (HVV.out w rb cp i0 6 a l HM0.out.rd (by omega) (by omega) (by have h1 := HFC.out; unfold FC at h1 ⊢; omega))
  go_wp2_with (go_at_call 90; refine (st_read HM0 HRD1.out).mono ?_; rintro e w1 ⟨i1, b1, L1, ⟨g1, c1, rfl, ho1, hgo1⟩, hk1, hr1⟩; refine Hid.out ?_)
  refine Lib.hid ?_
  have HM2 := Lib.hid hgo1.1
  have HO1 := Lib.hid ho1
  have HP1 := Lib.hid (HP0.out.read0 hr1.out)
  clear ho1 hgo1 HRD1 HP0
  have HST : Hid (LE (binL l (P l f) 5) w w1 rb cp a l M i0 (.slice (some ⟨g1, 0, none⟩) L1.length c1) (l.length + 1)) := ⟨g1, c1, L1, i1, b1, l.length + 1, rfl, HO1.out, HM2.out, hk1.out, HP1.out.via (fun x => x.2) (fun _ x hx => ⟨hx.2, rfl⟩), (fun hb => ⟨by omega, Rel.ge0 (HLT.out 6 i0) hr1.out hb⟩), by split <;> omega⟩
  clear HP1 HO1 HM2 hk1 hr1
  clear c2
  go_wp2_with fail
  go_loopg [7] (l.length + 1) (fun q v wr => LE (binL l (P l f) 5) w wr rb cp a l M i0 v q)
  case atStart => exact HST.out
  case round =>
    clear HST hrb
    obtain ⟨g, c, L, i, b, k, rfl, ho, hm, hk, hp, hb, hq⟩ := hrel
    have HM0 := Lib.hid hm
    have HO := Lib.hid ho
    have HK := Lib.hid hk
    have HP := Lib.hid hp
    have HBQ := Lib.hid hb
    have HQ : Hid ((if b = true then 0 else l.length + 1 - i) ≤ gk) := hq
    have c2 := hm.rd.sr.c2
    clear ho hm hk hp hb hq
    cases b with
    | true =>
      have HF := Lib.hid (SRes.of HM0 HO HK (by decide) (Pg.fin (T := fun t => t) (Pg.any HP.out) (fun e => by cases e)))
      go_wp2
      go_ret
      exact HF.out
    | false =>
      have HKI : Hid (l.length + 1 ≤ k + i ∧ i0 < i) := HBQ.out rfl
      replace HQ : Hid (l.length + 1 - i ≤ gk) := HQ
      have HIL := Lib.hid HM0.out.rd.le
      obtain ⟨k, rfl⟩ : ∃ z, k = z + 1 := ⟨k - 1, by have h1 := HKI.out; have h2 := HIL.out; omega⟩
      clear HBQ

      by_cases hsg : signOf l 5 i = []
      · have HSG : Hid ((⟨(signOf l 5 i).toArray⟩ : ByteArray) = ⟨#[]⟩) := by rw [hsg]; rfl
        replace HP : Hid (Pg M i false (fun t : Tr => Xx L (fl t)) (fun t => .ok t i)) := Lib.hid (HP.out.eq fun _ t _ => bin_end hsg t)
        clear hsg
        go_wp2_with (go_at_call 109; refine (lk_sign HM0 (lv := 5) (by unfold isLv; omega) HSG).mono ?_; rintro e w101 ⟨rfl, hgo101⟩; refine Hid.out ?_)
        refine Lib.hid ?_
        have HM101 := Lib.hid hgo101.1
        have HO101out := Lib.hid (HO.out.step hgo101.2 HRB.out)
        clear HO hgo101
        have HF := Lib.hid (SRes.of HM101 HO101out HK (by decide) (Pg.fin HP.out (T := fun t => t) (fun _ _ hx => hx)))
        go_wp2_with fail
        go_ret
        exact HF.out
      · have HSN := Lib.hid hsg
        obtain ⟨S, hS⟩ : ∃ S, (⟨(signOf l 5 i).toArray⟩ : ByteArray) = S := ⟨_, rfl⟩
        replace HP : Hid (Pg M i false (fun t : Tr => Xx L (fl t)) (fun t => (rightP l (P l f) 6 (i + 1)).bind fun r j => .ok (.mk 18 S 0 [t, r]) j)) := Lib.hid (HP.out.eq fun _ t _ => by rw [bin_more hsg t, hS]; rfl)
        have hsb := sign_fact hS hsg
        have HSG := Lib.hid hS
        clear hsg hS
        go_wp2_with (go_at_call 109; refine (lk_sign HM0 (lv := 5) (by unfold isLv; omega) HSG).mono ?_; rintro e w201 ⟨rfl, hgo201⟩; refine Hid.out ?_)
        refine Lib.hid ?_
        have HM201 := Lib.hid hgo201.1
        have HO201out := Lib.hid (HO.out.step hgo201.2 HRB.out)
        clear HO hgo201
        have hc1_202 := HM201.out.rd.sr.c1
        have hf1_202 := HM201.out.rd.sr.f 1
        have hwr_202 := HM201.out.wr (sign_lt HSN.out)
        have hgo202 := HM201.out.inc (sign_lt HSN.out)
        obtain ⟨w202, hw202⟩ : ∃ W, W = w201.setCell ⟨rb, 1, none⟩ (.int .i64 (((i : Nat) : Int) + 1)) := ⟨_, rfl⟩
        rw [← hw202] at hgo202
        have HW202 := Lib.hid hw202
        obtain ⟨i202, hi202⟩ : ∃ z, i + 1 = z := ⟨_, rfl⟩
        rw [hi202] at hgo202
        have HI202 := Lib.hid hi202
        have HM203 := Lib.hid hgo202.1
        have HO203out := Lib.hid (HO201out.out.step hgo202.2 HRB.out)
        clear HO201out HM201 hgo202 hw202 hi202
        replace HP : Hid (Pg M i202 false (fun t : Tr => Xx L (fl t)) (fun t => (rightP l (P l f) 6 i202).bind fun r j => .ok (.mk 18 S 0 [t, r]) j)) := Lib.hid (by have h1 := HP.out.pos (i + 1); have h2 : i + 1 = i202 := HI202.out; rw [h2] at h1; exact h1)
        obtain ⟨w204, hw204⟩ : ∃ W, W = w202.alloc (.cells #[] 27) := ⟨_, rfl⟩
        have hgo204 : Go w w202 w204 rb a cp l i202 false := by rw [hw204]; exact ⟨HM203.out.below ((Below.refl _ _).alloc (Nat.le_refl _) _), grb ((Below.refl _ _).alloc (Nat.le_refl _) _)⟩
        have HM205 := Lib.hid hgo204.1
        have HO205out := Lib.hid (HO203out.out.step hgo204.2 HRB.out)
        have HW204 := Lib.hid hw204
        clear HO203out HM203 hgo204 hw204
        have HRD206 := Lib.hid (right_any HE.out HVV.out HM205.out.rd 6 (by omega) (by omega) (by have h1 := HFC.out; have h2 := HI202.out; have h3 := sign_lt HSN.out; have h4 := HKI.out; unfold FC at h1 ⊢; omega))
        go_wp2_with (go_at_call 107; rw [← HW202.out, ← HW204.out]; refine (st_read HM205 HRD206.out).mono ?_; rintro e w206 ⟨i206, b206, L206, ⟨g206, c206, rfl, ho206, hgo206⟩, hk206, hr206⟩; refine Hid.out ?_)
        refine Lib.hid ?_
        have HM207 := Lib.hid hgo206.1
        have HO207out := Lib.hid (HO205out.out.step hgo206.2 HRB.out)
        have HO206 := Lib.hid ho206
        have HP206 := Lib.hid (HP.out.read0 hr206.out)
        clear hc1_202 hf1_202 hwr_202 HO205out HM205 ho206 hgo206 HRD206 HP
        have HGE : Hid (b206 = false → i < i206) := fun hb => by have h1 := Rel.ger HLT.out hr206.out hb; have h2 := HI202.out; omega
        go_wp2_with (go_at_call 88; refine (st_both HM207 HO207out HO206 HK (by omega) hk206 (by omega)).mono ?_; rintro e w208 ⟨L208, ⟨g208, c208, rfl, ho208, hgo208⟩, HL208⟩; refine Hid.out ?_)
        refine Lib.hid ?_
        have HM209 := Lib.hid hgo208.1
        have HO209out := Lib.hid (HO207out.out.step hgo208.2 HRB.out)
        have HO209e := Lib.hid (HO206.out.step hgo208.2 HRB.out)
        have HO208 := Lib.hid ho208
        have HK208 : Hid (Okn 3001 L208) := by rw [HL208.out]; exact HK.out.bo hk206.out
        clear HO207out HO206 HM207 ho208 hgo208
        go_wp2_with (go_at_call 82; refine (st_make HM209 18 0 HO208 HK208 (by omega)).mono ?_; rintro e w210 ⟨L210, ⟨g210, c210, rfl, ho210, hgo210⟩, HL210⟩; refine Hid.out ?_)
        refine Lib.hid ?_
        have HM211 := Lib.hid hgo210.1
        have HO211out := Lib.hid (HO209out.out.step hgo210.2 HRB.out)
        have HO211e := Lib.hid (HO209e.out.step hgo210.2 HRB.out)
        have HO211bo := Lib.hid (HO208.out.step hgo210.2 HRB.out)
        have HO210 := Lib.hid ho210
        have HK210 : Hid (Okn 3001 L210) := by rw [HL210.out]; exact HK208.out.mk 18 0 (sign_sz HSG.out)
        clear HO209out HO209e HO208 HM209 ho210 hgo210
        have HF := Lib.hid (SRes.of HM211 HO210 HK210 (by decide) (Pg.fin HP206.out (T := fun x : Tr × Tr => .mk 18 S 0 [x.1, x.2]) (fun _ x hx => by rw [HL210.out, HL208.out]; exact Xx.mk1 (Xx.bo hx.1.l1 hx.2.l1) 18 _ 0)))
        go_wp2_with fail
        go_ret
        exact HF.out

set_option maxRecDepth 100000 in
set_option maxHeartbeats 4000000 in
theorem lv6_any {f : Nat} (hE : CE f) (hV : CV f) (hC : CC f) (hlt : ∀ l, Lt l f) {w : World} {rb cp i0 : Nat} {a : Option Addr} {l : Ls} (h : Rd w rb a cp l i0 false) (hf : FC l i0 6 (f + 1)) :
    Calls Tryz.prog 90 #[.pointer (some ⟨rb, 0, none⟩), .int .i64 6] w fun e w' => SRes w w' rb a cp l (levelP l (P l f) 6 i0) e := by
  obtain ⟨M, hM⟩ : ∃ M, levelP l (P l f) 6 i0 = M := ⟨_, rfl⟩
  rw [hM]
  have HP0 : Hid (Pg M i0 false (fun _ : Unit => True) (fun _ => (P l f 7 i0).bind fun e j => binL l (P l f) 6 (l.length + 1) e j)) := by
    rw [← hM]
    exact Pg.start _ _
  have hrb := h.sr.lt
  have HRB := Lib.hid hrb
  have HNE := Lib.hid h.blk
  have HE := Lib.hid hE
  have HVV := Lib.hid hV
  have HCC := Lib.hid hC
  have HLT := Lib.hid (hlt l)
  have HFC := Lib.hid hf
  have HM0 := Lib.hid (Mv.refl h)
  have c2 := h.sr.c2
  clear h hE hV hC hlt hf hM
  go_enter Tryz.func90, Tryz.ntmps90
  have HRD1 := Lib.hid (HVV.out w rb cp i0 7 a l HM0.out.rd (by omega) (by omega) (by have h1 := HFC.out; unfold FC at h1 ⊢; omega))
  go_wp2_with (go_at_call 90; refine (st_read HM0 HRD1.out).mono ?_; rintro e w1 ⟨i1, b1, L1, ⟨g1, c1, rfl, ho1, hgo1⟩, hk1, hr1⟩; refine Hid.out ?_)
  refine Lib.hid ?_
  have HM2 := Lib.hid hgo1.1
  have HO1 := Lib.hid ho1
  have HP1 := Lib.hid (HP0.out.read0 hr1.out)
  clear ho1 hgo1 HRD1 HP0
  have HST : Hid (LE (binL l (P l f) 6) w w1 rb cp a l M i0 (.slice (some ⟨g1, 0, none⟩) L1.length c1) (l.length + 1)) := ⟨g1, c1, L1, i1, b1, l.length + 1, rfl, HO1.out, HM2.out, hk1.out, HP1.out.via (fun x => x.2) (fun _ x hx => ⟨hx.2, rfl⟩), (fun hb => ⟨by omega, Rel.ge0 (HLT.out 7 i0) hr1.out hb⟩), by split <;> omega⟩
  clear HP1 HO1 HM2 hk1 hr1
  clear c2
  go_wp2_with fail
  go_loopg [7] (l.length + 1) (fun q v wr => LE (binL l (P l f) 6) w wr rb cp a l M i0 v q)
  case atStart => exact HST.out
  case round =>
    clear HST hrb
    obtain ⟨g, c, L, i, b, k, rfl, ho, hm, hk, hp, hb, hq⟩ := hrel
    have HM0 := Lib.hid hm
    have HO := Lib.hid ho
    have HK := Lib.hid hk
    have HP := Lib.hid hp
    have HBQ := Lib.hid hb
    have HQ : Hid ((if b = true then 0 else l.length + 1 - i) ≤ gk) := hq
    have c2 := hm.rd.sr.c2
    clear ho hm hk hp hb hq
    cases b with
    | true =>
      have HF := Lib.hid (SRes.of HM0 HO HK (by decide) (Pg.fin (T := fun t => t) (Pg.any HP.out) (fun e => by cases e)))
      go_wp2
      go_ret
      exact HF.out
    | false =>
      have HKI : Hid (l.length + 1 ≤ k + i ∧ i0 < i) := HBQ.out rfl
      replace HQ : Hid (l.length + 1 - i ≤ gk) := HQ
      have HIL := Lib.hid HM0.out.rd.le
      obtain ⟨k, rfl⟩ : ∃ z, k = z + 1 := ⟨k - 1, by have h1 := HKI.out; have h2 := HIL.out; omega⟩
      clear HBQ

      by_cases hsg : signOf l 6 i = []
      · have HSG : Hid ((⟨(signOf l 6 i).toArray⟩ : ByteArray) = ⟨#[]⟩) := by rw [hsg]; rfl
        replace HP : Hid (Pg M i false (fun t : Tr => Xx L (fl t)) (fun t => .ok t i)) := Lib.hid (HP.out.eq fun _ t _ => bin_end hsg t)
        clear hsg
        go_wp2_with (go_at_call 109; refine (lk_sign HM0 (lv := 6) (by unfold isLv; omega) HSG).mono ?_; rintro e w101 ⟨rfl, hgo101⟩; refine Hid.out ?_)
        refine Lib.hid ?_
        have HM101 := Lib.hid hgo101.1
        have HO101out := Lib.hid (HO.out.step hgo101.2 HRB.out)
        clear HO hgo101
        have HF := Lib.hid (SRes.of HM101 HO101out HK (by decide) (Pg.fin HP.out (T := fun t => t) (fun _ _ hx => hx)))
        go_wp2_with fail
        go_ret
        exact HF.out
      · have HSN := Lib.hid hsg
        obtain ⟨S, hS⟩ : ∃ S, (⟨(signOf l 6 i).toArray⟩ : ByteArray) = S := ⟨_, rfl⟩
        replace HP : Hid (Pg M i false (fun t : Tr => Xx L (fl t)) (fun t => (rightP l (P l f) 7 (i + 1)).bind fun r j => .ok (.mk 18 S 0 [t, r]) j)) := Lib.hid (HP.out.eq fun _ t _ => by rw [bin_more hsg t, hS]; rfl)
        have hsb := sign_fact hS hsg
        have HSG := Lib.hid hS
        clear hsg hS
        go_wp2_with (go_at_call 109; refine (lk_sign HM0 (lv := 6) (by unfold isLv; omega) HSG).mono ?_; rintro e w201 ⟨rfl, hgo201⟩; refine Hid.out ?_)
        refine Lib.hid ?_
        have HM201 := Lib.hid hgo201.1
        have HO201out := Lib.hid (HO.out.step hgo201.2 HRB.out)
        clear HO hgo201
        have hc1_202 := HM201.out.rd.sr.c1
        have hf1_202 := HM201.out.rd.sr.f 1
        have hwr_202 := HM201.out.wr (sign_lt HSN.out)
        have hgo202 := HM201.out.inc (sign_lt HSN.out)
        obtain ⟨w202, hw202⟩ : ∃ W, W = w201.setCell ⟨rb, 1, none⟩ (.int .i64 (((i : Nat) : Int) + 1)) := ⟨_, rfl⟩
        rw [← hw202] at hgo202
        have HW202 := Lib.hid hw202
        obtain ⟨i202, hi202⟩ : ∃ z, i + 1 = z := ⟨_, rfl⟩
        rw [hi202] at hgo202
        have HI202 := Lib.hid hi202
        have HM203 := Lib.hid hgo202.1
        have HO203out := Lib.hid (HO201out.out.step hgo202.2 HRB.out)
        clear HO201out HM201 hgo202 hw202 hi202
        replace HP : Hid (Pg M i202 false (fun t : Tr => Xx L (fl t)) (fun t => (rightP l (P l f) 7 i202).bind fun r j => .ok (.mk 18 S 0 [t, r]) j)) := Lib.hid (by have h1 := HP.out.pos (i + 1); have h2 : i + 1 = i202 := HI202.out; rw [h2] at h1; exact h1)
        obtain ⟨w204, hw204⟩ : ∃ W, W = w202.alloc (.cells #[] 27) := ⟨_, rfl⟩
        have hgo204 : Go w w202 w204 rb a cp l i202 false := by rw [hw204]; exact ⟨HM203.out.below ((Below.refl _ _).alloc (Nat.le_refl _) _), grb ((Below.refl _ _).alloc (Nat.le_refl _) _)⟩
        have HM205 := Lib.hid hgo204.1
        have HO205out := Lib.hid (HO203out.out.step hgo204.2 HRB.out)
        have HW204 := Lib.hid hw204
        clear HO203out HM203 hgo204 hw204
        have HRD206 := Lib.hid (right_any HE.out HVV.out HM205.out.rd 7 (by omega) (by omega) (by have h1 := HFC.out; have h2 := HI202.out; have h3 := sign_lt HSN.out; have h4 := HKI.out; unfold FC at h1 ⊢; omega))
        go_wp2_with (go_at_call 107; rw [← HW202.out, ← HW204.out]; refine (st_read HM205 HRD206.out).mono ?_; rintro e w206 ⟨i206, b206, L206, ⟨g206, c206, rfl, ho206, hgo206⟩, hk206, hr206⟩; refine Hid.out ?_)
        refine Lib.hid ?_
        have HM207 := Lib.hid hgo206.1
        have HO207out := Lib.hid (HO205out.out.step hgo206.2 HRB.out)
        have HO206 := Lib.hid ho206
        have HP206 := Lib.hid (HP.out.read0 hr206.out)
        clear hc1_202 hf1_202 hwr_202 HO205out HM205 ho206 hgo206 HRD206 HP
        have HGE : Hid (b206 = false → i < i206) := fun hb => by have h1 := Rel.ger HLT.out hr206.out hb; have h2 := HI202.out; omega
        go_wp2_with (go_at_call 88; refine (st_both HM207 HO207out HO206 HK (by omega) hk206 (by omega)).mono ?_; rintro e w208 ⟨L208, ⟨g208, c208, rfl, ho208, hgo208⟩, HL208⟩; refine Hid.out ?_)
        refine Lib.hid ?_
        have HM209 := Lib.hid hgo208.1
        have HO209out := Lib.hid (HO207out.out.step hgo208.2 HRB.out)
        have HO209e := Lib.hid (HO206.out.step hgo208.2 HRB.out)
        have HO208 := Lib.hid ho208
        have HK208 : Hid (Okn 3001 L208) := by rw [HL208.out]; exact HK.out.bo hk206.out
        clear HO207out HO206 HM207 ho208 hgo208
        go_wp2_with (go_at_call 82; refine (st_make HM209 18 0 HO208 HK208 (by omega)).mono ?_; rintro e w210 ⟨L210, ⟨g210, c210, rfl, ho210, hgo210⟩, HL210⟩; refine Hid.out ?_)
        refine Lib.hid ?_
        have HM211 := Lib.hid hgo210.1
        have HO211out := Lib.hid (HO209out.out.step hgo210.2 HRB.out)
        have HO211e := Lib.hid (HO209e.out.step hgo210.2 HRB.out)
        have HO211bo := Lib.hid (HO208.out.step hgo210.2 HRB.out)
        have HO210 := Lib.hid ho210
        have HK210 : Hid (Okn 3001 L210) := by rw [HL210.out]; exact HK208.out.mk 18 0 (sign_sz HSG.out)
        clear HO209out HO209e HO208 HM209 ho210 hgo210
        have HF := Lib.hid (SRes.of HM211 HO210 HK210 (by decide) (Pg.fin HP206.out (T := fun x : Tr × Tr => .mk 18 S 0 [x.1, x.2]) (fun _ x hx => by rw [HL210.out, HL208.out]; exact Xx.mk1 (Xx.bo hx.1.l1 hx.2.l1) 18 _ 0)))
        go_wp2_with fail
        go_ret
        exact HF.out

set_option maxRecDepth 100000 in
set_option maxHeartbeats 4000000 in
theorem lv7_any {f : Nat} (hE : CE f) (hV : CV f) (hC : CC f) (hlt : ∀ l, Lt l f) {w : World} {rb cp i0 : Nat} {a : Option Addr} {l : Ls} (h : Rd w rb a cp l i0 false) (hf : FC l i0 7 (f + 1)) :
    Calls Tryz.prog 90 #[.pointer (some ⟨rb, 0, none⟩), .int .i64 7] w fun e w' => SRes w w' rb a cp l (levelP l (P l f) 7 i0) e := by
  obtain ⟨M, hM⟩ : ∃ M, levelP l (P l f) 7 i0 = M := ⟨_, rfl⟩
  rw [hM]
  have HP0 : Hid (Pg M i0 false (fun _ : Unit => True) (fun _ => (P l f 8 i0).bind fun e j => binL l (P l f) 7 (l.length + 1) e j)) := by
    rw [← hM]
    exact Pg.start _ _
  have hrb := h.sr.lt
  have HRB := Lib.hid hrb
  have HNE := Lib.hid h.blk
  have HE := Lib.hid hE
  have HVV := Lib.hid hV
  have HCC := Lib.hid hC
  have HLT := Lib.hid (hlt l)
  have HFC := Lib.hid hf
  have HM0 := Lib.hid (Mv.refl h)
  have c2 := h.sr.c2
  clear h hE hV hC hlt hf hM
  go_enter Tryz.func90, Tryz.ntmps90
  have HRD1 := Lib.hid (HVV.out w rb cp i0 8 a l HM0.out.rd (by omega) (by omega) (by have h1 := HFC.out; unfold FC at h1 ⊢; omega))
  go_wp2_with (go_at_call 90; refine (st_read HM0 HRD1.out).mono ?_; rintro e w1 ⟨i1, b1, L1, ⟨g1, c1, rfl, ho1, hgo1⟩, hk1, hr1⟩; refine Hid.out ?_)
  refine Lib.hid ?_
  have HM2 := Lib.hid hgo1.1
  have HO1 := Lib.hid ho1
  have HP1 := Lib.hid (HP0.out.read0 hr1.out)
  clear ho1 hgo1 HRD1 HP0
  have HST : Hid (LE (binL l (P l f) 7) w w1 rb cp a l M i0 (.slice (some ⟨g1, 0, none⟩) L1.length c1) (l.length + 1)) := ⟨g1, c1, L1, i1, b1, l.length + 1, rfl, HO1.out, HM2.out, hk1.out, HP1.out.via (fun x => x.2) (fun _ x hx => ⟨hx.2, rfl⟩), (fun hb => ⟨by omega, Rel.ge0 (HLT.out 8 i0) hr1.out hb⟩), by split <;> omega⟩
  clear HP1 HO1 HM2 hk1 hr1
  clear c2
  go_wp2_with fail
  go_loopg [7] (l.length + 1) (fun q v wr => LE (binL l (P l f) 7) w wr rb cp a l M i0 v q)
  case atStart => exact HST.out
  case round =>
    clear HST hrb
    obtain ⟨g, c, L, i, b, k, rfl, ho, hm, hk, hp, hb, hq⟩ := hrel
    have HM0 := Lib.hid hm
    have HO := Lib.hid ho
    have HK := Lib.hid hk
    have HP := Lib.hid hp
    have HBQ := Lib.hid hb
    have HQ : Hid ((if b = true then 0 else l.length + 1 - i) ≤ gk) := hq
    have c2 := hm.rd.sr.c2
    clear ho hm hk hp hb hq
    cases b with
    | true =>
      have HF := Lib.hid (SRes.of HM0 HO HK (by decide) (Pg.fin (T := fun t => t) (Pg.any HP.out) (fun e => by cases e)))
      go_wp2
      go_ret
      exact HF.out
    | false =>
      have HKI : Hid (l.length + 1 ≤ k + i ∧ i0 < i) := HBQ.out rfl
      replace HQ : Hid (l.length + 1 - i ≤ gk) := HQ
      have HIL := Lib.hid HM0.out.rd.le
      obtain ⟨k, rfl⟩ : ∃ z, k = z + 1 := ⟨k - 1, by have h1 := HKI.out; have h2 := HIL.out; omega⟩
      clear HBQ

      by_cases hsg : signOf l 7 i = []
      · have HSG : Hid ((⟨(signOf l 7 i).toArray⟩ : ByteArray) = ⟨#[]⟩) := by rw [hsg]; rfl
        replace HP : Hid (Pg M i false (fun t : Tr => Xx L (fl t)) (fun t => .ok t i)) := Lib.hid (HP.out.eq fun _ t _ => bin_end hsg t)
        clear hsg
        go_wp2_with (go_at_call 109; refine (lk_sign HM0 (lv := 7) (by unfold isLv; omega) HSG).mono ?_; rintro e w101 ⟨rfl, hgo101⟩; refine Hid.out ?_)
        refine Lib.hid ?_
        have HM101 := Lib.hid hgo101.1
        have HO101out := Lib.hid (HO.out.step hgo101.2 HRB.out)
        clear HO hgo101
        have HF := Lib.hid (SRes.of HM101 HO101out HK (by decide) (Pg.fin HP.out (T := fun t => t) (fun _ _ hx => hx)))
        go_wp2_with fail
        go_ret
        exact HF.out
      · have HSN := Lib.hid hsg
        obtain ⟨S, hS⟩ : ∃ S, (⟨(signOf l 7 i).toArray⟩ : ByteArray) = S := ⟨_, rfl⟩
        replace HP : Hid (Pg M i false (fun t : Tr => Xx L (fl t)) (fun t => (rightP l (P l f) 7 (i + 1)).bind fun r j => .ok (.mk 18 S 0 [t, r]) j)) := Lib.hid (HP.out.eq fun _ t _ => by rw [bin_more hsg t, hS]; rfl)
        have hsb := sign_fact hS hsg
        have HSG := Lib.hid hS
        clear hsg hS
        go_wp2_with (go_at_call 109; refine (lk_sign HM0 (lv := 7) (by unfold isLv; omega) HSG).mono ?_; rintro e w201 ⟨rfl, hgo201⟩; refine Hid.out ?_)
        refine Lib.hid ?_
        have HM201 := Lib.hid hgo201.1
        have HO201out := Lib.hid (HO.out.step hgo201.2 HRB.out)
        clear HO hgo201
        have hc1_202 := HM201.out.rd.sr.c1
        have hf1_202 := HM201.out.rd.sr.f 1
        have hwr_202 := HM201.out.wr (sign_lt HSN.out)
        have hgo202 := HM201.out.inc (sign_lt HSN.out)
        obtain ⟨w202, hw202⟩ : ∃ W, W = w201.setCell ⟨rb, 1, none⟩ (.int .i64 (((i : Nat) : Int) + 1)) := ⟨_, rfl⟩
        rw [← hw202] at hgo202
        have HW202 := Lib.hid hw202
        obtain ⟨i202, hi202⟩ : ∃ z, i + 1 = z := ⟨_, rfl⟩
        rw [hi202] at hgo202
        have HI202 := Lib.hid hi202
        have HM203 := Lib.hid hgo202.1
        have HO203out := Lib.hid (HO201out.out.step hgo202.2 HRB.out)
        clear HO201out HM201 hgo202 hw202 hi202
        replace HP : Hid (Pg M i202 false (fun t : Tr => Xx L (fl t)) (fun t => (rightP l (P l f) 7 i202).bind fun r j => .ok (.mk 18 S 0 [t, r]) j)) := Lib.hid (by have h1 := HP.out.pos (i + 1); have h2 : i + 1 = i202 := HI202.out; rw [h2] at h1; exact h1)
        obtain ⟨w204, hw204⟩ : ∃ W, W = w202.alloc (.cells #[] 27) := ⟨_, rfl⟩
        have hgo204 : Go w w202 w204 rb a cp l i202 false := by rw [hw204]; exact ⟨HM203.out.below ((Below.refl _ _).alloc (Nat.le_refl _) _), grb ((Below.refl _ _).alloc (Nat.le_refl _) _)⟩
        have HM205 := Lib.hid hgo204.1
        have HO205out := Lib.hid (HO203out.out.step hgo204.2 HRB.out)
        have HW204 := Lib.hid hw204
        clear HO203out HM203 hgo204 hw204
        have HRD206 := Lib.hid (right_any HE.out HVV.out HM205.out.rd 7 (by omega) (by omega) (by have h1 := HFC.out; have h2 := HI202.out; have h3 := sign_lt HSN.out; have h4 := HKI.out; unfold FC at h1 ⊢; omega))
        go_wp2_with (go_at_call 107; rw [← HW202.out, ← HW204.out]; refine (st_read HM205 HRD206.out).mono ?_; rintro e w206 ⟨i206, b206, L206, ⟨g206, c206, rfl, ho206, hgo206⟩, hk206, hr206⟩; refine Hid.out ?_)
        refine Lib.hid ?_
        have HM207 := Lib.hid hgo206.1
        have HO207out := Lib.hid (HO205out.out.step hgo206.2 HRB.out)
        have HO206 := Lib.hid ho206
        have HP206 := Lib.hid (HP.out.read0 hr206.out)
        clear hc1_202 hf1_202 hwr_202 HO205out HM205 ho206 hgo206 HRD206 HP
        have HGE : Hid (b206 = false → i < i206) := fun hb => by have h1 := Rel.ger HLT.out hr206.out hb; have h2 := HI202.out; omega
        go_wp2_with (go_at_call 88; refine (st_both HM207 HO207out HO206 HK (by omega) hk206 (by omega)).mono ?_; rintro e w208 ⟨L208, ⟨g208, c208, rfl, ho208, hgo208⟩, HL208⟩; refine Hid.out ?_)
        refine Lib.hid ?_
        have HM209 := Lib.hid hgo208.1
        have HO209out := Lib.hid (HO207out.out.step hgo208.2 HRB.out)
        have HO209e := Lib.hid (HO206.out.step hgo208.2 HRB.out)
        have HO208 := Lib.hid ho208
        have HK208 : Hid (Okn 3001 L208) := by rw [HL208.out]; exact HK.out.bo hk206.out
        clear HO207out HO206 HM207 ho208 hgo208
        go_wp2_with (go_at_call 82; refine (st_make HM209 18 0 HO208 HK208 (by omega)).mono ?_; rintro e w210 ⟨L210, ⟨g210, c210, rfl, ho210, hgo210⟩, HL210⟩; refine Hid.out ?_)
        refine Lib.hid ?_
        have HM211 := Lib.hid hgo210.1
        have HO211out := Lib.hid (HO209out.out.step hgo210.2 HRB.out)
        have HO211e := Lib.hid (HO209e.out.step hgo210.2 HRB.out)
        have HO211bo := Lib.hid (HO208.out.step hgo210.2 HRB.out)
        have HO210 := Lib.hid ho210
        have HK210 : Hid (Okn 3001 L210) := by rw [HL210.out]; exact HK208.out.mk 18 0 (sign_sz HSG.out)
        clear HO209out HO209e HO208 HM209 ho210 hgo210
        have HF := Lib.hid (SRes.of HM211 HO210 HK210 (by decide) (Pg.fin HP206.out (T := fun x : Tr × Tr => .mk 18 S 0 [x.1, x.2]) (fun _ x hx => by rw [HL210.out, HL208.out]; exact Xx.mk1 (Xx.bo hx.1.l1 hx.2.l1) 18 _ 0)))
        go_wp2_with fail
        go_ret
        exact HF.out

set_option maxRecDepth 100000 in
set_option maxHeartbeats 4000000 in
theorem lv9_any {f : Nat} (hE : CE f) (hV : CV f) (hC : CC f) (hlt : ∀ l, Lt l f) {w : World} {rb cp i0 : Nat} {a : Option Addr} {l : Ls} (h : Rd w rb a cp l i0 false) (hf : FC l i0 9 (f + 1)) :
    Calls Tryz.prog 90 #[.pointer (some ⟨rb, 0, none⟩), .int .i64 9] w fun e w' => SRes w w' rb a cp l (levelP l (P l f) 9 i0) e := by
  obtain ⟨M, hM⟩ : ∃ M, levelP l (P l f) 9 i0 = M := ⟨_, rfl⟩
  rw [hM]
  have HP0 : Hid (Pg M i0 false (fun _ : Unit => True) (fun _ => (P l f 10 i0).bind fun e j => binL l (P l f) 9 (l.length + 1) e j)) := by
    rw [← hM]
    exact Pg.start _ _
  have hrb := h.sr.lt
  have HRB := Lib.hid hrb
  have HNE := Lib.hid h.blk
  have HE := Lib.hid hE
  have HVV := Lib.hid hV
  have HCC := Lib.hid hC
  have HLT := Lib.hid (hlt l)
  have HFC := Lib.hid hf
  have HM0 := Lib.hid (Mv.refl h)
  have c2 := h.sr.c2
  clear h hE hV hC hlt hf hM
  go_enter Tryz.func90, Tryz.ntmps90
  have HRD1 := Lib.hid (HVV.out w rb cp i0 10 a l HM0.out.rd (by omega) (by omega) (by have h1 := HFC.out; unfold FC at h1 ⊢; omega))
  go_wp2_with (go_at_call 90; refine (st_read HM0 HRD1.out).mono ?_; rintro e w1 ⟨i1, b1, L1, ⟨g1, c1, rfl, ho1, hgo1⟩, hk1, hr1⟩; refine Hid.out ?_)
  refine Lib.hid ?_
  have HM2 := Lib.hid hgo1.1
  have HO1 := Lib.hid ho1
  have HP1 := Lib.hid (HP0.out.read0 hr1.out)
  clear ho1 hgo1 HRD1 HP0
  have HST : Hid (LE (binL l (P l f) 9) w w1 rb cp a l M i0 (.slice (some ⟨g1, 0, none⟩) L1.length c1) (l.length + 1)) := ⟨g1, c1, L1, i1, b1, l.length + 1, rfl, HO1.out, HM2.out, hk1.out, HP1.out.via (fun x => x.2) (fun _ x hx => ⟨hx.2, rfl⟩), (fun hb => ⟨by omega, Rel.ge0 (HLT.out 10 i0) hr1.out hb⟩), by split <;> omega⟩
  clear HP1 HO1 HM2 hk1 hr1
  clear c2
  go_wp2_with fail
  go_loopg [7] (l.length + 1) (fun q v wr => LE (binL l (P l f) 9) w wr rb cp a l M i0 v q)
  case atStart => exact HST.out
  case round =>
    clear HST hrb
    obtain ⟨g, c, L, i, b, k, rfl, ho, hm, hk, hp, hb, hq⟩ := hrel
    have HM0 := Lib.hid hm
    have HO := Lib.hid ho
    have HK := Lib.hid hk
    have HP := Lib.hid hp
    have HBQ := Lib.hid hb
    have HQ : Hid ((if b = true then 0 else l.length + 1 - i) ≤ gk) := hq
    have c2 := hm.rd.sr.c2
    clear ho hm hk hp hb hq
    cases b with
    | true =>
      have HF := Lib.hid (SRes.of HM0 HO HK (by decide) (Pg.fin (T := fun t => t) (Pg.any HP.out) (fun e => by cases e)))
      go_wp2
      go_ret
      exact HF.out
    | false =>
      have HKI : Hid (l.length + 1 ≤ k + i ∧ i0 < i) := HBQ.out rfl
      replace HQ : Hid (l.length + 1 - i ≤ gk) := HQ
      have HIL := Lib.hid HM0.out.rd.le
      obtain ⟨k, rfl⟩ : ∃ z, k = z + 1 := ⟨k - 1, by have h1 := HKI.out; have h2 := HIL.out; omega⟩
      clear HBQ

      by_cases hsg : signOf l 9 i = []
      · have HSG : Hid ((⟨(signOf l 9 i).toArray⟩ : ByteArray) = ⟨#[]⟩) := by rw [hsg]; rfl
        replace HP : Hid (Pg M i false (fun t : Tr => Xx L (fl t)) (fun t => .ok t i)) := Lib.hid (HP.out.eq fun _ t _ => bin_end hsg t)
        clear hsg
        go_wp2_with (go_at_call 109; refine (lk_sign HM0 (lv := 9) (by unfold isLv; omega) HSG).mono ?_; rintro e w101 ⟨rfl, hgo101⟩; refine Hid.out ?_)
        refine Lib.hid ?_
        have HM101 := Lib.hid hgo101.1
        have HO101out := Lib.hid (HO.out.step hgo101.2 HRB.out)
        clear HO hgo101
        have HF := Lib.hid (SRes.of HM101 HO101out HK (by decide) (Pg.fin HP.out (T := fun t => t) (fun _ _ hx => hx)))
        go_wp2_with fail
        go_ret
        exact HF.out
      · have HSN := Lib.hid hsg
        obtain ⟨S, hS⟩ : ∃ S, (⟨(signOf l 9 i).toArray⟩ : ByteArray) = S := ⟨_, rfl⟩
        replace HP : Hid (Pg M i false (fun t : Tr => Xx L (fl t)) (fun t => (rightP l (P l f) 10 (i + 1)).bind fun r j => binL l (P l f) 9 k (.mk 18 S 0 [t, r]) j)) := Lib.hid (HP.out.eq fun _ t _ => by rw [bin_more hsg t, hS]; rfl)
        have hsb := sign_fact hS hsg
        have HSG := Lib.hid hS
        clear hsg hS
        go_wp2_with (go_at_call 109; refine (lk_sign HM0 (lv := 9) (by unfold isLv; omega) HSG).mono ?_; rintro e w201 ⟨rfl, hgo201⟩; refine Hid.out ?_)
        refine Lib.hid ?_
        have HM201 := Lib.hid hgo201.1
        have HO201out := Lib.hid (HO.out.step hgo201.2 HRB.out)
        clear HO hgo201
        have hc1_202 := HM201.out.rd.sr.c1
        have hf1_202 := HM201.out.rd.sr.f 1
        have hwr_202 := HM201.out.wr (sign_lt HSN.out)
        have hgo202 := HM201.out.inc (sign_lt HSN.out)
        obtain ⟨w202, hw202⟩ : ∃ W, W = w201.setCell ⟨rb, 1, none⟩ (.int .i64 (((i : Nat) : Int) + 1)) := ⟨_, rfl⟩
        rw [← hw202] at hgo202
        have HW202 := Lib.hid hw202
        obtain ⟨i202, hi202⟩ : ∃ z, i + 1 = z := ⟨_, rfl⟩
        rw [hi202] at hgo202
        have HI202 := Lib.hid hi202
        have HM203 := Lib.hid hgo202.1
        have HO203out := Lib.hid (HO201out.out.step hgo202.2 HRB.out)
        clear HO201out HM201 hgo202 hw202 hi202
        replace HP : Hid (Pg M i202 false (fun t : Tr => Xx L (fl t)) (fun t => (rightP l (P l f) 10 i202).bind fun r j => binL l (P l f) 9 k (.mk 18 S 0 [t, r]) j)) := Lib.hid (by have h1 := HP.out.pos (i + 1); have h2 : i + 1 = i202 := HI202.out; rw [h2] at h1; exact h1)
        obtain ⟨w204, hw204⟩ : ∃ W, W = w202.alloc (.cells #[] 27) := ⟨_, rfl⟩
        have hgo204 : Go w w202 w204 rb a cp l i202 false := by rw [hw204]; exact ⟨HM203.out.below ((Below.refl _ _).alloc (Nat.le_refl _) _), grb ((Below.refl _ _).alloc (Nat.le_refl _) _)⟩
        have HM205 := Lib.hid hgo204.1
        have HO205out := Lib.hid (HO203out.out.step hgo204.2 HRB.out)
        have HW204 := Lib.hid hw204
        clear HO203out HM203 hgo204 hw204
        have HRD206 := Lib.hid (right_any HE.out HVV.out HM205.out.rd 10 (by omega) (by omega) (by have h1 := HFC.out; have h2 := HI202.out; have h3 := sign_lt HSN.out; have h4 := HKI.out; unfold FC at h1 ⊢; omega))
        go_wp2_with (go_at_call 107; rw [← HW202.out, ← HW204.out]; refine (st_read HM205 HRD206.out).mono ?_; rintro e w206 ⟨i206, b206, L206, ⟨g206, c206, rfl, ho206, hgo206⟩, hk206, hr206⟩; refine Hid.out ?_)
        refine Lib.hid ?_
        have HM207 := Lib.hid hgo206.1
        have HO207out := Lib.hid (HO205out.out.step hgo206.2 HRB.out)
        have HO206 := Lib.hid ho206
        have HP206 := Lib.hid (HP.out.read0 hr206.out)
        clear hc1_202 hf1_202 hwr_202 HO205out HM205 ho206 hgo206 HRD206 HP
        have HGE : Hid (b206 = false → i < i206) := fun hb => by have h1 := Rel.ger HLT.out hr206.out hb; have h2 := HI202.out; omega
        go_wp2_with (go_at_call 88; refine (st_both HM207 HO207out HO206 HK (by omega) hk206 (by omega)).mono ?_; rintro e w208 ⟨L208, ⟨g208, c208, rfl, ho208, hgo208⟩, HL208⟩; refine Hid.out ?_)
        refine Lib.hid ?_
        have HM209 := Lib.hid hgo208.1
        have HO209out := Lib.hid (HO207out.out.step hgo208.2 HRB.out)
        have HO209e := Lib.hid (HO206.out.step hgo208.2 HRB.out)
        have HO208 := Lib.hid ho208
        have HK208 : Hid (Okn 3001 L208) := by rw [HL208.out]; exact HK.out.bo hk206.out
        clear HO207out HO206 HM207 ho208 hgo208
        go_wp2_with (go_at_call 82; refine (st_make HM209 18 0 HO208 HK208 (by omega)).mono ?_; rintro e w210 ⟨L210, ⟨g210, c210, rfl, ho210, hgo210⟩, HL210⟩; refine Hid.out ?_)
        refine Lib.hid ?_
        have HM211 := Lib.hid hgo210.1
        have HO211out := Lib.hid (HO209out.out.step hgo210.2 HRB.out)
        have HO211e := Lib.hid (HO209e.out.step hgo210.2 HRB.out)
        have HO211bo := Lib.hid (HO208.out.step hgo210.2 HRB.out)
        have HO210 := Lib.hid ho210
        have HK210 : Hid (Okn 3001 L210) := by rw [HL210.out]; exact HK208.out.mk 18 0 (sign_sz HSG.out)
        clear HO209out HO209e HO208 HM209 ho210 hgo210
        have HLB : Hid (LE (binL l (P l f) 9) w w210 rb cp a l M i0 (.slice (some ⟨g210, 0, none⟩) L210.length c210) (if b206 = true then 0 else l.length + 1 - i206)) := ⟨g210, c210, L210, i206, b206, k, rfl, HO210.out, HM211.out, HK210.out, HP206.out.via (fun x => .mk 18 S 0 [x.1, x.2]) (fun _ x hx => ⟨by rw [HL210.out, HL208.out]; exact Xx.mk1 (Xx.bo hx.1.l1 hx.2.l1) 18 _ 0, rfl⟩), (fun hb => by have h1 := HGE.out (by first | exact hb | trivial); have h2 := HKI.out; omega), Nat.le_refl _⟩
        go_wp2_with fail
        go_roundg (if b206 = true then 0 else l.length + 1 - i206)
        case measure =>
          have h4 := HQ.out
          have h6 := HIL.out
          by_cases hb : b206 = true
          · rw [if_pos hb]; omega
          · rw [if_neg hb]
            have h1 := HGE.out (by simpa using hb)
            omega
        case rel => exact HLB.out

set_option maxRecDepth 100000 in
set_option maxHeartbeats 4000000 in
theorem lv10_any {f : Nat} (hE : CE f) (hV : CV f) (hC : CC f) (hlt : ∀ l, Lt l f) {w : World} {rb cp i0 : Nat} {a : Option Addr} {l : Ls} (h : Rd w rb a cp l i0 false) (hf : FC l i0 10 (f + 1)) :
    Calls Tryz.prog 90 #[.pointer (some ⟨rb, 0, none⟩), .int .i64 10] w fun e w' => SRes w w' rb a cp l (levelP l (P l f) 10 i0) e := by
  obtain ⟨M, hM⟩ : ∃ M, levelP l (P l f) 10 i0 = M := ⟨_, rfl⟩
  rw [hM]
  have HP0 : Hid (Pg M i0 false (fun _ : Unit => True) (fun _ => (P l f 11 i0).bind fun e j => binL l (P l f) 10 (l.length + 1) e j)) := by
    rw [← hM]
    exact Pg.start _ _
  have hrb := h.sr.lt
  have HRB := Lib.hid hrb
  have HNE := Lib.hid h.blk
  have HE := Lib.hid hE
  have HVV := Lib.hid hV
  have HCC := Lib.hid hC
  have HLT := Lib.hid (hlt l)
  have HFC := Lib.hid hf
  have HM0 := Lib.hid (Mv.refl h)
  have c2 := h.sr.c2
  clear h hE hV hC hlt hf hM
  go_enter Tryz.func90, Tryz.ntmps90
  have HRD1 := Lib.hid (HVV.out w rb cp i0 11 a l HM0.out.rd (by omega) (by omega) (by have h1 := HFC.out; unfold FC at h1 ⊢; omega))
  go_wp2_with (go_at_call 90; refine (st_read HM0 HRD1.out).mono ?_; rintro e w1 ⟨i1, b1, L1, ⟨g1, c1, rfl, ho1, hgo1⟩, hk1, hr1⟩; refine Hid.out ?_)
  refine Lib.hid ?_
  have HM2 := Lib.hid hgo1.1
  have HO1 := Lib.hid ho1
  have HP1 := Lib.hid (HP0.out.read0 hr1.out)
  clear ho1 hgo1 HRD1 HP0
  have HST : Hid (LE (binL l (P l f) 10) w w1 rb cp a l M i0 (.slice (some ⟨g1, 0, none⟩) L1.length c1) (l.length + 1)) := ⟨g1, c1, L1, i1, b1, l.length + 1, rfl, HO1.out, HM2.out, hk1.out, HP1.out.via (fun x => x.2) (fun _ x hx => ⟨hx.2, rfl⟩), (fun hb => ⟨by omega, Rel.ge0 (HLT.out 11 i0) hr1.out hb⟩), by split <;> omega⟩
  clear HP1 HO1 HM2 hk1 hr1
  clear c2
  go_wp2_with fail
  go_loopg [7] (l.length + 1) (fun q v wr => LE (binL l (P l f) 10) w wr rb cp a l M i0 v q)
  case atStart => exact HST.out
  case round =>
    clear HST hrb
    obtain ⟨g, c, L, i, b, k, rfl, ho, hm, hk, hp, hb, hq⟩ := hrel
    have HM0 := Lib.hid hm
    have HO := Lib.hid ho
    have HK := Lib.hid hk
    have HP := Lib.hid hp
    have HBQ := Lib.hid hb
    have HQ : Hid ((if b = true then 0 else l.length + 1 - i) ≤ gk) := hq
    have c2 := hm.rd.sr.c2
    clear ho hm hk hp hb hq
    cases b with
    | true =>
      have HF := Lib.hid (SRes.of HM0 HO HK (by decide) (Pg.fin (T := fun t => t) (Pg.any HP.out) (fun e => by cases e)))
      go_wp2
      go_ret
      exact HF.out
    | false =>
      have HKI : Hid (l.length + 1 ≤ k + i ∧ i0 < i) := HBQ.out rfl
      replace HQ : Hid (l.length + 1 - i ≤ gk) := HQ
      have HIL := Lib.hid HM0.out.rd.le
      obtain ⟨k, rfl⟩ : ∃ z, k = z + 1 := ⟨k - 1, by have h1 := HKI.out; have h2 := HIL.out; omega⟩
      clear HBQ

      by_cases hsg : signOf l 10 i = []
      · have HSG : Hid ((⟨(signOf l 10 i).toArray⟩ : ByteArray) = ⟨#[]⟩) := by rw [hsg]; rfl
        replace HP : Hid (Pg M i false (fun t : Tr => Xx L (fl t)) (fun t => .ok t i)) := Lib.hid (HP.out.eq fun _ t _ => bin_end hsg t)
        clear hsg
        go_wp2_with (go_at_call 109; refine (lk_sign HM0 (lv := 10) (by unfold isLv; omega) HSG).mono ?_; rintro e w101 ⟨rfl, hgo101⟩; refine Hid.out ?_)
        refine Lib.hid ?_
        have HM101 := Lib.hid hgo101.1
        have HO101out := Lib.hid (HO.out.step hgo101.2 HRB.out)
        clear HO hgo101
        have HF := Lib.hid (SRes.of HM101 HO101out HK (by decide) (Pg.fin HP.out (T := fun t => t) (fun _ _ hx => hx)))
        go_wp2_with fail
        go_ret
        exact HF.out
      · have HSN := Lib.hid hsg
        obtain ⟨S, hS⟩ : ∃ S, (⟨(signOf l 10 i).toArray⟩ : ByteArray) = S := ⟨_, rfl⟩
        replace HP : Hid (Pg M i false (fun t : Tr => Xx L (fl t)) (fun t => (rightP l (P l f) 11 (i + 1)).bind fun r j => binL l (P l f) 10 k (.mk 18 S 0 [t, r]) j)) := Lib.hid (HP.out.eq fun _ t _ => by rw [bin_more hsg t, hS]; rfl)
        have hsb := sign_fact hS hsg
        have HSG := Lib.hid hS
        clear hsg hS
        go_wp2_with (go_at_call 109; refine (lk_sign HM0 (lv := 10) (by unfold isLv; omega) HSG).mono ?_; rintro e w201 ⟨rfl, hgo201⟩; refine Hid.out ?_)
        refine Lib.hid ?_
        have HM201 := Lib.hid hgo201.1
        have HO201out := Lib.hid (HO.out.step hgo201.2 HRB.out)
        clear HO hgo201
        have hc1_202 := HM201.out.rd.sr.c1
        have hf1_202 := HM201.out.rd.sr.f 1
        have hwr_202 := HM201.out.wr (sign_lt HSN.out)
        have hgo202 := HM201.out.inc (sign_lt HSN.out)
        obtain ⟨w202, hw202⟩ : ∃ W, W = w201.setCell ⟨rb, 1, none⟩ (.int .i64 (((i : Nat) : Int) + 1)) := ⟨_, rfl⟩
        rw [← hw202] at hgo202
        have HW202 := Lib.hid hw202
        obtain ⟨i202, hi202⟩ : ∃ z, i + 1 = z := ⟨_, rfl⟩
        rw [hi202] at hgo202
        have HI202 := Lib.hid hi202
        have HM203 := Lib.hid hgo202.1
        have HO203out := Lib.hid (HO201out.out.step hgo202.2 HRB.out)
        clear HO201out HM201 hgo202 hw202 hi202
        replace HP : Hid (Pg M i202 false (fun t : Tr => Xx L (fl t)) (fun t => (rightP l (P l f) 11 i202).bind fun r j => binL l (P l f) 10 k (.mk 18 S 0 [t, r]) j)) := Lib.hid (by have h1 := HP.out.pos (i + 1); have h2 : i + 1 = i202 := HI202.out; rw [h2] at h1; exact h1)
        obtain ⟨w204, hw204⟩ : ∃ W, W = w202.alloc (.cells #[] 27) := ⟨_, rfl⟩
        have hgo204 : Go w w202 w204 rb a cp l i202 false := by rw [hw204]; exact ⟨HM203.out.below ((Below.refl _ _).alloc (Nat.le_refl _) _), grb ((Below.refl _ _).alloc (Nat.le_refl _) _)⟩
        have HM205 := Lib.hid hgo204.1
        have HO205out := Lib.hid (HO203out.out.step hgo204.2 HRB.out)
        have HW204 := Lib.hid hw204
        clear HO203out HM203 hgo204 hw204
        have HRD206 := Lib.hid (right_any HE.out HVV.out HM205.out.rd 11 (by omega) (by omega) (by have h1 := HFC.out; have h2 := HI202.out; have h3 := sign_lt HSN.out; have h4 := HKI.out; unfold FC at h1 ⊢; omega))
        go_wp2_with (go_at_call 107; rw [← HW202.out, ← HW204.out]; refine (st_read HM205 HRD206.out).mono ?_; rintro e w206 ⟨i206, b206, L206, ⟨g206, c206, rfl, ho206, hgo206⟩, hk206, hr206⟩; refine Hid.out ?_)
        refine Lib.hid ?_
        have HM207 := Lib.hid hgo206.1
        have HO207out := Lib.hid (HO205out.out.step hgo206.2 HRB.out)
        have HO206 := Lib.hid ho206
        have HP206 := Lib.hid (HP.out.read0 hr206.out)
        clear hc1_202 hf1_202 hwr_202 HO205out HM205 ho206 hgo206 HRD206 HP
        have HGE : Hid (b206 = false → i < i206) := fun hb => by have h1 := Rel.ger HLT.out hr206.out hb; have h2 := HI202.out; omega
        go_wp2_with (go_at_call 88; refine (st_both HM207 HO207out HO206 HK (by omega) hk206 (by omega)).mono ?_; rintro e w208 ⟨L208, ⟨g208, c208, rfl, ho208, hgo208⟩, HL208⟩; refine Hid.out ?_)
        refine Lib.hid ?_
        have HM209 := Lib.hid hgo208.1
        have HO209out := Lib.hid (HO207out.out.step hgo208.2 HRB.out)
        have HO209e := Lib.hid (HO206.out.step hgo208.2 HRB.out)
        have HO208 := Lib.hid ho208
        have HK208 : Hid (Okn 3001 L208) := by rw [HL208.out]; exact HK.out.bo hk206.out
        clear HO207out HO206 HM207 ho208 hgo208
        go_wp2_with (go_at_call 82; refine (st_make HM209 18 0 HO208 HK208 (by omega)).mono ?_; rintro e w210 ⟨L210, ⟨g210, c210, rfl, ho210, hgo210⟩, HL210⟩; refine Hid.out ?_)
        refine Lib.hid ?_
        have HM211 := Lib.hid hgo210.1
        have HO211out := Lib.hid (HO209out.out.step hgo210.2 HRB.out)
        have HO211e := Lib.hid (HO209e.out.step hgo210.2 HRB.out)
        have HO211bo := Lib.hid (HO208.out.step hgo210.2 HRB.out)
        have HO210 := Lib.hid ho210
        have HK210 : Hid (Okn 3001 L210) := by rw [HL210.out]; exact HK208.out.mk 18 0 (sign_sz HSG.out)
        clear HO209out HO209e HO208 HM209 ho210 hgo210
        have HLB : Hid (LE (binL l (P l f) 10) w w210 rb cp a l M i0 (.slice (some ⟨g210, 0, none⟩) L210.length c210) (if b206 = true then 0 else l.length + 1 - i206)) := ⟨g210, c210, L210, i206, b206, k, rfl, HO210.out, HM211.out, HK210.out, HP206.out.via (fun x => .mk 18 S 0 [x.1, x.2]) (fun _ x hx => ⟨by rw [HL210.out, HL208.out]; exact Xx.mk1 (Xx.bo hx.1.l1 hx.2.l1) 18 _ 0, rfl⟩), (fun hb => by have h1 := HGE.out (by first | exact hb | trivial); have h2 := HKI.out; omega), Nat.le_refl _⟩
        go_wp2_with fail
        go_roundg (if b206 = true then 0 else l.length + 1 - i206)
        case measure =>
          have h4 := HQ.out
          have h6 := HIL.out
          by_cases hb : b206 = true
          · rw [if_pos hb]; omega
          · rw [if_neg hb]
            have h1 := HGE.out (by simpa using hb)
            omega
        case rel => exact HLB.out

set_option maxRecDepth 100000 in
set_option maxHeartbeats 4000000 in
theorem lv11_any {f : Nat} (hE : CE f) (hV : CV f) (hC : CC f) (hlt : ∀ l, Lt l f) {w : World} {rb cp i0 : Nat} {a : Option Addr} {l : Ls} (h : Rd w rb a cp l i0 false) (hf : FC l i0 11 (f + 1)) :
    Calls Tryz.prog 90 #[.pointer (some ⟨rb, 0, none⟩), .int .i64 11] w fun e w' => SRes w w' rb a cp l (levelP l (P l f) 11 i0) e := by
  obtain ⟨M, hM⟩ : ∃ M, levelP l (P l f) 11 i0 = M := ⟨_, rfl⟩
  rw [hM]
  have HP0 : Hid (Pg M i0 false (fun _ : Unit => True) (fun _ => (P l f 12 i0).bind fun e j => binL l (P l f) 11 (l.length + 1) e j)) := by
    rw [← hM]
    exact Pg.start _ _
  have hrb := h.sr.lt
  have HRB := Lib.hid hrb
  have HNE := Lib.hid h.blk
  have HE := Lib.hid hE
  have HVV := Lib.hid hV
  have HCC := Lib.hid hC
  have HLT := Lib.hid (hlt l)
  have HFC := Lib.hid hf
  have HM0 := Lib.hid (Mv.refl h)
  have c2 := h.sr.c2
  clear h hE hV hC hlt hf hM
  go_enter Tryz.func90, Tryz.ntmps90
  have HRD1 := Lib.hid (HVV.out w rb cp i0 12 a l HM0.out.rd (by omega) (by omega) (by have h1 := HFC.out; unfold FC at h1 ⊢; omega))
  go_wp2_with (go_at_call 90; refine (st_read HM0 HRD1.out).mono ?_; rintro e w1 ⟨i1, b1, L1, ⟨g1, c1, rfl, ho1, hgo1⟩, hk1, hr1⟩; refine Hid.out ?_)
  refine Lib.hid ?_
  have HM2 := Lib.hid hgo1.1
  have HO1 := Lib.hid ho1
  have HP1 := Lib.hid (HP0.out.read0 hr1.out)
  clear ho1 hgo1 HRD1 HP0
  have HST : Hid (LE (binL l (P l f) 11) w w1 rb cp a l M i0 (.slice (some ⟨g1, 0, none⟩) L1.length c1) (l.length + 1)) := ⟨g1, c1, L1, i1, b1, l.length + 1, rfl, HO1.out, HM2.out, hk1.out, HP1.out.via (fun x => x.2) (fun _ x hx => ⟨hx.2, rfl⟩), (fun hb => ⟨by omega, Rel.ge0 (HLT.out 12 i0) hr1.out hb⟩), by split <;> omega⟩
  clear HP1 HO1 HM2 hk1 hr1
  clear c2
  go_wp2_with fail
  go_loopg [7] (l.length + 1) (fun q v wr => LE (binL l (P l f) 11) w wr rb cp a l M i0 v q)
  case atStart => exact HST.out
  case round =>
    clear HST hrb
    obtain ⟨g, c, L, i, b, k, rfl, ho, hm, hk, hp, hb, hq⟩ := hrel
    have HM0 := Lib.hid hm
    have HO := Lib.hid ho
    have HK := Lib.hid hk
    have HP := Lib.hid hp
    have HBQ := Lib.hid hb
    have HQ : Hid ((if b = true then 0 else l.length + 1 - i) ≤ gk) := hq
    have c2 := hm.rd.sr.c2
    clear ho hm hk hp hb hq
    cases b with
    | true =>
      have HF := Lib.hid (SRes.of HM0 HO HK (by decide) (Pg.fin (T := fun t => t) (Pg.any HP.out) (fun e => by cases e)))
      go_wp2
      go_ret
      exact HF.out
    | false =>
      have HKI : Hid (l.length + 1 ≤ k + i ∧ i0 < i) := HBQ.out rfl
      replace HQ : Hid (l.length + 1 - i ≤ gk) := HQ
      have HIL := Lib.hid HM0.out.rd.le
      obtain ⟨k, rfl⟩ : ∃ z, k = z + 1 := ⟨k - 1, by have h1 := HKI.out; have h2 := HIL.out; omega⟩
      clear HBQ

      by_cases hsg : signOf l 11 i = []
      · have HSG : Hid ((⟨(signOf l 11 i).toArray⟩ : ByteArray) = ⟨#[]⟩) := by rw [hsg]; rfl
        replace HP : Hid (Pg M i false (fun t : Tr => Xx L (fl t)) (fun t => .ok t i)) := Lib.hid (HP.out.eq fun _ t _ => bin_end hsg t)
        clear hsg
        go_wp2_with (go_at_call 109; refine (lk_sign HM0 (lv := 11) (by unfold isLv; omega) HSG).mono ?_; rintro e w101 ⟨rfl, hgo101⟩; refine Hid.out ?_)
        refine Lib.hid ?_
        have HM101 := Lib.hid hgo101.1
        have HO101out := Lib.hid (HO.out.step hgo101.2 HRB.out)
        clear HO hgo101
        have HF := Lib.hid (SRes.of HM101 HO101out HK (by decide) (Pg.fin HP.out (T := fun t => t) (fun _ _ hx => hx)))
        go_wp2_with fail
        go_ret
        exact HF.out
      · have HSN := Lib.hid hsg
        obtain ⟨S, hS⟩ : ∃ S, (⟨(signOf l 11 i).toArray⟩ : ByteArray) = S := ⟨_, rfl⟩
        replace HP : Hid (Pg M i false (fun t : Tr => Xx L (fl t)) (fun t => (rightP l (P l f) 11 (i + 1)).bind fun r j => .ok (.mk 18 S 0 [t, r]) j)) := Lib.hid (HP.out.eq fun _ t _ => by rw [bin_more hsg t, hS]; rfl)
        have hsb := sign_fact hS hsg
        have HSG := Lib.hid hS
        clear hsg hS
        go_wp2_with (go_at_call 109; refine (lk_sign HM0 (lv := 11) (by unfold isLv; omega) HSG).mono ?_; rintro e w201 ⟨rfl, hgo201⟩; refine Hid.out ?_)
        refine Lib.hid ?_
        have HM201 := Lib.hid hgo201.1
        have HO201out := Lib.hid (HO.out.step hgo201.2 HRB.out)
        clear HO hgo201
        have hc1_202 := HM201.out.rd.sr.c1
        have hf1_202 := HM201.out.rd.sr.f 1
        have hwr_202 := HM201.out.wr (sign_lt HSN.out)
        have hgo202 := HM201.out.inc (sign_lt HSN.out)
        obtain ⟨w202, hw202⟩ : ∃ W, W = w201.setCell ⟨rb, 1, none⟩ (.int .i64 (((i : Nat) : Int) + 1)) := ⟨_, rfl⟩
        rw [← hw202] at hgo202
        have HW202 := Lib.hid hw202
        obtain ⟨i202, hi202⟩ : ∃ z, i + 1 = z := ⟨_, rfl⟩
        rw [hi202] at hgo202
        have HI202 := Lib.hid hi202
        have HM203 := Lib.hid hgo202.1
        have HO203out := Lib.hid (HO201out.out.step hgo202.2 HRB.out)
        clear HO201out HM201 hgo202 hw202 hi202
        replace HP : Hid (Pg M i202 false (fun t : Tr => Xx L (fl t)) (fun t => (rightP l (P l f) 11 i202).bind fun r j => .ok (.mk 18 S 0 [t, r]) j)) := Lib.hid (by have h1 := HP.out.pos (i + 1); have h2 : i + 1 = i202 := HI202.out; rw [h2] at h1; exact h1)
        obtain ⟨w204, hw204⟩ : ∃ W, W = w202.alloc (.cells #[] 27) := ⟨_, rfl⟩
        have hgo204 : Go w w202 w204 rb a cp l i202 false := by rw [hw204]; exact ⟨HM203.out.below ((Below.refl _ _).alloc (Nat.le_refl _) _), grb ((Below.refl _ _).alloc (Nat.le_refl _) _)⟩
        have HM205 := Lib.hid hgo204.1
        have HO205out := Lib.hid (HO203out.out.step hgo204.2 HRB.out)
        have HW204 := Lib.hid hw204
        clear HO203out HM203 hgo204 hw204
        have HRD206 := Lib.hid (right_any HE.out HVV.out HM205.out.rd 11 (by omega) (by omega) (by have h1 := HFC.out; have h2 := HI202.out; have h3 := sign_lt HSN.out; have h4 := HKI.out; unfold FC at h1 ⊢; omega))
        go_wp2_with (go_at_call 107; rw [← HW202.out, ← HW204.out]; refine (st_read HM205 HRD206.out).mono ?_; rintro e w206 ⟨i206, b206, L206, ⟨g206, c206, rfl, ho206, hgo206⟩, hk206, hr206⟩; refine Hid.out ?_)
        refine Lib.hid ?_
        have HM207 := Lib.hid hgo206.1
        have HO207out := Lib.hid (HO205out.out.step hgo206.2 HRB.out)
        have HO206 := Lib.hid ho206
        have HP206 := Lib.hid (HP.out.read0 hr206.out)
        clear hc1_202 hf1_202 hwr_202 HO205out HM205 ho206 hgo206 HRD206 HP
        have HGE : Hid (b206 = false → i < i206) := fun hb => by have h1 := Rel.ger HLT.out hr206.out hb; have h2 := HI202.out; omega
        go_wp2_with (go_at_call 88; refine (st_both HM207 HO207out HO206 HK (by omega) hk206 (by omega)).mono ?_; rintro e w208 ⟨L208, ⟨g208, c208, rfl, ho208, hgo208⟩, HL208⟩; refine Hid.out ?_)
        refine Lib.hid ?_
        have HM209 := Lib.hid hgo208.1
        have HO209out := Lib.hid (HO207out.out.step hgo208.2 HRB.out)
        have HO209e := Lib.hid (HO206.out.step hgo208.2 HRB.out)
        have HO208 := Lib.hid ho208
        have HK208 : Hid (Okn 3001 L208) := by rw [HL208.out]; exact HK.out.bo hk206.out
        clear HO207out HO206 HM207 ho208 hgo208
        go_wp2_with (go_at_call 82; refine (st_make HM209 18 0 HO208 HK208 (by omega)).mono ?_; rintro e w210 ⟨L210, ⟨g210, c210, rfl, ho210, hgo210⟩, HL210⟩; refine Hid.out ?_)
        refine Lib.hid ?_
        have HM211 := Lib.hid hgo210.1
        have HO211out := Lib.hid (HO209out.out.step hgo210.2 HRB.out)
        have HO211e := Lib.hid (HO209e.out.step hgo210.2 HRB.out)
        have HO211bo := Lib.hid (HO208.out.step hgo210.2 HRB.out)
        have HO210 := Lib.hid ho210
        have HK210 : Hid (Okn 3001 L210) := by rw [HL210.out]; exact HK208.out.mk 18 0 (sign_sz HSG.out)
        clear HO209out HO209e HO208 HM209 ho210 hgo210
        have HF := Lib.hid (SRes.of HM211 HO210 HK210 (by decide) (Pg.fin HP206.out (T := fun x : Tr × Tr => .mk 18 S 0 [x.1, x.2]) (fun _ x hx => by rw [HL210.out, HL208.out]; exact Xx.mk1 (Xx.bo hx.1.l1 hx.2.l1) 18 _ 0)))
        go_wp2_with fail
        go_ret
        exact HF.out

theorem level_any {f : Nat} (hE : CE f) (hV : CV f) (hC : CC f) (hlt : ∀ l, Lt l f) : CV (f + 1) := by
  intro w rb cp i lv a l h h2 h13 hf
  rw [P_lv l f i h2 h13]
  obtain rfl | rfl | rfl | rfl | rfl | rfl | rfl | rfl | rfl | rfl | rfl | rfl : lv = 2 ∨ lv = 3 ∨ lv = 4 ∨ lv = 5 ∨ lv = 6 ∨ lv = 7 ∨ lv = 8 ∨ lv = 9 ∨ lv = 10 ∨ lv = 11 ∨ lv = 12 ∨ lv = 13 := by omega
  · exact lv2_any hE hV hC hlt h hf
  · exact lv3_any hE hV hC hlt h hf
  · exact lv4_any hE hV hC hlt h hf
  · exact lv5_any hE hV hC hlt h hf
  · exact lv6_any hE hV hC hlt h hf
  · exact lv7_any hE hV hC hlt h hf
  · exact lv8_any hE hV hC hlt h hf
  · exact lv9_any hE hV hC hlt h hf
  · exact lv10_any hE hV hC hlt h hf
  · exact lv11_any hE hV hC hlt h hf
  · exact lv12_any hE hV hC hlt h hf
  · exact lv13_any hE hV hC hlt h hf
end Go.Proofs.YtifgaaemdojmpaaGreatDoor.pr
