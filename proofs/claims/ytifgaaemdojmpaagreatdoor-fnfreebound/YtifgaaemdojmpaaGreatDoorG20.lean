import Derived.Test.YtifgaaemdojmpaaGreatDoorG19
namespace Go.Proofs.YtifgaaemdojmpaaGreatDoor.pr
open Go.ChangeShapes Go.WideShapes Go.ChangeAt Go.RowKit Go.Deep
open lx (Lx)
open ex (Tr Ex infoE)
set_option linter.unusedVariables false
set_option linter.unusedSimpArgs false

/-! ### The specification's reader: calls, gets -/

theorem Pg.read0 {β X : Type} {M : Rs β} {i : Nat} {Q : X → Prop} {m0 : Rs Tr} {K : X → Tr → Nat → Rs β} (h : Pg M i false Q fun x => m0.bind (K x)) {i' : Nat} {b' : Bool} {L : List Ex} (r : Rel m0 i' b' L) : Pg M i' b' (fun x : X × Tr => Q x.1 ∧ Xx L (fl x.2)) (fun x => K x.1 x.2 i') := h.read (by rw [if_neg (by decide)]; exact r)
theorem Pg.any {β X : Type} {M : Rs β} {i : Nat} {Q : X → Prop} {m m' : X → Rs β} (h : Pg M i true Q m) : Pg M i true Q m' := ⟨h.yes, fun e => by cases e⟩
theorem Rel.ge0 {l : Ls} {f lv i0 : Nat} (hlt : ∀ t j, P l f lv i0 = .ok t j → i0 < j) {i' : Nat} {b' : Bool} {L : List Ex} (r : Rel (P l f lv i0) i' b' L) (h : b' = false) : i0 < i' := (Rel.ge (b := false) hlt (by rw [if_neg (by decide)]; exact r) h).2
/-- A loop that wraps what it has read. -/
def LE (K : Nat → Tr → Nat → Rs Tr) (w wr : World) (rb cp : Nat) (a : Option Addr) (l : Ls) (M : Rs Tr) (i0 : Nat) (v : Value) (q : Nat) : Prop := ∃ (g c : Nat) (L : List Ex) (i : Nat) (b : Bool) (k : Nat), v = .slice (some ⟨g, 0, none⟩) L.length c ∧ Ow w.heap.size wr g c L ∧ Mv w wr rb a cp l i b ∧ Okn 3001 L ∧ Pg M i b (fun t : Tr => Xx L (fl t)) (fun t => K k t i) ∧ (b = false → l.length + 1 ≤ k + i ∧ i0 < i) ∧ (if b = true then 0 else l.length + 1 - i) ≤ q

section
variable {l : Ls} {p : Pt} {k i : Nat}
theorem call_more (h : beginsB l i = true) (t : Tr) : callL l p (k + 1) t i = (p 15 i).bind fun x j => callL l p k (.mk 11 noT 0 [t, x]) j := by
  conv => lhs; unfold callL
  rw [if_pos h]
theorem call_end (h : beginsB l i = false) (t : Tr) : callL l p (k + 1) t i = .ok t i := by
  conv => lhs; unfold callL
  rw [if_neg (by rw [h]; decide)]
theorem get_more (h : isS l i [46] = true) (t : Tr) : getL l p (k + 1) t i = ww l (i + 1) fun n j => (if isK l j kOr = true then (p 16 (j + 1)).bind fun x q => .ok (.mk 16 n 0 [t, x]) q else getL l p k (.mk 16 n 0 [t]) j) := by
  conv => lhs; unfold getL
  rw [if_pos h]
theorem get_end (h : isS l i [46] = false) (t : Tr) : getL l p (k + 1) t i = .ok t i := by
  conv => lhs; unfold getL
  rw [if_neg (by rw [h]; decide)]
theorem has_more (h : isS l i sAsk = true) (t : Tr) : hasL l (k + 1) t i = ww l (i + 1) fun n j => hasL l k (.mk 17 n 0 [t]) j := by
  conv => lhs; unfold hasL
  rw [if_pos h]
theorem has_end (h : isS l i sAsk = false) (t : Tr) : hasL l (k + 1) t i = .ok t i := by
  conv => lhs; unfold hasL
  rw [if_neg (by rw [h]; decide)]
end


set_option maxRecDepth 100000 in
set_option maxHeartbeats 4000000 in
theorem calls_any {f : Nat} (hG : CG f) (hlt : ∀ l, Lt l f) : CC (f + 1) := by
  intro w rb cp i0 a l h hf
  obtain ⟨M, hM⟩ : ∃ M, P l (f + 1) 14 i0 = M := ⟨_, rfl⟩
  rw [hM]
  have HP0 : Hid (Pg M i0 false (fun _ : Unit => True) (fun _ => (P l f 15 i0).bind fun e j => callL l (P l f) (l.length + 1) e j)) := by
    rw [← hM]
    exact Pg.start _ _
  have hrb := h.sr.lt
  have HRB := Lib.hid hrb
  have HNE := Lib.hid h.blk
  have HG := Lib.hid hG
  have HLT := Lib.hid (hlt l)
  have HFC := Lib.hid hf
  have HM0 := Lib.hid (Mv.refl h)
  clear h hG hlt hf hM
  go_enter Tryz.func108, Tryz.ntmps108

  have HRD1 := Lib.hid (HG.out w rb cp i0 a l HM0.out.rd (by have h1 := HFC.out; unfold FC at h1 ⊢; omega))
  go_wp2_with (go_at_call 116; refine (st_read HM0 HRD1.out).mono ?_; rintro e w1 ⟨i1, b1, L1, ⟨g1, c1, rfl, ho1, hgo1⟩, hk1, hr1⟩; refine Hid.out ?_)
  refine Lib.hid ?_
  have HM2 := Lib.hid hgo1.1
  have HO1 := Lib.hid ho1
  have HP1 := Lib.hid (HP0.out.read0 hr1.out)
  clear ho1 hgo1 HRD1 HP0
  have HST : Hid (LE (callL l (P l f)) w w1 rb cp a l M i0 (.slice (some ⟨g1, 0, none⟩) L1.length c1) (l.length + 1)) := ⟨g1, c1, L1, i1, b1, l.length + 1, rfl, HO1.out, HM2.out, hk1.out, HP1.out.via (fun x => x.2) (fun _ x hx => ⟨hx.2, rfl⟩), (fun hb => ⟨by omega, Rel.ge0 (HLT.out 15 i0) hr1.out hb⟩), by split <;> omega⟩
  clear HP1 HO1 HM2 hk1 hr1
  go_wp2_with fail
  go_loopg [3] (l.length + 1) (fun q v wr => LE (callL l (P l f)) w wr rb cp a l M i0 v q)
  case atStart => exact HST.out
  case round =>
    clear HST hrb
    obtain ⟨g, c, L, i, b, k, rfl, ho, hm, hk, hp, hb, hq⟩ := hrel
    have HM0 := Lib.hid hm
    have HO := Lib.hid ho
    have HK := Lib.hid hk
    have HP := Lib.hid hp
    have HBQ := Lib.hid hb
    have HQ : Hid ((if b = true then 0 else l.length + 1 - i) ≤ gk) := hq
    have c2 := hm.rd.sr.c2
    clear ho hm hk hp hb hq
    cases b with
    | true =>
      have HF := Lib.hid (SRes.of HM0 HO HK (by decide) (Pg.fin (T := fun t => t) (Pg.any HP.out) (fun e => by cases e)))
      go_wp2
      go_ret
      exact HF.out
    | false =>
      have HKI : Hid (l.length + 1 ≤ k + i ∧ i0 < i) := HBQ.out rfl
      replace HQ : Hid (l.length + 1 - i ≤ gk) := HQ
      have HIL := Lib.hid HM0.out.rd.le
      obtain ⟨k, rfl⟩ : ∃ z, k = z + 1 := ⟨k - 1, by have h1 := HKI.out; have h2 := HIL.out; omega⟩
      clear HBQ

      cases hv0 : beginsB l i with
      | false =>
        have HV0 := Lib.hid hv0
        replace HP : Hid (Pg M i false (fun t : Tr => Xx L (fl t)) (fun t => .ok t i)) := Lib.hid (HP.out.eq fun _ t _ => call_end hv0 t)
        clear hv0
        go_wp2_with (go_at_call 117; refine (lk_begins HM0 HV0).mono ?_; rintro e w101 ⟨rfl, hgo101⟩; refine Hid.out ?_)
        refine Lib.hid ?_
        have HM102 := Lib.hid hgo101.1
        have HO102out := Lib.hid (HO.out.step hgo101.2 HRB.out)
        clear HO hgo101
        have HF := Lib.hid (SRes.of HM102 HO102out HK (by decide) (Pg.fin HP.out (T := fun t => t) (fun _ _ hx => hx)))
        go_wp2_with fail
        go_ret
        exact HF.out
      | true =>
        have HV0 := Lib.hid hv0
        replace HP : Hid (Pg M i false (fun t : Tr => Xx L (fl t)) (fun t => (P l f 15 i).bind fun x j => callL l (P l f) k (.mk 11 noT 0 [t, x]) j)) := Lib.hid (HP.out.eq fun _ t _ => call_more hv0 t)
        clear hv0
        go_wp2_with (go_at_call 117; refine (lk_begins HM0 HV0).mono ?_; rintro e w101 ⟨rfl, hgo101⟩; refine Hid.out ?_)
        refine Lib.hid ?_
        have HM102 := Lib.hid hgo101.1
        have HO102out := Lib.hid (HO.out.step hgo101.2 HRB.out)
        clear HO hgo101
        have HRD103 := Lib.hid (HG.out w101 rb cp i a l HM102.out.rd (by have h1 := HFC.out; have h2 := HKI.out; unfold FC at h1 ⊢; omega))
        go_wp2_with (go_at_call 116; refine (st_read HM102 HRD103.out).mono ?_; rintro e w103 ⟨i103, b103, L103, ⟨g103, c103, rfl, ho103, hgo103⟩, hk103, hr103⟩; refine Hid.out ?_)
        refine Lib.hid ?_
        have HM104 := Lib.hid hgo103.1
        have HO104out := Lib.hid (HO102out.out.step hgo103.2 HRB.out)
        have HO103 := Lib.hid ho103
        have HP103 := Lib.hid (HP.out.read0 hr103.out)
        clear HO102out HM102 ho103 hgo103 HRD103 HP
        have HGE : Hid (b103 = false → i < i103) := fun hb => Rel.ge0 (HLT.out 15 i) hr103.out hb
        go_wp2_with (go_at_call 88; refine (st_both HM104 HO104out HO103 HK (by omega) hk103 (by omega)).mono ?_; rintro e w105 ⟨L105, ⟨g105, c105, rfl, ho105, hgo105⟩, HL105⟩; refine Hid.out ?_)
        refine Lib.hid ?_
        have HM106 := Lib.hid hgo105.1
        have HO106out := Lib.hid (HO104out.out.step hgo105.2 HRB.out)
        have HO106e := Lib.hid (HO103.out.step hgo105.2 HRB.out)
        have HO105 := Lib.hid ho105
        have HK105 : Hid (Okn 3001 L105) := by rw [HL105.out]; exact HK.out.bo hk103.out
        clear HO104out HO103 HM104 ho105 hgo105
        go_wp2_with (go_at_call 82; refine (st_make HM106 11 0 HO105 HK105 (by omega)).mono ?_; rintro e w107 ⟨L107, ⟨g107, c107, rfl, ho107, hgo107⟩, HL107⟩; refine Hid.out ?_)
        refine Lib.hid ?_
        have HM108 := Lib.hid hgo107.1
        have HO108out := Lib.hid (HO106out.out.step hgo107.2 HRB.out)
        have HO108e := Lib.hid (HO106e.out.step hgo107.2 HRB.out)
        have HO108bo := Lib.hid (HO105.out.step hgo107.2 HRB.out)
        have HO107 := Lib.hid ho107
        have HK107 : Hid (Okn 3001 L107) := by rw [HL107.out]; exact HK105.out.mk 11 0 (by decide)
        clear HO106out HO106e HO105 HM106 ho107 hgo107
        have HLB : Hid (LE (callL l (P l f)) w w107 rb cp a l M i0 (.slice (some ⟨g107, 0, none⟩) L107.length c107) (if b103 = true then 0 else l.length + 1 - i103)) := ⟨g107, c107, L107, i103, b103, k, rfl, HO107.out, HM108.out, HK107.out, HP103.out.via (fun x => .mk 11 noT 0 [x.1, x.2]) (fun _ x hx => ⟨by rw [HL107.out, HL105.out]; exact Xx.mk1 (Xx.bo hx.1.l1 hx.2.l1) 11 _ 0, rfl⟩), (fun hb => by have h1 := HGE.out (by first | exact hb | trivial); have h2 := HKI.out; omega), Nat.le_refl _⟩
        go_wp2_with fail
        go_roundg (if b103 = true then 0 else l.length + 1 - i103)
        case measure =>
          have h4 := HQ.out
          have h6 := HIL.out
          by_cases hb : b103 = true
          · rw [if_pos hb]; omega
          · rw [if_neg hb]
            have h1 := HGE.out (by simpa using hb)
            omega
        case rel => exact HLB.out

set_option maxRecDepth 100000 in
set_option maxHeartbeats 4000000 in
theorem gets_any {f : Nat} (hA : CA f) (hlt : ∀ l, Lt l f) : CG (f + 1) := by
  intro w rb cp i0 a l h hf
  obtain ⟨M, hM⟩ : ∃ M, P l (f + 1) 15 i0 = M := ⟨_, rfl⟩
  rw [hM]
  have HP0 : Hid (Pg M i0 false (fun _ : Unit => True) (fun _ => (P l f 16 i0).bind fun e j => getL l (P l f) (l.length + 1) e j)) := by
    rw [← hM]
    exact Pg.start _ _
  have hrb := h.sr.lt
  have HRB := Lib.hid hrb
  have HNE := Lib.hid h.blk
  have HA := Lib.hid hA
  have HLT := Lib.hid (hlt l)
  have HFC := Lib.hid hf
  have HM0 := Lib.hid (Mv.refl h)
  clear h hA hlt hf hM
  go_enter Tryz.func116, Tryz.ntmps116

  have HRD1 := Lib.hid (HA.out w rb cp i0 a l HM0.out.rd (by have h1 := HFC.out; unfold FC at h1 ⊢; omega))
  go_wp2_with (go_at_call 121; refine (st_read HM0 HRD1.out).mono ?_; rintro e w1 ⟨i1, b1, L1, ⟨g1, c1, rfl, ho1, hgo1⟩, hk1, hr1⟩; refine Hid.out ?_)
  refine Lib.hid ?_
  have HM2 := Lib.hid hgo1.1
  have HO1 := Lib.hid ho1
  have HP1 := Lib.hid (HP0.out.read0 hr1.out)
  clear ho1 hgo1 HRD1 HP0
  have HST : Hid (LE (getL l (P l f)) w w1 rb cp a l M i0 (.slice (some ⟨g1, 0, none⟩) L1.length c1) (l.length + 1)) := ⟨g1, c1, L1, i1, b1, l.length + 1, rfl, HO1.out, HM2.out, hk1.out, HP1.out.via (fun x => x.2) (fun _ x hx => ⟨hx.2, rfl⟩), (fun hb => ⟨by omega, Rel.ge0 (HLT.out 16 i0) hr1.out hb⟩), by split <;> omega⟩
  clear HP1 HO1 HM2 hk1 hr1
  go_wp2_with fail
  go_loopg [3] (l.length + 1) (fun q v wr => LE (getL l (P l f)) w wr rb cp a l M i0 v q)
  case atStart => exact HST.out
  case round =>
    clear HST hrb
    obtain ⟨g, c, L, i, b, k, rfl, ho, hm, hk, hp, hb, hq⟩ := hrel
    have HM0 := Lib.hid hm
    have HO := Lib.hid ho
    have HK := Lib.hid hk
    have HP := Lib.hid hp
    have HBQ := Lib.hid hb
    have HQ : Hid ((if b = true then 0 else l.length + 1 - i) ≤ gk) := hq
    have c2 := hm.rd.sr.c2
    clear ho hm hk hp hb hq
    cases b with
    | true =>
      have HF := Lib.hid (SRes.of HM0 HO HK (by decide) (Pg.fin (T := fun t => t) (Pg.any HP.out) (fun e => by cases e)))
      go_wp2
      go_ret
      exact HF.out
    | false =>
      have HKI : Hid (l.length + 1 ≤ k + i ∧ i0 < i) := HBQ.out rfl
      replace HQ : Hid (l.length + 1 - i ≤ gk) := HQ
      have HIL := Lib.hid HM0.out.rd.le
      obtain ⟨k, rfl⟩ : ∃ z, k = z + 1 := ⟨k - 1, by have h1 := HKI.out; have h2 := HIL.out; omega⟩
      clear HBQ

      cases hv0 : isS l (i + 0) [46] with
      | false =>
        have HV0 := Lib.hid hv0
        replace HP : Hid (Pg M i false (fun t : Tr => Xx L (fl t)) (fun t => .ok t i)) := Lib.hid (HP.out.eq fun _ t _ => get_end (i := i) hv0 t)
        clear hv0
        go_wp2_with (go_at_call 80; refine (lk_is (v := ?_) (k := ?_) HM0 ?_ ?_ ?_).mono ?_; rotate_left 2; exact HV0; exact rfl; decide; rintro e w101 ⟨rfl, hgo101⟩; refine Hid.out ?_)
        refine Lib.hid ?_
        have HM102 := Lib.hid hgo101.1
        have HO102out := Lib.hid (HO.out.step hgo101.2 HRB.out)
        clear HO hgo101
        have HF := Lib.hid (SRes.of HM102 HO102out HK (by decide) (Pg.fin HP.out (T := fun t => t) (fun _ _ hx => hx)))
        go_wp2_with fail
        go_ret
        exact HF.out
      | true =>
        have HV0 := Lib.hid hv0
        replace HP : Hid (Pg M i false (fun t : Tr => Xx L (fl t)) (fun t => ww l (i + 1) fun n j => (if isK l j kOr = true then (P l f 16 (j + 1)).bind fun x q => .ok (.mk 16 n 0 [t, x]) q else getL l (P l f) k (.mk 16 n 0 [t]) j))) := Lib.hid (HP.out.eq fun _ t _ => get_more (i := i) hv0 t)
        clear hv0
        go_wp2_with (go_at_call 80; refine (lk_is (v := ?_) (k := ?_) HM0 ?_ ?_ ?_).mono ?_; rotate_left 2; exact HV0; exact rfl; decide; rintro e w101 ⟨rfl, hgo101⟩; refine Hid.out ?_)
        refine Lib.hid ?_
        have HM102 := Lib.hid hgo101.1
        have HO102out := Lib.hid (HO.out.step hgo101.2 HRB.out)
        clear HO hgo101
        have hc1_103 := HM102.out.rd.sr.c1
        have hf1_103 := HM102.out.rd.sr.f 1
        have hwr_103 := HM102.out.wr (isS_lt (i := i) HV0.out)
        have hgo103 := HM102.out.inc (isS_lt (i := i) HV0.out)
        obtain ⟨w103, hw103⟩ : ∃ W, W = w101.setCell ⟨rb, 1, none⟩ (.int .i64 (((i : Nat) : Int) + 1)) := ⟨_, rfl⟩
        rw [← hw103] at hgo103
        have HW103 := Lib.hid hw103
        obtain ⟨i103, hi103⟩ : ∃ z, i + 1 = z := ⟨_, rfl⟩
        rw [hi103] at hgo103
        have HI103 := Lib.hid hi103
        have HM104 := Lib.hid hgo103.1
        have HO104out := Lib.hid (HO102out.out.step hgo103.2 HRB.out)
        clear HO102out HM102 hgo103 hw103 hi103
        replace HP : Hid (Pg M i103 false (fun t : Tr => Xx L (fl t)) (fun t => ww l i103 fun n j => (if isK l j kOr = true then (P l f 16 (j + 1)).bind fun x q => .ok (.mk 16 n 0 [t, x]) q else getL l (P l f) k (.mk 16 n 0 [t]) j))) := Lib.hid (by have h1 := HP.out.pos (i + 1); have h2 : i + 1 = i103 := HI103.out; rw [h2] at h1; exact h1)
        cases hv2 : isW l i103 with
        | false =>
          have HV2 := Lib.hid hv2
          clear hv2
          go_wp2_with (go_at_call 81; rw [← HW103.out]; refine (st_word (v := false) HM104 HV2).mono ?_; rintro e w205 ⟨s205, ⟨rfl, hs205, hz205⟩, hgo205⟩; refine Hid.out ?_)
          refine Lib.hid ?_
          have HM206 := Lib.hid hgo205.1
          have HO206out := Lib.hid (HO104out.out.step hgo205.2 HRB.out)
          have HZ205 := Lib.hid hz205
          replace HM206 : Hid (Mv w w205 rb a cp l i103 true) := HM206
          have HBD : Hid (M = .bad i103) := by
            obtain ⟨x, _, hx⟩ := HP.out.no rfl
            show _ = _
            rw [hx]
            unfold ww
            rw [if_neg (by rw [HV2.out]; decide)]
          clear hc1_103 hf1_103 hwr_103 HO104out HM104 hz205 hgo205 HP
          have c2 : w205.cell? ⟨rb, 2, none⟩ = some (.bool true) := HM206.out.rd.sr.c2
          go_wp2_with (go_at_call 82; refine (st_make HM206 16 0 HO206out HK (by omega)).mono ?_; rintro e w207 ⟨L207, ⟨g207, c207, rfl, ho207, hgo207⟩, HL207⟩; refine Hid.out ?_)
          refine Lib.hid ?_
          have HM208 := Lib.hid hgo207.1
          have HO208out := Lib.hid (HO206out.out.step hgo207.2 HRB.out)
          have HO207 := Lib.hid ho207
          have HK207 : Hid (Okn 3001 L207) := by rw [HL207.out]; exact HK.out.mk 16 0 HZ205.out
          clear c2 HO206out HM206 ho207 hgo207
          have HGE : Hid (true = false → i < i103) := fun e => by cases e
          have HLB : Hid (LE (getL l (P l f)) w w207 rb cp a l M i0 (.slice (some ⟨g207, 0, none⟩) L207.length c207) (if true = true then 0 else l.length + 1 - i103)) := ⟨g207, c207, L207, i103, true, k, rfl, HO207.out, HM208.out, HK207.out, ⟨fun _ => HBD.out, fun e => by cases e⟩, (fun hb => by cases hb), Nat.le_refl _⟩
          go_wp2_with fail
          go_roundg 0
          case measure => have h1 := HQ.out; have h2 := HIL.out; omega
          case rel => exact HLB.out
        | true =>
          have HV2 := Lib.hid hv2
          clear hv2
          go_wp2_with (go_at_call 81; rw [← HW103.out]; refine (st_word (v := true) HM104 HV2).mono ?_; rintro e w305 ⟨s305, ⟨rfl, hs305, hz305⟩, hgo305⟩; refine Hid.out ?_)
          refine Lib.hid ?_
          have HM306 := Lib.hid hgo305.1
          have HO306out := Lib.hid (HO104out.out.step hgo305.2 HRB.out)
          have HZ305 := Lib.hid hz305
          have HP305 := Lib.hid (HP.out.word HV2.out hs305.out)
          replace HM306 : Hid (Mv w w305 rb a cp l (i103 + 1) false) := HM306
          obtain ⟨i305, hi305⟩ : ∃ z, i103 + 1 = z := ⟨_, rfl⟩
          rw [hi305] at HM306
          have HI305 := Lib.hid hi305
          have hw9 : wtI false true i103 = i305 := hi305
          have hb9 : wtB false true = false := rfl
          rw [hw9, hb9] at HP305
          clear hw9 hb9
          clear hc1_103 hf1_103 hwr_103 HO104out HM104 hz305 hgo305 HP hi305
          cases hv3 : isK l i305 [111, 114] with
          | false =>
            have HV3 := Lib.hid hv3
            replace HP305 := Lib.hid (HP305.out.eq (m' := fun t => getL l (P l f) k (.mk 16 s305 0 [t]) i305) fun _ t _ => if_neg (by rw [show isK l i305 kOr = false from hv3]; decide))
            clear hv3
            have c2 : w305.cell? ⟨rb, 2, none⟩ = some (.bool false) := HM306.out.rd.sr.c2
            go_wp2_with (go_at_call 85; refine (lk_key (v := ?_) HM306 ?_).mono ?_; rotate_left 1; exact HV3; rintro e w407 ⟨rfl, hgo407⟩; refine Hid.out ?_)
            refine Lib.hid ?_
            have HM408 := Lib.hid hgo407.1
            have HO408out := Lib.hid (HO306out.out.step hgo407.2 HRB.out)
            clear c2 HO306out HM306 hgo407
            go_wp2_with (go_at_call 82; refine (st_make HM408 16 0 HO408out HK (by omega)).mono ?_; rintro e w409 ⟨L409, ⟨g409, c409, rfl, ho409, hgo409⟩, HL409⟩; refine Hid.out ?_)
            refine Lib.hid ?_
            have HM410 := Lib.hid hgo409.1
            have HO410out := Lib.hid (HO408out.out.step hgo409.2 HRB.out)
            have HO409 := Lib.hid ho409
            have HK409 : Hid (Okn 3001 L409) := by rw [HL409.out]; exact HK.out.mk 16 0 HZ305.out
            clear HO408out HM408 ho409 hgo409
            have HGE : Hid (false = false → i < i305) := fun _ => by have h1 := HI103.out; have h2 := HI305.out; omega
            have HLB : Hid (LE (getL l (P l f)) w w409 rb cp a l M i0 (.slice (some ⟨g409, 0, none⟩) L409.length c409) (if false = true then 0 else l.length + 1 - i305)) := ⟨g409, c409, L409, i305, false, k, rfl, HO409.out, HM410.out, HK409.out, HP305.out.via (fun t => .mk 16 s305 0 [t]) (fun _ t hx => ⟨by rw [HL409.out]; exact Xx.mk1 hx.l1 16 _ 0, rfl⟩), (fun hb => by have h1 := HGE.out (by first | exact hb | trivial); have h2 := HKI.out; omega), Nat.le_refl _⟩
            go_wp2_with fail
            go_roundg (l.length + 1 - i305)
            case measure => have h1 := HQ.out; have h2 := HIL.out; have h3 := HGE.out (by trivial); omega
            case rel => exact HLB.out
          | true =>
            have HV3 := Lib.hid hv3
            replace HP305 := Lib.hid (HP305.out.eq (m' := fun t => (P l f 16 (i305 + 1)).bind fun x q => .ok (.mk 16 s305 0 [t, x]) q) fun _ t _ => if_pos hv3)
            clear hv3
            have c2 : w305.cell? ⟨rb, 2, none⟩ = some (.bool false) := HM306.out.rd.sr.c2
            go_wp2_with (go_at_call 85; refine (lk_key (v := ?_) HM306 ?_).mono ?_; rotate_left 1; exact HV3; rintro e w507 ⟨rfl, hgo507⟩; refine Hid.out ?_)
            refine Lib.hid ?_
            have HM508 := Lib.hid hgo507.1
            have HO508out := Lib.hid (HO306out.out.step hgo507.2 HRB.out)
            clear c2 HO306out HM306 hgo507
            have hc1_509 := HM508.out.rd.sr.c1
            have hf1_509 := HM508.out.rd.sr.f 1
            have hwr_509 := HM508.out.wr (isK_lt HV3.out)
            have hgo509 := HM508.out.inc (isK_lt HV3.out)
            obtain ⟨w509, hw509⟩ : ∃ W, W = w507.setCell ⟨rb, 1, none⟩ (.int .i64 (((i305 : Nat) : Int) + 1)) := ⟨_, rfl⟩
            rw [← hw509] at hgo509
            have HW509 := Lib.hid hw509
            obtain ⟨i509, hi509⟩ : ∃ z, i305 + 1 = z := ⟨_, rfl⟩
            rw [hi509] at hgo509
            have HI509 := Lib.hid hi509
            have HM510 := Lib.hid hgo509.1
            have HO510out := Lib.hid (HO508out.out.step hgo509.2 HRB.out)
            clear HO508out HM508 hgo509 hw509 hi509
            replace HP305 := Lib.hid (by have h1 := HP305.out.pos (i305 + 1); have h2 : i305 + 1 = i509 := HI509.out; rw [h2] at h1; exact h1)
            have HRD511 := Lib.hid (HA.out w509 rb cp i509 a l HM510.out.rd (by have h1 := HFC.out; have h2 := HKI.out; have h3 := HI103.out; have h4 := HI305.out; have h5 := HI509.out; unfold FC at h1 ⊢; omega))
            go_wp2_with (go_at_call 121; rw [← HW509.out]; refine (st_read HM510 HRD511.out).mono ?_; rintro e w511 ⟨i511, b511, L511, ⟨g511, c511, rfl, ho511, hgo511⟩, hk511, hr511⟩; refine Hid.out ?_)
            refine Lib.hid ?_
            have HM512 := Lib.hid hgo511.1
            have HO512out := Lib.hid (HO510out.out.step hgo511.2 HRB.out)
            have HO511 := Lib.hid ho511
            have HP511 := Lib.hid (HP305.out.read0 hr511.out)
            clear hc1_509 hf1_509 hwr_509 HO510out HM510 ho511 hgo511 HRD511 HP305
            go_wp2_with (go_at_call 88; refine (st_both HM512 HO512out HO511 HK (by omega) hk511 (by omega)).mono ?_; rintro e w513 ⟨L513, ⟨g513, c513, rfl, ho513, hgo513⟩, HL513⟩; refine Hid.out ?_)
            refine Lib.hid ?_
            have HM514 := Lib.hid hgo513.1
            have HO514out := Lib.hid (HO512out.out.step hgo513.2 HRB.out)
            have HO514e := Lib.hid (HO511.out.step hgo513.2 HRB.out)
            have HO513 := Lib.hid ho513
            have HK513 : Hid (Okn 3001 L513) := by rw [HL513.out]; exact HK.out.bo hk511.out
            clear HO512out HO511 HM512 ho513 hgo513
            go_wp2_with (go_at_call 82; refine (st_make HM514 16 0 HO513 HK513 (by omega)).mono ?_; rintro e w515 ⟨L515, ⟨g515, c515, rfl, ho515, hgo515⟩, HL515⟩; refine Hid.out ?_)
            refine Lib.hid ?_
            have HM516 := Lib.hid hgo515.1
            have HO516out := Lib.hid (HO514out.out.step hgo515.2 HRB.out)
            have HO516e := Lib.hid (HO514e.out.step hgo515.2 HRB.out)
            have HO516bo := Lib.hid (HO513.out.step hgo515.2 HRB.out)
            have HO515 := Lib.hid ho515
            have HK515 : Hid (Okn 3001 L515) := by rw [HL515.out]; exact HK513.out.mk 16 0 HZ305.out
            clear HO514out HO514e HO513 HM514 ho515 hgo515
            have HF := Lib.hid (SRes.of HM516 HO515 HK515 (by decide) (Pg.fin HP511.out (T := fun x : Tr × Tr => .mk 16 s305 0 [x.1, x.2]) (fun _ x hx => by rw [HL515.out, HL513.out]; exact Xx.mk1 (Xx.bo hx.1.l1 hx.2.l1) 16 _ 0)))
            go_wp2_with fail
            go_ret
            exact HF.out
end Go.Proofs.YtifgaaemdojmpaaGreatDoor.pr
