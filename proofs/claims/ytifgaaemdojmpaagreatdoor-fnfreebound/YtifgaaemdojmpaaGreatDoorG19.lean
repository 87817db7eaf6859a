import Derived.Test.YtifgaaemdojmpaaGreatDoorG18
namespace Go.Proofs.YtifgaaemdojmpaaGreatDoor.pr
open Go.ChangeShapes Go.WideShapes Go.ChangeAt Go.RowKit Go.Deep
open lx (Lx)
open ex (Tr Ex infoE)
set_option linter.unusedVariables false
set_option linter.unusedSimpArgs false

/-! ### The specification's reader: params -/

def tlP (l : Ls) (p : Pt) (acc : List Tr) (n : Int) (j : Nat) : Rs Tr := wt l sShut j fun q => wt l sColon q fun r => (p 1 r).bind fun e u => .ok (.mk 14 noT n (acc ++ [e])) u
def suP (l : Ls) (p : Pt) (k : Nat) (acc : List Tr) (n : ByteArray) (ps : List Tr) (q : Nat) : Rs Tr := if isS l q sShut = true then tlP l p (acc ++ [.mk 15 n 0 ps]) 0 q else wt l sComma q fun r => if isS l r sShut = true then .bad r else (takeL l p k r).bind fun x u => tlP l p (acc ++ (.mk 15 n 0 ps :: x.1)) x.2 u
section
variable {l : Ls} {p : Pt} {k i : Nat}
theorem take_shut (h : isS l i sShut = true) (acc : List Tr) : ((takeL l p (k + 1) i).bind fun x j => tlP l p (acc ++ x.1) x.2 j) = tlP l p acc 0 i := by
  unfold takeL
  rw [if_pos h, bind_ok, List.append_nil]
theorem take_dots (h : isS l i sShut = false) (h2 : isS l i sDots = true) (acc : List Tr) : ((takeL l p (k + 1) i).bind fun x j => tlP l p (acc ++ x.1) x.2 j) = tlP l p acc 1 (i + 1) := by
  unfold takeL
  rw [if_neg (by rw [h]; decide), if_pos h2, bind_ok, List.append_nil]
theorem take_word (h : isS l i sShut = false) (h2 : isS l i sDots = false) (acc : List Tr) : ((takeL l p (k + 1) i).bind fun x j => tlP l p (acc ++ x.1) x.2 j) = ww l i fun n j => if isS l j sAsk = true then (p 1 (j + 1)).bind fun e q => suP l p k acc n [e] q else suP l p k acc n [] j := by
  unfold takeL
  rw [if_neg (by rw [h]; decide), if_neg (by rw [h2]; decide), ww_bind]
  congr 1
  funext n j
  by_cases ha : isS l j sAsk = true
  · rw [if_pos ha, if_pos ha, bind_bind, bind_bind]
    congr 1
    funext e q
    rw [bind_ok]
    unfold suP
    by_cases hs : isS l q sShut = true
    · rw [if_pos hs, if_pos hs]; rfl
    · rw [if_neg hs, if_neg hs, wt_bind]
      congr 1
      funext r
      by_cases hr : isS l r sShut = true
      · rw [if_pos hr, if_pos hr]; rfl
      · rw [if_neg hr, if_neg hr, bind_bind]; rfl
  · rw [if_neg ha, if_neg ha, bind_bind, bind_ok]
    unfold suP
    by_cases hs : isS l j sShut = true
    · rw [if_pos hs, if_pos hs]; rfl
    · rw [if_neg hs, if_neg hs, wt_bind]
      congr 1
      funext r
      by_cases hr : isS l r sShut = true
      · rw [if_pos hr, if_pos hr]; rfl
      · rw [if_neg hr, if_neg hr, bind_bind]; rfl
end
/-- The params' loop at its head. -/
def LP (w wr : World) (rb cp : Nat) (a : Option Addr) (l : Ls) (M : Rs Tr) (f i0 : Nat) (v3 v4 : Value) (q : Nat) : Prop := ∃ (g c : Nat) (L : List Ex) (i : Nat) (b : Bool) (k : Nat), v3 = .slice (some ⟨g, 0, none⟩) L.length c ∧ v4 = .int .i64 0 ∧ Ow w.heap.size wr g c L ∧ Mv w wr rb a cp l i b ∧ Okn (if b = true then 3001 * (l.length + 1) else 3001 * i) L ∧ Pg M i b (fun acc : List Tr => Xx L (flL acc)) (fun acc => (takeL l (P l f) k i).bind fun x j => tlP l (P l f) (acc ++ x.1) x.2 j) ∧ (b = false → l.length + 1 ≤ k + i ∧ i0 ≤ i) ∧ (if b = true then 0 else l.length + 1 - i) ≤ q

set_option maxRecDepth 100000 in
set_option maxHeartbeats 4000000 in
theorem take_any {f : Nat} (hE : CE f) (hlt : ∀ l, Lt l f) : CT f := by
  intro w rb cp i00 a l h hi0 hf
  obtain ⟨M, hM⟩ : ∃ M, takeP l (P l f) (i00 + 1) = M := ⟨_, rfl⟩
  rw [hM]
  have hrb := h.sr.lt
  have HRB := Lib.hid hrb
  have HNE := Lib.hid h.blk
  have HE := Lib.hid hE
  have HLT := Lib.hid (hlt l)
  have hc1 := h.sr.c1
  have hf1 := h.sr.f 1
  have hwr := (Mv.refl h).wr hi0
  have hgo := ((Mv.refl h).inc hi0).1
  obtain ⟨w0, hw0⟩ : ∃ W, W = w.setCell ⟨rb, 1, none⟩ (.int .i64 ((i00 : Int) + 1)) := ⟨_, rfl⟩
  have hz0 : w0.heap.size = w.heap.size := by rw [hw0]; simp
  rw [← hw0] at hgo
  have HW0 := Lib.hid hw0
  obtain ⟨i0, hi⟩ : ∃ z, i00 + 1 = z := ⟨_, rfl⟩
  rw [hi] at hgo hM hi0 hf
  have HFC := Lib.hid hf
  have hn0 := Ow.nil w0
  rw [hz0] at hn0
  have HST : Hid (LP w (w0.alloc (.cells #[] 27)) rb cp a l M f i0 (.slice (some ⟨w.heap.size, 0, none⟩) 0 0) (.int .i64 0) (l.length + 1)) :=
    ⟨w.heap.size, 0, [], i0, false, l.length + 1, rfl, rfl, hn0, hgo.below ((Below.refl _ _).alloc (Nat.le_refl _) _), Okn.nil.up (Nat.zero_le _), (by rw [← hM]; exact (Pg.start _ _).via (fun _ => []) (fun _ _ _ => ⟨Xx.refl _, rfl⟩)), (fun _ => ⟨by omega, Nat.le_refl _⟩), by show l.length + 1 - i0 ≤ _; omega⟩
  clear h hE hlt hf hM hgo hn0 hi hw0 hi0
  go_enter Tryz.func84, Tryz.ntmps84
  go_upto_region 2 with fail
  rw [← HW0.out]
  clear hc1 hf1 hwr
  go_wp2
  clear hz0
  go_loopg [3, 4] (l.length + 1) (fun q v3 v4 wr => LP w wr rb cp a l M f i0 v3 v4 q)
  case atStart => exact HST.out
  case round =>
    clear HST hrb
    obtain ⟨g, c, L, i, b, k, rfl, rfl, ho, hm, hk, hp, hb, hq⟩ := hrel
    have HM0 := Lib.hid hm
    have HO := Lib.hid ho
    have HK := Lib.hid hk
    have HP := Lib.hid hp
    have HBQ := Lib.hid hb
    have HQ : Hid ((if b = true then 0 else l.length + 1 - i) ≤ gk) := hq
    have c2 := hm.rd.sr.c2
    clear ho hm hk hp hb hq
    cases b with
    | true =>
      replace HK : Hid (Okn (3001 * (l.length + 1)) L) := HK
      have HKA : Hid (Okn 90000000 L) := HK.out.up (by have h1 := HM0.out.rd.cl.2.2; omega)
      replace HP : Hid (Pg M i true (fun acc : List Tr => Xx L (flL acc)) (fun acc => tlP l (P l f) acc 0 i)) := ⟨HP.out.yes, fun e => by cases e⟩
      have HTL : Hid (true = false → i0 ≤ i) := fun e => by cases e
      replace HP := Lib.hid (show Pg M i true _ (fun acc => wt l sShut i fun q => wt l sColon q fun r => (P l f 1 r).bind fun e u => .ok (.mk 14 noT 0 (acc ++ [e])) u) from HP.out)
      obtain ⟨v101, hv101⟩ : ∃ v, isS l (i) [125] = v := ⟨_, rfl⟩
      have HV101 := Lib.hid hv101
      clear hv101
      go_wp2_with (go_at_call 89; refine (st_want (v := ?_) HM0 ?_).mono ?_; rotate_left 1; exact HV101; rintro e w101 ⟨rfl, hgo101⟩; refine Hid.out ?_)
      refine Lib.hid ?_
      have HM102 := Lib.hid hgo101.1
      have HO102out := Lib.hid (HO.out.step hgo101.2 HRB.out)
      have HP101 := Lib.hid (HP.out.want HV101.out)
      obtain ⟨i101, hi101⟩ : ∃ z, wtI true v101 i = z := ⟨_, rfl⟩
      obtain ⟨b101, hb101⟩ : ∃ z, wtB true v101 = z := ⟨_, rfl⟩
      rw [hi101, hb101] at HM102
      rw [hi101, hb101] at HP101
      have HI101 := Lib.hid hi101
      have HB101 := Lib.hid hb101
      clear HO HP hi101 hb101 hgo101
      obtain ⟨v103, hv103⟩ : ∃ v, isS l (i101) [58] = v := ⟨_, rfl⟩
      have HV103 := Lib.hid hv103
      clear hv103
      go_wp2_with (go_at_call 89; refine (st_want (v := ?_) HM102 ?_).mono ?_; rotate_left 1; exact HV103; rintro e w103 ⟨rfl, hgo103⟩; refine Hid.out ?_)
      refine Lib.hid ?_
      have HM104 := Lib.hid hgo103.1
      have HO104out := Lib.hid (HO102out.out.step hgo103.2 HRB.out)
      have HP103 := Lib.hid (HP101.out.want HV103.out)
      obtain ⟨i103, hi103⟩ : ∃ z, wtI b101 v103 i101 = z := ⟨_, rfl⟩
      obtain ⟨b103, hb103⟩ : ∃ z, wtB b101 v103 = z := ⟨_, rfl⟩
      rw [hi103, hb103] at HM104
      rw [hi103, hb103] at HP103
      have HI103 := Lib.hid hi103
      have HB103 := Lib.hid hb103
      clear HO102out HM102 HP101 hi103 hb103 hgo103
      have HRD105 := Lib.hid (HE.out w103 rb cp i103 a l b103 HM104.out.rd (fun hb => HFC.out.le (by have h1 := HB103.out; rw [hb] at h1; have h2 := wtB_false (i := i101) h1; have h3 := HB101.out; rw [h2.1] at h3; have h4 := wtB_false (i := i) h3; have h5 := HTL.out (by first | exact h4.1 | trivial); have h6 := HI101.out; have h7 := HI103.out; have h8 := (wtI_le (b := true) (v := v101) (i := i)).1; have h9 := (wtI_le (b := b101) (v := v103) (i := i101)).1; omega)))
      go_wp2_with (go_at_call 57; refine (st_read HM104 HRD105.out).mono ?_; rintro e w105 ⟨i105, b105, L105, ⟨g105, c105, rfl, ho105, hgo105⟩, hk105, hr105⟩; refine Hid.out ?_)
      refine Lib.hid ?_
      have HM106 := Lib.hid hgo105.1
      have HO106out := Lib.hid (HO104out.out.step hgo105.2 HRB.out)
      have HO105 := Lib.hid ho105
      have HP105 := Lib.hid (HP103.out.read hr105.out)
      clear HO104out HM104 ho105 hgo105 HRD105 HP103
      go_wp2_with (go_at_call 88; refine (st_both HM106 HO106out HO105 HKA (by omega) hk105 (by omega)).mono ?_; rintro e w107 ⟨L107, ⟨g107, c107, rfl, ho107, hgo107⟩, HL107⟩; refine Hid.out ?_)
      refine Lib.hid ?_
      have HM108 := Lib.hid hgo107.1
      have HO108out := Lib.hid (HO106out.out.step hgo107.2 HRB.out)
      have HO108te := Lib.hid (HO105.out.step hgo107.2 HRB.out)
      have HO107 := Lib.hid ho107
      have HK107 : Hid (Okn 3001 L107) := by rw [HL107.out]; exact HKA.out.bo hk105.out
      clear HO106out HO105 HM106 ho107 hgo107
      go_wp2_with (go_at_call 82; refine (st_make HM108 14 0 HO107 HK107 (by omega)).mono ?_; rintro e w109 ⟨L109, ⟨g109, c109, rfl, ho109, hgo109⟩, HL109⟩; refine Hid.out ?_)
      refine Lib.hid ?_
      have HM110 := Lib.hid hgo109.1
      have HO110out := Lib.hid (HO108out.out.step hgo109.2 HRB.out)
      have HO110te := Lib.hid (HO108te.out.step hgo109.2 HRB.out)
      have HO110tb := Lib.hid (HO107.out.step hgo109.2 HRB.out)
      have HO109 := Lib.hid ho109
      have HK109 : Hid (Okn 3001 L109) := by rw [HL109.out]; exact HK107.out.mk 14 0 (by decide)
      clear HO108out HO108te HO107 HM108 ho109 hgo109
      have HF := Lib.hid (SRes.of HM110 HO109 HK109 (by decide) (Pg.fin HP105.out (T := fun x : List Tr × Tr => .mk 14 noT 0 (x.1 ++ [x.2])) (fun _ x hx => by rw [HL109.out, HL107.out]; exact Xx.mk1 (Xx.bo hx.1 hx.2.l1) 14 _ _)))
      go_wp2_with fail
      go_ret
      exact HF.out
    | false =>
      have HKI : Hid (l.length + 1 ≤ k + i ∧ i0 ≤ i) := HBQ.out rfl
      replace HK : Hid (Okn (3001 * i) L) := HK
      replace HQ : Hid (l.length + 1 - i ≤ gk) := HQ
      have HIL := Lib.hid HM0.out.rd.le
      have HCL := Lib.hid HM0.out.rd.cl.2.2
      obtain ⟨k, rfl⟩ : ∃ z, k = z + 1 := ⟨k - 1, by have h1 := HKI.out; have h2 := HIL.out; omega⟩
      clear HBQ
      cases hv0 : isS l (i + 0) [125] with
      | true =>
        have HV0 := Lib.hid hv0
        replace HP : Hid (Pg M i false (fun acc : List Tr => Xx L (flL acc)) (fun acc => tlP l (P l f) acc 0 i)) := Lib.hid (HP.out.eq fun _ acc _ => take_shut (i := i) hv0 acc)
        clear hv0
        go_wp2_with (go_at_call 80; refine (lk_is (v := ?_) (k := ?_) HM0 ?_ ?_ ?_).mono ?_; rotate_left 2; exact HV0; exact rfl; decide; rintro e w101 ⟨rfl, hgo101⟩; refine Hid.out ?_)
        refine Lib.hid ?_
        have HM102 := Lib.hid hgo101.1
        have HO102out := Lib.hid (HO.out.step hgo101.2 HRB.out)
        clear HO hgo101
        have HKA : Hid (Okn 90000000 L) := HK.out.up (by have h1 := HCL.out; have h2 := HIL.out; omega)
        have HTL : Hid (false = false → i0 ≤ i) := fun _ => HKI.out.2
        replace HP := Lib.hid (show Pg M i false _ (fun acc => wt l sShut i fun q => wt l sColon q fun r => (P l f 1 r).bind fun e u => .ok (.mk 14 noT 0 (acc ++ [e])) u) from HP.out)
        obtain ⟨v103, hv103⟩ : ∃ v, isS l (i) [125] = v := ⟨_, rfl⟩
        have HV103 := Lib.hid hv103
        clear hv103
        go_wp2_with (go_at_call 89; refine (st_want (v := ?_) HM102 ?_).mono ?_; rotate_left 1; exact HV103; rintro e w103 ⟨rfl, hgo103⟩; refine Hid.out ?_)
        refine Lib.hid ?_
        have HM104 := Lib.hid hgo103.1
        have HO104out := Lib.hid (HO102out.out.step hgo103.2 HRB.out)
        have HP103 := Lib.hid (HP.out.want HV103.out)
        obtain ⟨i103, hi103⟩ : ∃ z, wtI false v103 i = z := ⟨_, rfl⟩
        obtain ⟨b103, hb103⟩ : ∃ z, wtB false v103 = z := ⟨_, rfl⟩
        rw [hi103, hb103] at HM104
        rw [hi103, hb103] at HP103
        have HI103 := Lib.hid hi103
        have HB103 := Lib.hid hb103
        clear HO102out HM102 HP hi103 hb103 hgo103
        obtain ⟨v105, hv105⟩ : ∃ v, isS l (i103) [58] = v := ⟨_, rfl⟩
        have HV105 := Lib.hid hv105
        clear hv105
        go_wp2_with (go_at_call 89; refine (st_want (v := ?_) HM104 ?_).mono ?_; rotate_left 1; exact HV105; rintro e w105 ⟨rfl, hgo105⟩; refine Hid.out ?_)
        refine Lib.hid ?_
        have HM106 := Lib.hid hgo105.1
        have HO106out := Lib.hid (HO104out.out.step hgo105.2 HRB.out)
        have HP105 := Lib.hid (HP103.out.want HV105.out)
        obtain ⟨i105, hi105⟩ : ∃ z, wtI b103 v105 i103 = z := ⟨_, rfl⟩
        obtain ⟨b105, hb105⟩ : ∃ z, wtB b103 v105 = z := ⟨_, rfl⟩
        rw [hi105, hb105] at HM106
        rw [hi105, hb105] at HP105
        have HI105 := Lib.hid hi105
        have HB105 := Lib.hid hb105
        clear HO104out HM104 HP103 hi105 hb105 hgo105
        have HRD107 := Lib.hid (HE.out w105 rb cp i105 a l b105 HM106.out.rd (fun hb => HFC.out.le (by have h1 := HB105.out; rw [hb] at h1; have h2 := wtB_false (i := i103) h1; have h3 := HB103.out; rw [h2.1] at h3; have h4 := wtB_false (i := i) h3; have h5 := HTL.out (by first | exact h4.1 | trivial); have h6 := HI103.out; have h7 := HI105.out; have h8 := (wtI_le (b := false) (v := v103) (i := i)).1; have h9 := (wtI_le (b := b103) (v := v105) (i := i103)).1; omega)))
        go_wp2_with (go_at_call 57; refine (st_read HM106 HRD107.out).mono ?_; rintro e w107 ⟨i107, b107, L107, ⟨g107, c107, rfl, ho107, hgo107⟩, hk107, hr107⟩; refine Hid.out ?_)
        refine Lib.hid ?_
        have HM108 := Lib.hid hgo107.1
        have HO108out := Lib.hid (HO106out.out.step hgo107.2 HRB.out)
        have HO107 := Lib.hid ho107
        have HP107 := Lib.hid (HP105.out.read hr107.out)
        clear HO106out HM106 ho107 hgo107 HRD107 HP105
        go_wp2_with (go_at_call 88; refine (st_both HM108 HO108out HO107 HKA (by omega) hk107 (by omega)).mono ?_; rintro e w109 ⟨L109, ⟨g109, c109, rfl, ho109, hgo109⟩, HL109⟩; refine Hid.out ?_)
        refine Lib.hid ?_
        have HM110 := Lib.hid hgo109.1
        have HO110out := Lib.hid (HO108out.out.step hgo109.2 HRB.out)
        have HO110te := Lib.hid (HO107.out.step hgo109.2 HRB.out)
        have HO109 := Lib.hid ho109
        have HK109 : Hid (Okn 3001 L109) := by rw [HL109.out]; exact HKA.out.bo hk107.out
        clear HO108out HO107 HM108 ho109 hgo109
        go_wp2_with (go_at_call 82; refine (st_make HM110 14 0 HO109 HK109 (by omega)).mono ?_; rintro e w111 ⟨L111, ⟨g111, c111, rfl, ho111, hgo111⟩, HL111⟩; refine Hid.out ?_)
        refine Lib.hid ?_
        have HM112 := Lib.hid hgo111.1
        have HO112out := Lib.hid (HO110out.out.step hgo111.2 HRB.out)
        have HO112te := Lib.hid (HO110te.out.step hgo111.2 HRB.out)
        have HO112tb := Lib.hid (HO109.out.step hgo111.2 HRB.out)
        have HO111 := Lib.hid ho111
        have HK111 : Hid (Okn 3001 L111) := by rw [HL111.out]; exact HK109.out.mk 14 0 (by decide)
        clear HO110out HO110te HO109 HM110 ho111 hgo111
        have HF := Lib.hid (SRes.of HM112 HO111 HK111 (by decide) (Pg.fin HP107.out (T := fun x : List Tr × Tr => .mk 14 noT 0 (x.1 ++ [x.2])) (fun _ x hx => by rw [HL111.out, HL109.out]; exact Xx.mk1 (Xx.bo hx.1 hx.2.l1) 14 _ _)))
        go_wp2_with fail
        go_ret
        exact HF.out
      | false =>
        have HV0 := Lib.hid hv0
        clear hv0
        cases hv1 : isS l (i + 0) [46, 46, 46] with
        | true =>
          have HV1 := Lib.hid hv1
          replace HP : Hid (Pg M i false (fun acc : List Tr => Xx L (flL acc)) (fun acc => tlP l (P l f) acc 1 (i + 1))) := Lib.hid (HP.out.eq fun _ acc _ => take_dots (i := i) HV0.out hv1 acc)
          clear hv1
          go_wp2_with (go_at_call 80; refine (lk_is (v := ?_) (k := ?_) HM0 ?_ ?_ ?_).mono ?_; rotate_left 2; exact HV0; exact rfl; decide; rintro e w101 ⟨rfl, hgo101⟩; refine Hid.out ?_)
          refine Lib.hid ?_
          have HM102 := Lib.hid hgo101.1
          have HO102out := Lib.hid (HO.out.step hgo101.2 HRB.out)
          clear HO hgo101
          go_wp2_with (go_at_call 80; refine (lk_is (v := ?_) (k := ?_) HM102 ?_ ?_ ?_).mono ?_; rotate_left 2; exact HV1; exact rfl; decide; rintro e w103 ⟨rfl, hgo103⟩; refine Hid.out ?_)
          refine Lib.hid ?_
          have HM104 := Lib.hid hgo103.1
          have HO104out := Lib.hid (HO102out.out.step hgo103.2 HRB.out)
          clear HO102out HM102 hgo103
          have hc1_105 := HM104.out.rd.sr.c1
          have hf1_105 := HM104.out.rd.sr.f 1
          have hwr_105 := HM104.out.wr (isS_lt (i := i) HV1.out)
          have hgo105 := HM104.out.inc (isS_lt (i := i) HV1.out)
          obtain ⟨w105, hw105⟩ : ∃ W, W = w103.setCell ⟨rb, 1, none⟩ (.int .i64 (((i : Nat) : Int) + 1)) := ⟨_, rfl⟩
          rw [← hw105] at hgo105
          have HW105 := Lib.hid hw105
          obtain ⟨i105, hi105⟩ : ∃ z, i + 1 = z := ⟨_, rfl⟩
          rw [hi105] at hgo105
          have HI105 := Lib.hid hi105
          have HM106 := Lib.hid hgo105.1
          have HO106out := Lib.hid (HO104out.out.step hgo105.2 HRB.out)
          clear HO104out HM104 hgo105 hw105 hi105
          have HKA : Hid (Okn 90000000 L) := HK.out.up (by have h1 := HCL.out; have h2 := HIL.out; omega)
          replace HP : Hid (Pg M i105 false (fun acc : List Tr => Xx L (flL acc)) (fun acc => tlP l (P l f) acc 1 i105)) := Lib.hid (by have h1 := HP.out.pos (i + 1); have h2 : i + 1 = i105 := HI105.out; rw [h2] at h1; exact h1)
          have HTL : Hid (false = false → i0 ≤ i105) := fun _ => by have h1 := HKI.out.2; have h2 := HI105.out; omega
          replace HP := Lib.hid (show Pg M i105 false _ (fun acc => wt l sShut i105 fun q => wt l sColon q fun r => (P l f 1 r).bind fun e u => .ok (.mk 14 noT 1 (acc ++ [e])) u) from HP.out)
          obtain ⟨v107, hv107⟩ : ∃ v, isS l (i105) [125] = v := ⟨_, rfl⟩
          have HV107 := Lib.hid hv107
          clear hv107
          go_wp2_with (go_at_call 89; rw [← HW105.out]; refine (st_want (v := ?_) HM106 ?_).mono ?_; rotate_left 1; exact HV107; rintro e w107 ⟨rfl, hgo107⟩; refine Hid.out ?_)
          refine Lib.hid ?_
          have HM108 := Lib.hid hgo107.1
          have HO108out := Lib.hid (HO106out.out.step hgo107.2 HRB.out)
          have HP107 := Lib.hid (HP.out.want HV107.out)
          obtain ⟨i107, hi107⟩ : ∃ z, wtI false v107 i105 = z := ⟨_, rfl⟩
          obtain ⟨b107, hb107⟩ : ∃ z, wtB false v107 = z := ⟨_, rfl⟩
          rw [hi107, hb107] at HM108
          rw [hi107, hb107] at HP107
          have HI107 := Lib.hid hi107
          have HB107 := Lib.hid hb107
          clear hc1_105 hf1_105 hwr_105 HO106out HM106 HP hi107 hb107 hgo107
          obtain ⟨v109, hv109⟩ : ∃ v, isS l (i107) [58] = v := ⟨_, rfl⟩
          have HV109 := Lib.hid hv109
          clear hv109
          go_wp2_with (go_at_call 89; refine (st_want (v := ?_) HM108 ?_).mono ?_; rotate_left 1; exact HV109; rintro e w109 ⟨rfl, hgo109⟩; refine Hid.out ?_)
          refine Lib.hid ?_
          have HM110 := Lib.hid hgo109.1
          have HO110out := Lib.hid (HO108out.out.step hgo109.2 HRB.out)
          have HP109 := Lib.hid (HP107.out.want HV109.out)
          obtain ⟨i109, hi109⟩ : ∃ z, wtI b107 v109 i107 = z := ⟨_, rfl⟩
          obtain ⟨b109, hb109⟩ : ∃ z, wtB b107 v109 = z := ⟨_, rfl⟩
          rw [hi109, hb109] at HM110
          rw [hi109, hb109] at HP109
          have HI109 := Lib.hid hi109
          have HB109 := Lib.hid hb109
          clear HO108out HM108 HP107 hi109 hb109 hgo109
          have HRD111 := Lib.hid (HE.out w109 rb cp i109 a l b109 HM110.out.rd (fun hb => HFC.out.le (by have h1 := HB109.out; rw [hb] at h1; have h2 := wtB_false (i := i107) h1; have h3 := HB107.out; rw [h2.1] at h3; have h4 := wtB_false (i := i105) h3; have h5 := HTL.out (by first | exact h4.1 | trivial); have h6 := HI107.out; have h7 := HI109.out; have h8 := (wtI_le (b := false) (v := v107) (i := i105)).1; have h9 := (wtI_le (b := b107) (v := v109) (i := i107)).1; omega)))
          go_wp2_with (go_at_call 57; refine (st_read HM110 HRD111.out).mono ?_; rintro e w111 ⟨i111, b111, L111, ⟨g111, c111, rfl, ho111, hgo111⟩, hk111, hr111⟩; refine Hid.out ?_)
          refine Lib.hid ?_
          have HM112 := Lib.hid hgo111.1
          have HO112out := Lib.hid (HO110out.out.step hgo111.2 HRB.out)
          have HO111 := Lib.hid ho111
          have HP111 := Lib.hid (HP109.out.read hr111.out)
          clear HO110out HM110 ho111 hgo111 HRD111 HP109
          go_wp2_with (go_at_call 88; refine (st_both HM112 HO112out HO111 HKA (by omega) hk111 (by omega)).mono ?_; rintro e w113 ⟨L113, ⟨g113, c113, rfl, ho113, hgo113⟩, HL113⟩; refine Hid.out ?_)
          refine Lib.hid ?_
          have HM114 := Lib.hid hgo113.1
          have HO114out := Lib.hid (HO112out.out.step hgo113.2 HRB.out)
          have HO114te := Lib.hid (HO111.out.step hgo113.2 HRB.out)
          have HO113 := Lib.hid ho113
          have HK113 : Hid (Okn 3001 L113) := by rw [HL113.out]; exact HKA.out.bo hk111.out
          clear HO112out HO111 HM112 ho113 hgo113
          go_wp2_with (go_at_call 82; refine (st_make HM114 14 1 HO113 HK113 (by omega)).mono ?_; rintro e w115 ⟨L115, ⟨g115, c115, rfl, ho115, hgo115⟩, HL115⟩; refine Hid.out ?_)
          refine Lib.hid ?_
          have HM116 := Lib.hid hgo115.1
          have HO116out := Lib.hid (HO114out.out.step hgo115.2 HRB.out)
          have HO116te := Lib.hid (HO114te.out.step hgo115.2 HRB.out)
          have HO116tb := Lib.hid (HO113.out.step hgo115.2 HRB.out)
          have HO115 := Lib.hid ho115
          have HK115 : Hid (Okn 3001 L115) := by rw [HL115.out]; exact HK113.out.mk 14 1 (by decide)
          clear HO114out HO114te HO113 HM114 ho115 hgo115
          have HF := Lib.hid (SRes.of HM116 HO115 HK115 (by decide) (Pg.fin HP111.out (T := fun x : List Tr × Tr => .mk 14 noT 1 (x.1 ++ [x.2])) (fun _ x hx => by rw [HL115.out, HL113.out]; exact Xx.mk1 (Xx.bo hx.1 hx.2.l1) 14 _ _)))
          go_wp2_with fail
          go_ret
          exact HF.out
        | false =>
          have HV1 := Lib.hid hv1
          replace HP : Hid (Pg M i false (fun acc : List Tr => Xx L (flL acc)) (fun acc => ww l i fun n j => if isS l j sAsk = true then (P l f 1 (j + 1)).bind fun e q => suP l (P l f) k acc n [e] q else suP l (P l f) k acc n [] j)) := Lib.hid (HP.out.eq fun _ acc _ => take_word (i := i) HV0.out hv1 acc)
          clear hv1
          cases hv2 : isW l i with
          | false =>
            have HV2 := Lib.hid hv2
            clear hv2
            go_wp2_with (go_at_call 80; refine (lk_is (v := ?_) (k := ?_) HM0 ?_ ?_ ?_).mono ?_; rotate_left 2; exact HV0; exact rfl; decide; rintro e w101 ⟨rfl, hgo101⟩; refine Hid.out ?_)
            refine Lib.hid ?_
            have HM102 := Lib.hid hgo101.1
            have HO102out := Lib.hid (HO.out.step hgo101.2 HRB.out)
            clear HO hgo101
            go_wp2_with (go_at_call 80; refine (lk_is (v := ?_) (k := ?_) HM102 ?_ ?_ ?_).mono ?_; rotate_left 2; exact HV1; exact rfl; decide; rintro e w103 ⟨rfl, hgo103⟩; refine Hid.out ?_)
            refine Lib.hid ?_
            have HM104 := Lib.hid hgo103.1
            have HO104out := Lib.hid (HO102out.out.step hgo103.2 HRB.out)
            clear HO102out HM102 hgo103
            obtain ⟨w105, hw105⟩ : ∃ W, W = w103.alloc (.cells #[] 27) := ⟨_, rfl⟩
            have hgo105 : Go w w103 w105 rb a cp l i false := by rw [hw105]; exact ⟨HM104.out.below ((Below.refl _ _).alloc (Nat.le_refl _) _), grb ((Below.refl _ _).alloc (Nat.le_refl _) _)⟩
            have HN105 : Hid (Ow w.heap.size w105 w103.heap.size 0 []) := by rw [hw105]; exact (Ow.nil w103).mono HM104.out.gr.size
            have HM106 := Lib.hid hgo105.1
            have HO106out := Lib.hid (HO104out.out.step hgo105.2 HRB.out)
            have HW105 := Lib.hid hw105
            clear HO104out HM104 hgo105 hw105
            go_wp2_with (go_at_call 81; rw [← HW105.out]; refine (st_word (v := false) HM106 HV2).mono ?_; rintro e w107 ⟨s107, ⟨rfl, hs107, hz107⟩, hgo107⟩; refine Hid.out ?_)
            refine Lib.hid ?_
            have HM108 := Lib.hid hgo107.1
            have HO108out := Lib.hid (HO106out.out.step hgo107.2 HRB.out)
            have HO108sub := Lib.hid (HN105.out.step hgo107.2 HRB.out)
            have HZ107 := Lib.hid hz107
            replace HM108 : Hid (Mv w w107 rb a cp l i true) := HM108
            have HBD : Hid (M = .bad i) := by
              obtain ⟨x, _, hx⟩ := HP.out.no rfl
              show _ = _
              rw [hx]
              unfold ww
              rw [if_neg (by rw [HV2.out]; decide)]
            clear HO106out HN105 HM106 hz107 hgo107 HP
            have c2 : w107.cell? ⟨rb, 2, none⟩ = some (.bool true) := HM108.out.rd.sr.c2
            go_wp2_with (go_at_call 82; refine (st_make HM108 15 0 HO108sub (Lib.hid Okn.nil) (by omega)).mono ?_; rintro e w109 ⟨L109, ⟨g109, c109, rfl, ho109, hgo109⟩, HL109⟩; refine Hid.out ?_)
            refine Lib.hid ?_
            have HM110 := Lib.hid hgo109.1
            have HO110out := Lib.hid (HO108out.out.step hgo109.2 HRB.out)
            have HO110sub := Lib.hid (HO108sub.out.step hgo109.2 HRB.out)
            have HO109 := Lib.hid ho109
            have HK109 : Hid (Okn 3001 L109) := by rw [HL109.out]; exact (Lib.hid Okn.nil).out.mk 15 0 HZ107.out
            clear c2 HO108out HO108sub HM108 ho109 hgo109
            have HSL : Hid (L.length + L109.length ≤ 200000000) := by have h1 := HK.out.1; have h2 := HIL.out; have h3 := HCL.out; have h4 := HK109.out.1; show _ ≤ _; omega
            obtain ⟨g112, c112, w112, L112, hr112, ho112, hm112, HL112⟩ := st_app HM110 HO110out.out HO109.out (HSL.out) HRB.out HNE.out 28
            have HO112 := Lib.hid ho112
            have HM112 := Lib.hid hm112
            have HR112 := Lib.hid hr112
            clear ho112 hm112 hr112
            go_wp2_with (at_builtin; refine wpList_plain rfl fun K hK => ?_; refine wp_appE _ _ rfl rfl rfl HR112.out ?_; refine hK _ _ ?_; refine Hid.out ?_)
            refine Lib.hid ?_
            clear HR112 HM110 HO110out
            go_wp2_with (go_at_call 80; refine (lk_is (v := ?_) (k := ?_) HM112 ?_ ?_ ?_).mono ?_; rotate_left 2; exact HV0; exact rfl; decide; rintro e w113 ⟨rfl, hgo113⟩; refine Hid.out ?_)
            refine Lib.hid ?_
            have HM114 := Lib.hid hgo113.1
            have HO114out := Lib.hid (HO112.out.step hgo113.2 HRB.out)
            clear HO110sub HO109 HO112 HM112 hgo113
            obtain ⟨v115, hv115⟩ : ∃ v, isS l (i) [44] = v := ⟨_, rfl⟩
            have HV115 := Lib.hid hv115
            clear hv115
            go_wp2_with (go_at_call 89; refine (st_want (v := ?_) HM114 ?_).mono ?_; rotate_left 1; exact HV115; rintro e w115 ⟨rfl, hgo115⟩; refine Hid.out ?_)
            refine Lib.hid ?_
            have HM116 := Lib.hid hgo115.1
            have HO116out := Lib.hid (HO114out.out.step hgo115.2 HRB.out)
            obtain ⟨i115, hi115⟩ : ∃ z, wtI true v115 i = z := ⟨_, rfl⟩
            obtain ⟨b115, hb115⟩ : ∃ z, wtB true v115 = z := ⟨_, rfl⟩
            rw [hi115, hb115] at HM116
            have HI115 := Lib.hid hi115
            have HB115 := Lib.hid hb115
            clear HO114out HM114 hi115 hb115 hgo115
            have e9 : i115 = i := HI115.out.symm
            have e8 : b115 = true := HB115.out.symm
            rw [e9, e8] at HM116
            clear e9 e8
            go_wp2_with (go_at_call 80; refine (lk_is (v := ?_) (k := ?_) HM116 ?_ ?_ ?_).mono ?_; rotate_left 2; exact HV0; exact rfl; decide; rintro e w117 ⟨rfl, hgo117⟩; refine Hid.out ?_)
            refine Lib.hid ?_
            have HM118 := Lib.hid hgo117.1
            have HO118out := Lib.hid (HO116out.out.step hgo117.2 HRB.out)
            clear HO116out HM116 hgo117
            have HLB : Hid (LP w w117 rb cp a l M f i0 (.slice (some ⟨g112, 0, none⟩) L112.length c112) (.int .i64 0) 0) := ⟨g112, c112, L112, i, true, k, rfl, rfl, HO118out.out, HM118.out, by rw [HL112.out]; exact (HK.out.app HK109.out).up (by show _ ≤ 3001 * (l.length + 1); have h1 := HIL.out; omega), ⟨fun _ => HBD.out, fun e => by cases e⟩, (fun e => by cases e), Nat.le_refl _⟩
            go_wp2_with fail
            go_roundg 0
            case measure => have h1 := HQ.out; have h2 := HIL.out; omega
            case rel => exact HLB.out
          | true =>
            have HV2 := Lib.hid hv2
            clear hv2
            go_wp2_with (go_at_call 80; refine (lk_is (v := ?_) (k := ?_) HM0 ?_ ?_ ?_).mono ?_; rotate_left 2; exact HV0; exact rfl; decide; rintro e w101 ⟨rfl, hgo101⟩; refine Hid.out ?_)
            refine Lib.hid ?_
            have HM102 := Lib.hid hgo101.1
            have HO102out := Lib.hid (HO.out.step hgo101.2 HRB.out)
            clear HO hgo101
            go_wp2_with (go_at_call 80; refine (lk_is (v := ?_) (k := ?_) HM102 ?_ ?_ ?_).mono ?_; rotate_left 2; exact HV1; exact rfl; decide; rintro e w103 ⟨rfl, hgo103⟩; refine Hid.out ?_)
            refine Lib.hid ?_
            have HM104 := Lib.hid hgo103.1
            have HO104out := Lib.hid (HO102out.out.step hgo103.2 HRB.out)
            clear HO102out HM102 hgo103
            obtain ⟨w105, hw105⟩ : ∃ W, W = w103.alloc (.cells #[] 27) := ⟨_, rfl⟩
            have hgo105 : Go w w103 w105 rb a cp l i false := by rw [hw105]; exact ⟨HM104.out.below ((Below.refl _ _).alloc (Nat.le_refl _) _), grb ((Below.refl _ _).alloc (Nat.le_refl _) _)⟩
            have HN105 : Hid (Ow w.heap.size w105 w103.heap.size 0 []) := by rw [hw105]; exact (Ow.nil w103).mono HM104.out.gr.size
            have HM106 := Lib.hid hgo105.1
            have HO106out := Lib.hid (HO104out.out.step hgo105.2 HRB.out)
            have HW105 := Lib.hid hw105
            clear HO104out HM104 hgo105 hw105
            go_wp2_with (go_at_call 81; rw [← HW105.out]; refine (st_word (v := true) HM106 HV2).mono ?_; rintro e w107 ⟨s107, ⟨rfl, hs107, hz107⟩, hgo107⟩; refine Hid.out ?_)
            refine Lib.hid ?_
            have HM108 := Lib.hid hgo107.1
            have HO108out := Lib.hid (HO106out.out.step hgo107.2 HRB.out)
            have HO108sub := Lib.hid (HN105.out.step hgo107.2 HRB.out)
            have HZ107 := Lib.hid hz107
            have HP107 := Lib.hid (HP.out.word HV2.out hs107.out)
            replace HM108 : Hid (Mv w w107 rb a cp l (i + 1) false) := HM108
            obtain ⟨i107, hi107⟩ : ∃ z, i + 1 = z := ⟨_, rfl⟩
            rw [hi107] at HM108
            have HI107 := Lib.hid hi107
            have hw9 : wtI false true i = i107 := hi107
            have hb9 : wtB false true = false := rfl
            rw [hw9, hb9] at HP107
            clear hw9 hb9
            clear HO106out HN105 HM106 hz107 hgo107 HP hi107
            cases hv3 : isS l (i107 + 0) [63] with
            | true =>
              have HV3 := Lib.hid hv3
              replace HP107 := Lib.hid (HP107.out.eq (m' := fun acc => (P l f 1 (i107 + 1)).bind fun e q => suP l (P l f) k acc s107 [e] q) fun _ acc _ => if_pos hv3)
              clear hv3
              have c2 : w107.cell? ⟨rb, 2, none⟩ = some (.bool false) := HM108.out.rd.sr.c2
              go_wp2_with (go_at_call 80; refine (lk_is (v := ?_) (k := ?_) HM108 ?_ ?_ ?_).mono ?_; rotate_left 2; exact HV3; exact rfl; decide; rintro e w301 ⟨rfl, hgo301⟩; refine Hid.out ?_)
              refine Lib.hid ?_
              have HM302 := Lib.hid hgo301.1
              have HO302out := Lib.hid (HO108out.out.step hgo301.2 HRB.out)
              have HO302sub := Lib.hid (HO108sub.out.step hgo301.2 HRB.out)
              clear c2 HO108out HO108sub HM108 hgo301
              have hc1_303 := HM302.out.rd.sr.c1
              have hf1_303 := HM302.out.rd.sr.f 1
              have hwr_303 := HM302.out.wr (isS_lt (i := i107) HV3.out)
              have hgo303 := HM302.out.inc (isS_lt (i := i107) HV3.out)
              obtain ⟨w303, hw303⟩ : ∃ W, W = w301.setCell ⟨rb, 1, none⟩ (.int .i64 (((i107 : Nat) : Int) + 1)) := ⟨_, rfl⟩
              rw [← hw303] at hgo303
              have HW303 := Lib.hid hw303
              obtain ⟨i303, hi303⟩ : ∃ z, i107 + 1 = z := ⟨_, rfl⟩
              rw [hi303] at hgo303
              have HI303 := Lib.hid hi303
              have HM304 := Lib.hid hgo303.1
              have HO304out := Lib.hid (HO302out.out.step hgo303.2 HRB.out)
              have HO304sub := Lib.hid (HO302sub.out.step hgo303.2 HRB.out)
              clear HO302out HO302sub HM302 hgo303 hw303 hi303
              replace HP107 := Lib.hid (by have h1 := HP107.out.pos (i107 + 1); have h2 : i107 + 1 = i303 := HI303.out; rw [h2] at h1; exact h1)
              have HRD305 := Lib.hid (HE.out w303 rb cp i303 a l false HM304.out.rd (fun hb => HFC.out.le (by have h1 := HKI.out; have h2 := HI107.out; have h3 := HI303.out; omega)))
              go_wp2_with (go_at_call 57; rw [← HW303.out]; refine (st_read HM304 HRD305.out).mono ?_; rintro e w305 ⟨i305, b305, L305, ⟨g305, c305, rfl, ho305, hgo305⟩, hk305, hr305⟩; refine Hid.out ?_)
              refine Lib.hid ?_
              have HM306 := Lib.hid hgo305.1
              have HO306out := Lib.hid (HO304out.out.step hgo305.2 HRB.out)
              have HO306sub := Lib.hid (HO304sub.out.step hgo305.2 HRB.out)
              have HO305 := Lib.hid ho305
              have HP305 := Lib.hid (HP107.out.read hr305.out)
              clear hc1_303 hf1_303 hwr_303 HO304out HO304sub HM304 ho305 hgo305 HRD305 HP107
              have HGE : Hid (b305 = false → i + 1 ≤ i305) := fun hb => by have h0 := Rel.ge (b := false) (HLT.out 1 i303) hr305.out hb; have h3 := HI303.out; have h4 := HI107.out; omega
              go_wp2_with (go_at_call 82; refine (st_make HM306 15 0 HO305 hk305 (by omega)).mono ?_; rintro e w307 ⟨L307, ⟨g307, c307, rfl, ho307, hgo307⟩, HL307⟩; refine Hid.out ?_)
              refine Lib.hid ?_
              have HM308 := Lib.hid hgo307.1
              have HO308out := Lib.hid (HO306out.out.step hgo307.2 HRB.out)
              have HO308sub := Lib.hid (HO306sub.out.step hgo307.2 HRB.out)
              have HO308e := Lib.hid (HO305.out.step hgo307.2 HRB.out)
              have HO307 := Lib.hid ho307
              have HK307 : Hid (Okn 3001 L307) := by rw [HL307.out]; exact hk305.out.mk 15 0 HZ107.out
              clear HO306out HO306sub HO305 HM306 ho307 hgo307
              have HSL : Hid (L.length + L307.length ≤ 200000000) := by have h1 := HK.out.1; have h2 := HIL.out; have h3 := HCL.out; have h4 := HK307.out.1; show _ ≤ _; omega
              obtain ⟨g310, c310, w310, L310, hr310, ho310, hm310, HL310⟩ := st_app HM308 HO308out.out HO307.out (HSL.out) HRB.out HNE.out 28
              have HO310 := Lib.hid ho310
              have HM310 := Lib.hid hm310
              have HR310 := Lib.hid hr310
              clear ho310 hm310 hr310
              go_wp2_with (at_builtin; refine wpList_plain rfl fun K hK => ?_; refine wp_appE _ _ rfl rfl rfl HR310.out ?_; refine hK _ _ ?_; refine Hid.out ?_)
              refine Lib.hid ?_
              clear HR310 HM308 HO308out
              have HOK : Hid (Okn (3001 * (i + 1)) L310) := by rw [HL310.out]; exact (HK.out.app HK307.out).up (by omega)
              have HPS : Hid (Pg M i305 b305 (fun acc : List Tr => Xx L310 (flL acc)) (fun acc => if isS l i305 sShut = true then tlP l (P l f) acc 0 i305 else wt l sComma i305 fun r => if isS l r sShut = true then .bad r else (takeL l (P l f) k r).bind fun x u => tlP l (P l f) (acc ++ x.1) x.2 u)) := HP305.out.via (fun x => x.1 ++ [.mk 15 s107 0 [x.2]]) (fun _ x hx => ⟨by rw [HL310.out, HL307.out, flL_app, flL_one]; exact hx.1.app (Xx.mk1 hx.2.l1 15 _ 0), by show suP _ _ _ _ _ _ _ = _; unfold suP; simp only [List.append_assoc, List.cons_append, List.nil_append]⟩)
              cases hv5 : isS l (i305 + 0) [125] with
              | true =>
                have HV5 := Lib.hid hv5
                replace HPS : Hid (Pg M i305 b305 (fun acc : List Tr => Xx L310 (flL acc)) (fun acc => tlP l (P l f) acc 0 i305)) := Lib.hid (HPS.out.eq fun _ acc _ => if_pos hv5)
                clear hv5
                go_wp2_with (go_at_call 80; refine (lk_is (v := ?_) (k := ?_) HM310 ?_ ?_ ?_).mono ?_; rotate_left 2; exact HV5; exact rfl; decide; rintro e w411 ⟨rfl, hgo411⟩; refine Hid.out ?_)
                refine Lib.hid ?_
                have HM412 := Lib.hid hgo411.1
                have HO412out := Lib.hid (HO310.out.step hgo411.2 HRB.out)
                clear HO308sub HO308e HO307 HP305 HO310 HM310 hgo411
                have HKA : Hid (Okn 90000000 L310) := HOK.out.up (by have h1 := HCL.out; have h2 := HIL.out; omega)
                have HTL : Hid (b305 = false → i0 ≤ i305) := fun hb => by have h1 := HGE.out (by first | exact hb | trivial); have h2 := HKI.out.2; omega
                replace HPS := Lib.hid (show Pg M i305 b305 _ (fun acc => wt l sShut i305 fun q => wt l sColon q fun r => (P l f 1 r).bind fun e u => .ok (.mk 14 noT 0 (acc ++ [e])) u) from HPS.out)
                obtain ⟨v413, hv413⟩ : ∃ v, isS l (i305) [125] = v := ⟨_, rfl⟩
                have HV413 := Lib.hid hv413
                clear hv413
                go_wp2_with (go_at_call 89; refine (st_want (v := ?_) HM412 ?_).mono ?_; rotate_left 1; exact HV413; rintro e w413 ⟨rfl, hgo413⟩; refine Hid.out ?_)
                refine Lib.hid ?_
                have HM414 := Lib.hid hgo413.1
                have HO414out := Lib.hid (HO412out.out.step hgo413.2 HRB.out)
                have HP413 := Lib.hid (HPS.out.want HV413.out)
                obtain ⟨i413, hi413⟩ : ∃ z, wtI b305 v413 i305 = z := ⟨_, rfl⟩
                obtain ⟨b413, hb413⟩ : ∃ z, wtB b305 v413 = z := ⟨_, rfl⟩
                rw [hi413, hb413] at HM414
                rw [hi413, hb413] at HP413
                have HI413 := Lib.hid hi413
                have HB413 := Lib.hid hb413
                clear HO412out HM412 HPS hi413 hb413 hgo413
                obtain ⟨v415, hv415⟩ : ∃ v, isS l (i413) [58] = v := ⟨_, rfl⟩
                have HV415 := Lib.hid hv415
                clear hv415
                go_wp2_with (go_at_call 89; refine (st_want (v := ?_) HM414 ?_).mono ?_; rotate_left 1; exact HV415; rintro e w415 ⟨rfl, hgo415⟩; refine Hid.out ?_)
                refine Lib.hid ?_
                have HM416 := Lib.hid hgo415.1
                have HO416out := Lib.hid (HO414out.out.step hgo415.2 HRB.out)
                have HP415 := Lib.hid (HP413.out.want HV415.out)
                obtain ⟨i415, hi415⟩ : ∃ z, wtI b413 v415 i413 = z := ⟨_, rfl⟩
                obtain ⟨b415, hb415⟩ : ∃ z, wtB b413 v415 = z := ⟨_, rfl⟩
                rw [hi415, hb415] at HM416
                rw [hi415, hb415] at HP415
                have HI415 := Lib.hid hi415
                have HB415 := Lib.hid hb415
                clear HO414out HM414 HP413 hi415 hb415 hgo415
                have HRD417 := Lib.hid (HE.out w415 rb cp i415 a l b415 HM416.out.rd (fun hb => HFC.out.le (by have h1 := HB415.out; rw [hb] at h1; have h2 := wtB_false (i := i413) h1; have h3 := HB413.out; rw [h2.1] at h3; have h4 := wtB_false (i := i305) h3; have h5 := HTL.out (by first | exact h4.1 | trivial); have h6 := HI413.out; have h7 := HI415.out; have h8 := (wtI_le (b := b305) (v := v413) (i := i305)).1; have h9 := (wtI_le (b := b413) (v := v415) (i := i413)).1; omega)))
                go_wp2_with (go_at_call 57; refine (st_read HM416 HRD417.out).mono ?_; rintro e w417 ⟨i417, b417, L417, ⟨g417, c417, rfl, ho417, hgo417⟩, hk417, hr417⟩; refine Hid.out ?_)
                refine Lib.hid ?_
                have HM418 := Lib.hid hgo417.1
                have HO418out := Lib.hid (HO416out.out.step hgo417.2 HRB.out)
                have HO417 := Lib.hid ho417
                have HP417 := Lib.hid (HP415.out.read hr417.out)
                clear HO416out HM416 ho417 hgo417 HRD417 HP415
                go_wp2_with (go_at_call 88; refine (st_both HM418 HO418out HO417 HKA (by omega) hk417 (by omega)).mono ?_; rintro e w419 ⟨L419, ⟨g419, c419, rfl, ho419, hgo419⟩, HL419⟩; refine Hid.out ?_)
                refine Lib.hid ?_
                have HM420 := Lib.hid hgo419.1
                have HO420out := Lib.hid (HO418out.out.step hgo419.2 HRB.out)
                have HO420te := Lib.hid (HO417.out.step hgo419.2 HRB.out)
                have HO419 := Lib.hid ho419
                have HK419 : Hid (Okn 3001 L419) := by rw [HL419.out]; exact HKA.out.bo hk417.out
                clear HO418out HO417 HM418 ho419 hgo419
                go_wp2_with (go_at_call 82; refine (st_make HM420 14 0 HO419 HK419 (by omega)).mono ?_; rintro e w421 ⟨L421, ⟨g421, c421, rfl, ho421, hgo421⟩, HL421⟩; refine Hid.out ?_)
                refine Lib.hid ?_
                have HM422 := Lib.hid hgo421.1
                have HO422out := Lib.hid (HO420out.out.step hgo421.2 HRB.out)
                have HO422te := Lib.hid (HO420te.out.step hgo421.2 HRB.out)
                have HO422tb := Lib.hid (HO419.out.step hgo421.2 HRB.out)
                have HO421 := Lib.hid ho421
                have HK421 : Hid (Okn 3001 L421) := by rw [HL421.out]; exact HK419.out.mk 14 0 (by decide)
                clear HO420out HO420te HO419 HM420 ho421 hgo421
                have HF := Lib.hid (SRes.of HM422 HO421 HK421 (by decide) (Pg.fin HP417.out (T := fun x : List Tr × Tr => .mk 14 noT 0 (x.1 ++ [x.2])) (fun _ x hx => by rw [HL421.out, HL419.out]; exact Xx.mk1 (Xx.bo hx.1 hx.2.l1) 14 _ _)))
                go_wp2_with fail
                go_ret
                exact HF.out
              | false =>
                have HV5 := Lib.hid hv5
                replace HPS : Hid (Pg M i305 b305 (fun acc : List Tr => Xx L310 (flL acc)) (fun acc => wt l sComma i305 fun r => if isS l r sShut = true then .bad r else (takeL l (P l f) k r).bind fun x u => tlP l (P l f) (acc ++ x.1) x.2 u)) := Lib.hid (HPS.out.eq fun _ acc _ => if_neg (by rw [show isS l i305 sShut = false from hv5]; decide))
                clear hv5
                go_wp2_with (go_at_call 80; refine (lk_is (v := ?_) (k := ?_) HM310 ?_ ?_ ?_).mono ?_; rotate_left 2; exact HV5; exact rfl; decide; rintro e w511 ⟨rfl, hgo511⟩; refine Hid.out ?_)
                refine Lib.hid ?_
                have HM512 := Lib.hid hgo511.1
                have HO512out := Lib.hid (HO310.out.step hgo511.2 HRB.out)
                clear HO308sub HO308e HO307 HP305 HO310 HM310 hgo511
                obtain ⟨v513, hv513⟩ : ∃ v, isS l (i305) [44] = v := ⟨_, rfl⟩
                have HV513 := Lib.hid hv513
                clear hv513
                go_wp2_with (go_at_call 89; refine (st_want (v := ?_) HM512 ?_).mono ?_; rotate_left 1; exact HV513; rintro e w513 ⟨rfl, hgo513⟩; refine Hid.out ?_)
                refine Lib.hid ?_
                have HM514 := Lib.hid hgo513.1
                have HO514out := Lib.hid (HO512out.out.step hgo513.2 HRB.out)
                have HP513 := Lib.hid (HPS.out.want HV513.out)
                obtain ⟨i513, hi513⟩ : ∃ z, wtI b305 v513 i305 = z := ⟨_, rfl⟩
                obtain ⟨b513, hb513⟩ : ∃ z, wtB b305 v513 = z := ⟨_, rfl⟩
                rw [hi513, hb513] at HM514
                rw [hi513, hb513] at HP513
                have HI513 := Lib.hid hi513
                have HB513 := Lib.hid hb513
                clear HO512out HM512 HPS hi513 hb513 hgo513
                have HGE2 : Hid (b513 = false → i + 1 ≤ i513) := fun hb => by have h1 := HB513.out; rw [hb] at h1; have h2 := wtB_false (i := i305) h1; have h3 := HGE.out (by first | exact h2.1 | trivial); have h4 := HI513.out; have h5 := h2.2.2; omega
                cases hv6 : isS l (i513 + 0) [125] with
                | true =>
                  have HV6 := Lib.hid hv6
                  have HBD : Hid (M = .bad i513) := by
                    show _ = _
                    by_cases hb : b513 = true
                    · exact HP513.out.yes hb
                    · obtain ⟨x, _, hx⟩ := HP513.out.no (by simpa using hb)
                      rw [hx]
                      exact if_pos hv6
                  clear hv6
                  go_wp2_with (go_at_call 80; refine (lk_is (v := ?_) (k := ?_) HM514 ?_ ?_ ?_).mono ?_; rotate_left 2; exact HV6; exact rfl; decide; rintro e w615 ⟨rfl, hgo615⟩; refine Hid.out ?_)
                  refine Lib.hid ?_
                  have HM616 := Lib.hid hgo615.1
                  have HO616out := Lib.hid (HO514out.out.step hgo615.2 HRB.out)
                  clear HO514out HM514 hgo615
                  have hc2 := HM616.out.rd.sr.c2
                  have hf2 := HM616.out.rd.sr.f 2
                  have hgo617 := HM616.out.sbad
                  obtain ⟨w617, hw617⟩ : ∃ W, W = w615.setCell ⟨rb, 2, none⟩ (.bool true) := ⟨_, rfl⟩
                  rw [← hw617] at hgo617
                  have HW617 := Lib.hid hw617
                  have HM618 := Lib.hid hgo617.1
                  have HO618out := Lib.hid (HO616out.out.step hgo617.2 HRB.out)
                  clear hw617 hgo617
                  have HLB : Hid (LP w w617 rb cp a l M f i0 (.slice (some ⟨g310, 0, none⟩) L310.length c310) (.int .i64 0) 0) := ⟨g310, c310, L310, i513, true, k, rfl, rfl, HO618out.out, HM618.out, HOK.out.up (by show _ ≤ 3001 * (l.length + 1); have h1 := HIL.out; omega), ⟨fun _ => HBD.out, fun e => by cases e⟩, (fun e => by cases e), Nat.le_refl _⟩
                  go_wp2_with fail
                  rw [← HW617.out]
                  go_roundg 0
                  case measure => have h1 := HQ.out; have h2 := HIL.out; omega
                  case rel => exact HLB.out
                | false =>
                  have HV6 := Lib.hid hv6
                  clear hv6
                  go_wp2_with (go_at_call 80; refine (lk_is (v := ?_) (k := ?_) HM514 ?_ ?_ ?_).mono ?_; rotate_left 2; exact HV6; exact rfl; decide; rintro e w715 ⟨rfl, hgo715⟩; refine Hid.out ?_)
                  refine Lib.hid ?_
                  have HM716 := Lib.hid hgo715.1
                  have HO716out := Lib.hid (HO514out.out.step hgo715.2 HRB.out)
                  clear HO514out HM514 hgo715
                  have HLB : Hid (LP w w715 rb cp a l M f i0 (.slice (some ⟨g310, 0, none⟩) L310.length c310) (.int .i64 0) (if b513 = true then 0 else l.length + 1 - i513)) := ⟨g310, c310, L310, i513, b513, k, rfl, rfl, HO716out.out, HM716.out, okn_b (fun hb => HOK.out.up (by have h1 := HGE2.out hb; omega)) (HOK.out.up (by have h1 := isW_lt HV2.out; omega)), HP513.out.eq (fun _ acc _ => if_neg (by rw [show isS l i513 sShut = false from HV6.out]; decide)), (fun hb => by have h1 := HGE2.out hb; have h2 := HKI.out; omega), Nat.le_refl _⟩
                  go_wp2_with fail
                  go_roundg (if b513 = true then 0 else l.length + 1 - i513)
                  case measure =>
                    have h4 := HQ.out
                    have h6 := isW_lt HV2.out
                    by_cases hb : b513 = true
                    · rw [if_pos hb]; omega
                    · rw [if_neg hb]
                      have h1 := HGE2.out (by simpa using hb)
                      omega
                  case rel => exact HLB.out
            | false =>
              have HV3 := Lib.hid hv3
              replace HP107 := Lib.hid (HP107.out.eq (m' := fun acc => suP l (P l f) k acc s107 [] i107) fun _ acc _ => if_neg (by rw [show isS l i107 sAsk = false from hv3]; decide))
              clear hv3
              have c2 : w107.cell? ⟨rb, 2, none⟩ = some (.bool false) := HM108.out.rd.sr.c2
              go_wp2_with (go_at_call 80; refine (lk_is (v := ?_) (k := ?_) HM108 ?_ ?_ ?_).mono ?_; rotate_left 2; exact HV3; exact rfl; decide; rintro e w301 ⟨rfl, hgo301⟩; refine Hid.out ?_)
              refine Lib.hid ?_
              have HM302 := Lib.hid hgo301.1
              have HO302out := Lib.hid (HO108out.out.step hgo301.2 HRB.out)
              have HO302sub := Lib.hid (HO108sub.out.step hgo301.2 HRB.out)
              clear c2 HO108out HO108sub HM108 hgo301
              have HGE : Hid (false = false → i + 1 ≤ i107) := fun hb => by have h4 := HI107.out; omega
              go_wp2_with (go_at_call 82; refine (st_make HM302 15 0 HO302sub (Lib.hid Okn.nil) (by omega)).mono ?_; rintro e w303 ⟨L303, ⟨g303, c303, rfl, ho303, hgo303⟩, HL303⟩; refine Hid.out ?_)
              refine Lib.hid ?_
              have HM304 := Lib.hid hgo303.1
              have HO304out := Lib.hid (HO302out.out.step hgo303.2 HRB.out)
              have HO304sub := Lib.hid (HO302sub.out.step hgo303.2 HRB.out)
              have HO303 := Lib.hid ho303
              have HK303 : Hid (Okn 3001 L303) := by rw [HL303.out]; exact (Lib.hid Okn.nil).out.mk 15 0 HZ107.out
              clear HO302out HO302sub HM302 ho303 hgo303
              have HSL : Hid (L.length + L303.length ≤ 200000000) := by have h1 := HK.out.1; have h2 := HIL.out; have h3 := HCL.out; have h4 := HK303.out.1; show _ ≤ _; omega
              obtain ⟨g306, c306, w306, L306, hr306, ho306, hm306, HL306⟩ := st_app HM304 HO304out.out HO303.out (HSL.out) HRB.out HNE.out 28
              have HO306 := Lib.hid ho306
              have HM306 := Lib.hid hm306
              have HR306 := Lib.hid hr306
              clear ho306 hm306 hr306
              go_wp2_with (at_builtin; refine wpList_plain rfl fun K hK => ?_; refine wp_appE _ _ rfl rfl rfl HR306.out ?_; refine hK _ _ ?_; refine Hid.out ?_)
              refine Lib.hid ?_
              clear HR306 HM304 HO304out
              have HOK : Hid (Okn (3001 * (i + 1)) L306) := by rw [HL306.out]; exact (HK.out.app HK303.out).up (by omega)
              have HPS : Hid (Pg M i107 false (fun acc : List Tr => Xx L306 (flL acc)) (fun acc => if isS l i107 sShut = true then tlP l (P l f) acc 0 i107 else wt l sComma i107 fun r => if isS l r sShut = true then .bad r else (takeL l (P l f) k r).bind fun x u => tlP l (P l f) (acc ++ x.1) x.2 u)) := HP107.out.via (fun x => x ++ [.mk 15 s107 0 []]) (fun _ x hx => ⟨by rw [HL306.out, HL303.out, flL_app, flL_one]; exact hx.app (Xx.mk1 (ps := []) (Xx.refl _) 15 _ 0), by show suP _ _ _ _ _ _ _ = _; unfold suP; simp only [List.append_assoc, List.cons_append, List.nil_append]⟩)
              cases hv5 : isS l (i107 + 0) [125] with
              | true =>
                have HV5 := Lib.hid hv5
                replace HPS : Hid (Pg M i107 false (fun acc : List Tr => Xx L306 (flL acc)) (fun acc => tlP l (P l f) acc 0 i107)) := Lib.hid (HPS.out.eq fun _ acc _ => if_pos hv5)
                clear hv5
                go_wp2_with (go_at_call 80; refine (lk_is (v := ?_) (k := ?_) HM306 ?_ ?_ ?_).mono ?_; rotate_left 2; exact HV5; exact rfl; decide; rintro e w407 ⟨rfl, hgo407⟩; refine Hid.out ?_)
                refine Lib.hid ?_
                have HM408 := Lib.hid hgo407.1
                have HO408out := Lib.hid (HO306.out.step hgo407.2 HRB.out)
                clear HO304sub HO303 HP107 HO306 HM306 hgo407
                have HKA : Hid (Okn 90000000 L306) := HOK.out.up (by have h1 := HCL.out; have h2 := HIL.out; omega)
                have HTL : Hid (false = false → i0 ≤ i107) := fun hb => by have h1 := HGE.out (by first | exact hb | trivial); have h2 := HKI.out.2; omega
                replace HPS := Lib.hid (show Pg M i107 false _ (fun acc => wt l sShut i107 fun q => wt l sColon q fun r => (P l f 1 r).bind fun e u => .ok (.mk 14 noT 0 (acc ++ [e])) u) from HPS.out)
                obtain ⟨v409, hv409⟩ : ∃ v, isS l (i107) [125] = v := ⟨_, rfl⟩
                have HV409 := Lib.hid hv409
                clear hv409
                go_wp2_with (go_at_call 89; refine (st_want (v := ?_) HM408 ?_).mono ?_; rotate_left 1; exact HV409; rintro e w409 ⟨rfl, hgo409⟩; refine Hid.out ?_)
                refine Lib.hid ?_
                have HM410 := Lib.hid hgo409.1
                have HO410out := Lib.hid (HO408out.out.step hgo409.2 HRB.out)
                have HP409 := Lib.hid (HPS.out.want HV409.out)
                obtain ⟨i409, hi409⟩ : ∃ z, wtI false v409 i107 = z := ⟨_, rfl⟩
                obtain ⟨b409, hb409⟩ : ∃ z, wtB false v409 = z := ⟨_, rfl⟩
                rw [hi409, hb409] at HM410
                rw [hi409, hb409] at HP409
                have HI409 := Lib.hid hi409
                have HB409 := Lib.hid hb409
                clear HO408out HM408 HPS hi409 hb409 hgo409
                obtain ⟨v411, hv411⟩ : ∃ v, isS l (i409) [58] = v := ⟨_, rfl⟩
                have HV411 := Lib.hid hv411
                clear hv411
                go_wp2_with (go_at_call 89; refine (st_want (v := ?_) HM410 ?_).mono ?_; rotate_left 1; exact HV411; rintro e w411 ⟨rfl, hgo411⟩; refine Hid.out ?_)
                refine Lib.hid ?_
                have HM412 := Lib.hid hgo411.1
                have HO412out := Lib.hid (HO410out.out.step hgo411.2 HRB.out)
                have HP411 := Lib.hid (HP409.out.want HV411.out)
                obtain ⟨i411, hi411⟩ : ∃ z, wtI b409 v411 i409 = z := ⟨_, rfl⟩
                obtain ⟨b411, hb411⟩ : ∃ z, wtB b409 v411 = z := ⟨_, rfl⟩
                rw [hi411, hb411] at HM412
                rw [hi411, hb411] at HP411
                have HI411 := Lib.hid hi411
                have HB411 := Lib.hid hb411
                clear HO410out HM410 HP409 hi411 hb411 hgo411
                have HRD413 := Lib.hid (HE.out w411 rb cp i411 a l b411 HM412.out.rd (fun hb => HFC.out.le (by have h1 := HB411.out; rw [hb] at h1; have h2 := wtB_false (i := i409) h1; have h3 := HB409.out; rw [h2.1] at h3; have h4 := wtB_false (i := i107) h3; have h5 := HTL.out (by first | exact h4.1 | trivial); have h6 := HI409.out; have h7 := HI411.out; have h8 := (wtI_le (b := false) (v := v409) (i := i107)).1; have h9 := (wtI_le (b := b409) (v := v411) (i := i409)).1; omega)))
                go_wp2_with (go_at_call 57; refine (st_read HM412 HRD413.out).mono ?_; rintro e w413 ⟨i413, b413, L413, ⟨g413, c413, rfl, ho413, hgo413⟩, hk413, hr413⟩; refine Hid.out ?_)
                refine Lib.hid ?_
                have HM414 := Lib.hid hgo413.1
                have HO414out := Lib.hid (HO412out.out.step hgo413.2 HRB.out)
                have HO413 := Lib.hid ho413
                have HP413 := Lib.hid (HP411.out.read hr413.out)
                clear HO412out HM412 ho413 hgo413 HRD413 HP411
                go_wp2_with (go_at_call 88; refine (st_both HM414 HO414out HO413 HKA (by omega) hk413 (by omega)).mono ?_; rintro e w415 ⟨L415, ⟨g415, c415, rfl, ho415, hgo415⟩, HL415⟩; refine Hid.out ?_)
                refine Lib.hid ?_
                have HM416 := Lib.hid hgo415.1
                have HO416out := Lib.hid (HO414out.out.step hgo415.2 HRB.out)
                have HO416te := Lib.hid (HO413.out.step hgo415.2 HRB.out)
                have HO415 := Lib.hid ho415
                have HK415 : Hid (Okn 3001 L415) := by rw [HL415.out]; exact HKA.out.bo hk413.out
                clear HO414out HO413 HM414 ho415 hgo415
                go_wp2_with (go_at_call 82; refine (st_make HM416 14 0 HO415 HK415 (by omega)).mono ?_; rintro e w417 ⟨L417, ⟨g417, c417, rfl, ho417, hgo417⟩, HL417⟩; refine Hid.out ?_)
                refine Lib.hid ?_
                have HM418 := Lib.hid hgo417.1
                have HO418out := Lib.hid (HO416out.out.step hgo417.2 HRB.out)
                have HO418te := Lib.hid (HO416te.out.step hgo417.2 HRB.out)
                have HO418tb := Lib.hid (HO415.out.step hgo417.2 HRB.out)
                have HO417 := Lib.hid ho417
                have HK417 : Hid (Okn 3001 L417) := by rw [HL417.out]; exact HK415.out.mk 14 0 (by decide)
                clear HO416out HO416te HO415 HM416 ho417 hgo417
                have HF := Lib.hid (SRes.of HM418 HO417 HK417 (by decide) (Pg.fin HP413.out (T := fun x : List Tr × Tr => .mk 14 noT 0 (x.1 ++ [x.2])) (fun _ x hx => by rw [HL417.out, HL415.out]; exact Xx.mk1 (Xx.bo hx.1 hx.2.l1) 14 _ _)))
                go_wp2_with fail
                go_ret
                exact HF.out
              | false =>
                have HV5 := Lib.hid hv5
                replace HPS : Hid (Pg M i107 false (fun acc : List Tr => Xx L306 (flL acc)) (fun acc => wt l sComma i107 fun r => if isS l r sShut = true then .bad r else (takeL l (P l f) k r).bind fun x u => tlP l (P l f) (acc ++ x.1) x.2 u)) := Lib.hid (HPS.out.eq fun _ acc _ => if_neg (by rw [show isS l i107 sShut = false from hv5]; decide))
                clear hv5
                go_wp2_with (go_at_call 80; refine (lk_is (v := ?_) (k := ?_) HM306 ?_ ?_ ?_).mono ?_; rotate_left 2; exact HV5; exact rfl; decide; rintro e w507 ⟨rfl, hgo507⟩; refine Hid.out ?_)
                refine Lib.hid ?_
                have HM508 := Lib.hid hgo507.1
                have HO508out := Lib.hid (HO306.out.step hgo507.2 HRB.out)
                clear HO304sub HO303 HP107 HO306 HM306 hgo507
                obtain ⟨v509, hv509⟩ : ∃ v, isS l (i107) [44] = v := ⟨_, rfl⟩
                have HV509 := Lib.hid hv509
                clear hv509
                go_wp2_with (go_at_call 89; refine (st_want (v := ?_) HM508 ?_).mono ?_; rotate_left 1; exact HV509; rintro e w509 ⟨rfl, hgo509⟩; refine Hid.out ?_)
                refine Lib.hid ?_
                have HM510 := Lib.hid hgo509.1
                have HO510out := Lib.hid (HO508out.out.step hgo509.2 HRB.out)
                have HP509 := Lib.hid (HPS.out.want HV509.out)
                obtain ⟨i509, hi509⟩ : ∃ z, wtI false v509 i107 = z := ⟨_, rfl⟩
                obtain ⟨b509, hb509⟩ : ∃ z, wtB false v509 = z := ⟨_, rfl⟩
                rw [hi509, hb509] at HM510
                rw [hi509, hb509] at HP509
                have HI509 := Lib.hid hi509
                have HB509 := Lib.hid hb509
                clear HO508out HM508 HPS hi509 hb509 hgo509
                have HGE2 : Hid (b509 = false → i + 1 ≤ i509) := fun hb => by have h1 := HB509.out; rw [hb] at h1; have h2 := wtB_false (i := i107) h1; have h3 := HGE.out (by first | exact h2.1 | trivial); have h4 := HI509.out; have h5 := h2.2.2; omega
                cases hv6 : isS l (i509 + 0) [125] with
                | true =>
                  have HV6 := Lib.hid hv6
                  have HBD : Hid (M = .bad i509) := by
                    show _ = _
                    by_cases hb : b509 = true
                    · exact HP509.out.yes hb
                    · obtain ⟨x, _, hx⟩ := HP509.out.no (by simpa using hb)
                      rw [hx]
                      exact if_pos hv6
                  clear hv6
                  go_wp2_with (go_at_call 80; refine (lk_is (v := ?_) (k := ?_) HM510 ?_ ?_ ?_).mono ?_; rotate_left 2; exact HV6; exact rfl; decide; rintro e w611 ⟨rfl, hgo611⟩; refine Hid.out ?_)
                  refine Lib.hid ?_
                  have HM612 := Lib.hid hgo611.1
                  have HO612out := Lib.hid (HO510out.out.step hgo611.2 HRB.out)
                  clear HO510out HM510 hgo611
                  have hc2 := HM612.out.rd.sr.c2
                  have hf2 := HM612.out.rd.sr.f 2
                  have hgo613 := HM612.out.sbad
                  obtain ⟨w613, hw613⟩ : ∃ W, W = w611.setCell ⟨rb, 2, none⟩ (.bool true) := ⟨_, rfl⟩
                  rw [← hw613] at hgo613
                  have HW613 := Lib.hid hw613
                  have HM614 := Lib.hid hgo613.1
                  have HO614out := Lib.hid (HO612out.out.step hgo613.2 HRB.out)
                  clear hw613 hgo613
                  have HLB : Hid (LP w w613 rb cp a l M f i0 (.slice (some ⟨g306, 0, none⟩) L306.length c306) (.int .i64 0) 0) := ⟨g306, c306, L306, i509, true, k, rfl, rfl, HO614out.out, HM614.out, HOK.out.up (by show _ ≤ 3001 * (l.length + 1); have h1 := HIL.out; omega), ⟨fun _ => HBD.out, fun e => by cases e⟩, (fun e => by cases e), Nat.le_refl _⟩
                  go_wp2_with fail
                  rw [← HW613.out]
                  go_roundg 0
                  case measure => have h1 := HQ.out; have h2 := HIL.out; omega
                  case rel => exact HLB.out
                | false =>
                  have HV6 := Lib.hid hv6
                  clear hv6
                  go_wp2_with (go_at_call 80; refine (lk_is (v := ?_) (k := ?_) HM510 ?_ ?_ ?_).mono ?_; rotate_left 2; exact HV6; exact rfl; decide; rintro e w711 ⟨rfl, hgo711⟩; refine Hid.out ?_)
                  refine Lib.hid ?_
                  have HM712 := Lib.hid hgo711.1
                  have HO712out := Lib.hid (HO510out.out.step hgo711.2 HRB.out)
                  clear HO510out HM510 hgo711
                  have HLB : Hid (LP w w711 rb cp a l M f i0 (.slice (some ⟨g306, 0, none⟩) L306.length c306) (.int .i64 0) (if b509 = true then 0 else l.length + 1 - i509)) := ⟨g306, c306, L306, i509, b509, k, rfl, rfl, HO712out.out, HM712.out, okn_b (fun hb => HOK.out.up (by have h1 := HGE2.out hb; omega)) (HOK.out.up (by have h1 := isW_lt HV2.out; omega)), HP509.out.eq (fun _ acc _ => if_neg (by rw [show isS l i509 sShut = false from HV6.out]; decide)), (fun hb => by have h1 := HGE2.out hb; have h2 := HKI.out; omega), Nat.le_refl _⟩
                  go_wp2_with fail
                  go_roundg (if b509 = true then 0 else l.length + 1 - i509)
                  case measure =>
                    have h4 := HQ.out
                    have h6 := isW_lt HV2.out
                    by_cases hb : b509 = true
                    · rw [if_pos hb]; omega
                    · rw [if_neg hb]
                      have h1 := HGE2.out (by simpa using hb)
                      omega
                  case rel => exact HLB.out
end Go.Proofs.YtifgaaemdojmpaaGreatDoor.pr
