import Derived.Test.YtifgaaemdojmpaaGreatDoorG16
namespace Go.Proofs.YtifgaaemdojmpaaGreatDoor.pr
open Go.ChangeShapes Go.WideShapes Go.ChangeAt Go.RowKit Go.Deep
open lx (Lx)
open ex (Tr Ex infoE)
set_option linter.unusedVariables false
set_option linter.unusedSimpArgs false

/-! ### The specification's reader: what stands to the right; expressions -/

theorem P_ex (l : Ls) (f i : Nat) : P l (f + 1) 1 i = exprP l (P l f) i := rfl
theorem P_cl (l : Ls) (f i : Nat) : P l (f + 1) 14 i = (P l f 15 i).bind fun e j => callL l (P l f) (l.length + 1) e j := rfl
theorem P_ge (l : Ls) (f i : Nat) : P l (f + 1) 15 i = (P l f 16 i).bind fun e j => getL l (P l f) (l.length + 1) e j := rfl
theorem P_at (l : Ls) (f i : Nat) : P l (f + 1) 16 i = atomP l (P l f) i := rfl
theorem P_lv (l : Ls) (f i : Nat) {lv : Nat} (h : 2 ≤ lv) (h2 : lv ≤ 13) : P l (f + 1) lv i = levelP l (P l f) lv i := by
  show (if lv = 1 then _ else if lv = 14 then _ else if lv = 15 then _ else if lv = 16 then _ else _) = _
  rw [if_neg (by omega), if_neg (by omega), if_neg (by omega), if_neg (by omega)]
/-- What is read takes something. -/
def Lt (l : Ls) (f : Nat) : Prop := ∀ lv i t j, P l f lv i = .ok t j → i < j

set_option maxRecDepth 100000 in
set_option maxHeartbeats 4000000 in
theorem right_any {f : Nat} (hE : CE f) (hV : CV f) {w : World} {rb cp i : Nat} {a : Option Addr} {l : Ls} (h : Rd w rb a cp l i false) (lv : Nat) (h2 : 2 ≤ lv) (h13 : lv ≤ 13) (hf : FC l i 1 f) :
    Calls Tryz.prog 107 #[.pointer (some ⟨rb, 0, none⟩), .int .i64 (lv : Int)] w fun e w' => SRes w w' rb a cp l (rightP l (P l f) lv i) e := by
  have HM0 := Lib.hid (Mv.refl h)
  have hrb := h.sr.lt
  have HRB := Lib.hid hrb
  have HE := Lib.hid hE
  have HV := Lib.hid hV
  have hfv : FC l i lv f := by unfold FC at hf ⊢; omega
  have HFC := Lib.hid hf
  have HFV := Lib.hid hfv
  clear h hrb hE hV hf hfv
  cases hv0 : looseB l i with
  | true =>
    have HV0 := Lib.hid hv0
    have HR : Hid (rightP l (P l f) lv i = P l f 1 i) := by show _ = _; unfold rightP; rw [if_pos hv0]
    rw [HR.out]
    clear hv0
    go_enter Tryz.func107, Tryz.ntmps107
    go_wp2_with (go_at_call 115; refine (lk_loose HM0 HV0).mono ?_; rintro e w1 ⟨rfl, hgo1⟩; refine Hid.out ?_)
    refine Lib.hid ?_
    have HM1 := Lib.hid hgo1.1
    have HRD := Lib.hid (HE.out w1 rb cp i a l false HM1.out.rd (fun _ => HFC.out))
    go_wp2_with (go_at_call 57; refine (st_read HM1 HRD.out).mono ?_; rintro e w2 ⟨i2, b2, L2, ⟨g2, c2, rfl, ho2, hgo2⟩, hk2, hr2⟩; refine Hid.out ?_)
    refine Lib.hid ?_
    have HF := Lib.hid (SRes.of (Lib.hid hgo2.1) (Lib.hid ho2) hk2 (by decide) hr2.out)
    go_wp2_with fail
    go_ret
    exact HF.out
  | false =>
    have HV0 := Lib.hid hv0
    have HR : Hid (rightP l (P l f) lv i = P l f lv i) := by show _ = _; unfold rightP; rw [if_neg (by rw [hv0]; decide)]
    rw [HR.out]
    clear hv0
    go_enter Tryz.func107, Tryz.ntmps107
    go_wp2_with (go_at_call 115; refine (lk_loose HM0 HV0).mono ?_; rintro e w1 ⟨rfl, hgo1⟩; refine Hid.out ?_)
    refine Lib.hid ?_
    have HM1 := Lib.hid hgo1.1
    have HRD := Lib.hid (HV.out w1 rb cp i lv a l HM1.out.rd h2 h13 HFV.out)
    go_wp2_with (go_at_call 90; refine (st_read HM1 HRD.out).mono ?_; rintro e w2 ⟨i2, b2, L2, ⟨g2, c2, rfl, ho2, hgo2⟩, hk2, hr2⟩; refine Hid.out ?_)
    refine Lib.hid ?_
    have HF := Lib.hid (SRes.of (Lib.hid hgo2.1) (Lib.hid ho2) hk2 (by decide) hr2.out)
    go_wp2_with fail
    go_ret
    exact HF.out


/-- The contracts of binds and of params, for l3Expr and l3Atom. -/
def SResL (w w' : World) (rb : Nat) (a : Option Addr) (cp : Nat) (l : Ls) (m : Rs (List Tr)) (e : Ending) : Prop := ∃ i b L, RRes w w w' rb a cp l i b L e ∧ Hid (Okn 90000000 L) ∧ Hid (RelL m i b L)
def CB (f : Nat) : Prop := ∀ (w : World) (rb cp i : Nat) (a : Option Addr) (l : Ls) (b : Bool), Rd w rb a cp l i b → FC l i 1 f → Calls Tryz.prog 86 #[.pointer (some ⟨rb, 0, none⟩)] w fun e w' => SResL w w' rb a cp l (if b = true then .bad i else bindsL l (P l f) (l.length + 1) i) e
def CT (f : Nat) : Prop := ∀ (w : World) (rb cp i : Nat) (a : Option Addr) (l : Ls), Rd w rb a cp l i false → i + 1 ≤ l.length → FC l (i + 1) 1 f → Calls Tryz.prog 84 #[.pointer (some ⟨rb, 0, none⟩)] w fun e w' => SRes w w' rb a cp l (takeP l (P l f) (i + 1)) e
section
variable {w W : World} {rb cp i : Nat} {a : Option Addr} {l : Ls} {b : Bool}
theorem st_readL {f : FuncId} {args : Array Value} (H : Hid (Mv w W rb a cp l i b)) {m : Rs (List Tr)} (h : Calls Tryz.prog f args W fun e w' => SResL W w' rb a cp l m e) :
    Calls Tryz.prog f args W fun e w' => ∃ i' b' L, RRes w W w' rb a cp l i' b' L e ∧ Hid (Okn 90000000 L) ∧ Hid (RelL m i' b' L) := by
  refine h.mono ?_
  rintro e w' ⟨i', b', L, ⟨g, c, h1, h2, h3, h4⟩, h5, h6⟩
  exact ⟨i', b', L, ⟨g, c, h1, h2.mono H.out.gr.size, H.out.trans h3, h4⟩, h5, h6⟩
theorem FC.on {l : Ls} {i j f : Nat} (h : FC l i 1 (f + 1)) (hj : i + 1 ≤ j) (hl : i + 1 ≤ l.length) : FC l j 1 f := by unfold FC at h ⊢; omega
theorem FC.le {l : Ls} {i j f : Nat} (h : FC l i 1 f) (hj : i ≤ j) : FC l j 1 f := by unfold FC at h ⊢; omega
end

set_option maxRecDepth 100000 in
set_option maxHeartbeats 4000000 in
theorem expr_bad {f : Nat} {w : World} {rb cp i : Nat} {a : Option Addr} {l : Ls} (h : Rd w rb a cp l i true) :
    Calls Tryz.prog 57 #[.pointer (some ⟨rb, 0, none⟩)] w fun e w' => SRes w w' rb a cp l (.bad i) e := by
  have c2 := h.sr.c2
  have HF : Hid (SRes w (w.alloc (.cells #[] 27)) rb a cp l (.bad i) (.returned (.slice (some ⟨w.heap.size, 0, none⟩) 0 0))) :=
    ⟨i, true, [], ⟨w.heap.size, 0, rfl, Ow.nil w, (Mv.refl h).below ((Below.refl _ _).alloc (Nat.le_refl _) _), grb ((Below.refl _ _).alloc (Nat.le_refl _) _)⟩, Okn.nil.up (by decide), ⟨rfl, rfl⟩⟩
  clear h
  go_enter Tryz.func57, Tryz.ntmps57
  go_wp2
  go_ret
  exact HF.out

theorem takes_open {l : Ls} {i : Nat} (h : takesB l i = true) : isS l i sOpen = true := by
  unfold takesB at h
  simp only [Bool.and_eq_true] at h
  exact h.1
theorem RelL.ge {m : Rs (List Tr)} {i0 : Nat} (hle : ∀ t j, m = .ok t j → i0 ≤ j) {b : Bool} {i' : Nat} {b' : Bool} {L : List Ex} (r : RelL (if b = true then .bad i0 else m) i' b' L) (h : b' = false) : i0 ≤ i' := by
  cases b with
  | true => rw [if_pos rfl] at r; obtain ⟨r1, _⟩ := r; rw [h] at r1; cases r1
  | false =>
    rw [if_neg (by decide)] at r
    cases m with
    | bad j => obtain ⟨r1, _⟩ := r; rw [h] at r1; cases r1
    | ok t j => obtain ⟨_, r2, _⟩ := r; rw [r2]; exact hle t j rfl
theorem inh_le {l : Ls} : ∀ k i, i ≤ (inhL l k i).2
  | 0, i => Nat.le_refl _
  | k + 1, i => by
    unfold inhL
    split
    · have := inh_le (l := l) k (i + 1); simp only; omega
    · exact Nat.le_refl _
theorem bind_inv {α β : Type} {m : Rs α} {K : α → Nat → Rs β} {t : β} {j : Nat} (h : m.bind K = .ok t j) : ∃ a i, m = .ok a i ∧ K a i = .ok t j := by
  cases m with
  | bad q => cases h
  | ok a q => exact ⟨a, q, rfl, h⟩
theorem wt_inv {α : Type} {l : Ls} {s : List UInt8} {i : Nat} {K : Nat → Rs α} {t : α} {j : Nat} (h : wt l s i K = .ok t j) : isS l i s = true ∧ K (i + 1) = .ok t j := by
  unfold wt at h
  split at h
  · rename_i h1; exact ⟨h1, h⟩
  · cases h
theorem wk_inv {α : Type} {l : Ls} {s : List UInt8} {i : Nat} {K : Nat → Rs α} {t : α} {j : Nat} (h : wk l s i K = .ok t j) : isK l i s = true ∧ K (i + 1) = .ok t j := by
  unfold wk at h
  split at h
  · rename_i h1; exact ⟨h1, h⟩
  · cases h
theorem ww_inv {α : Type} {l : Ls} {i : Nat} {K : ByteArray → Nat → Rs α} {t : α} {j : Nat} (h : ww l i K = .ok t j) : isW l i = true ∧ K (tx l i) (i + 1) = .ok t j := by
  unfold ww at h
  split at h
  · rename_i h1; exact ⟨h1, h⟩
  · cases h
theorem binds_le' {l : Ls} {f : Nat} (hlt : Lt l f) : ∀ k i ts j, bindsL l (P l f) k i = .ok ts j → i ≤ j
  | 0, i, ts, j, h => by cases h
  | k + 1, i, ts, j, h => by
    unfold bindsL at h
    split at h
    · have h0 := inh_le (l := l) (l.length + 1) (i + 1)
      obtain ⟨_, h⟩ := wt_inv h
      obtain ⟨a, q, h1, h2⟩ := bind_inv h
      have := binds_le' hlt k _ a q h1
      cases h2
      omega
    · split at h
      · obtain ⟨_, h⟩ := wt_inv h
        obtain ⟨e, q, h1, h⟩ := bind_inv h
        obtain ⟨_, h⟩ := wt_inv h
        obtain ⟨a, z, h2, h3⟩ := bind_inv h
        have := binds_le' hlt k _ a z h2
        have := hlt 1 _ e q h1
        cases h3
        omega
      · cases h
        exact Nat.le_refl _
theorem binds_le {l : Ls} {f i : Nat} (hlt : Lt l f) : ∀ ts j, bindsL l (P l f) (l.length + 1) i = .ok ts j → i ≤ j := fun ts j h => binds_le' hlt _ i ts j h


set_option maxRecDepth 100000 in
set_option maxHeartbeats 4000000 in
theorem ex_fun {l : Ls} {f : Nat} (hE : CE f) (hV : CV f) (hB : CB f) (hT : CT f) (hlt : Lt l f) {w : World} {rb cp i : Nat} {a : Option Addr} (h : Rd w rb a cp l i false) (hf : FC l i 1 (f + 1)) (HV0 : Hid (isW l (i + 0) = true)) (HV1 : Hid (isS l (i + 1) [58] = true)) :
    Calls Tryz.prog 57 #[.pointer (some ⟨rb, 0, none⟩)] w fun e w' => SRes w w' rb a cp l (P l (f + 1) 1 i) e := by
  have HE0 : Hid (P l (f + 1) 1 i = (P l f 1 (i + 2)).bind fun e q => .ok (.mk 13 (tx l i) 0 [e]) q) := by
    show _ = _
    rw [P_ex]
    unfold exprP
    rw [if_pos (by simp [(show isW l i = true from HV0.out), (show isS l (i + 1) [58] = true from HV1.out)])]
  obtain ⟨M, hM⟩ : ∃ M, P l (f + 1) 1 i = M := ⟨_, rfl⟩
  rw [hM] at HE0 ⊢
  clear hM
  have HP0 : Hid (Pg M i false (fun _ : Unit => True) (fun _ => (P l f 1 (i + 2)).bind fun e q => .ok (.mk 13 (tx l i) 0 [e]) q)) := ⟨(fun h => by cases h), fun _ => ⟨(), trivial, HE0.out⟩⟩
  have HM0 := Lib.hid (Mv.refl h)
  have hrb := h.sr.lt
  have HRB := Lib.hid hrb
  have HE := Lib.hid hE
  have HVV := Lib.hid hV
  have HBB := Lib.hid hB
  have HTT := Lib.hid hT
  have HLT := Lib.hid hlt
  have HFC := Lib.hid hf
  have c2 := h.sr.c2
  clear h hrb hE hV hB hT hlt hf HE0
  go_enter Tryz.func57, Tryz.ntmps57
  go_wp2_with (go_at_call 79; refine (lk_word (v := ?_) (k := ?_) HM0 ?_ ?_ ?_).mono ?_; rotate_left 2; exact HV0; exact rfl; decide; rintro e w1 ⟨rfl, hgo1⟩; refine Hid.out ?_)
  refine Lib.hid ?_
  have HM2 := Lib.hid hgo1.1
  clear hgo1
  clear c2
  go_wp2_with (go_at_call 80; refine (lk_is (v := ?_) (k := ?_) HM2 ?_ ?_ ?_).mono ?_; rotate_left 2; exact HV1; exact rfl; decide; rintro e w3 ⟨rfl, hgo3⟩; refine Hid.out ?_)
  refine Lib.hid ?_
  have HM4 := Lib.hid hgo3.1
  clear HM2 hgo3
  go_wp2_with (go_at_call 81; refine (st_word (v := true) HM4 HV0).mono ?_; rintro e w5 ⟨s5, ⟨rfl, hs5, hz5⟩, hgo5⟩; refine Hid.out ?_)
  refine Lib.hid ?_
  have HM6 := Lib.hid hgo5.1
  have HZ5 := Lib.hid hz5
  replace HM6 : Hid (Mv w w5 rb a cp l (i + 1) false) := HM6
  obtain ⟨i5, hi5⟩ : ∃ z, i + 1 = z := ⟨_, rfl⟩
  rw [hi5] at HM6
  have HI5 := Lib.hid hi5
  clear HM4 hz5 hgo5 hi5
  have HS5 : Hid (s5 = tx l i) := hs5
  have hc1_7 := HM6.out.rd.sr.c1
  have hf1_7 := HM6.out.rd.sr.f 1
  have hwr_7 := HM6.out.wr (by have h1 := isS_lt HV1.out; have h2 := HI5.out; omega)
  have hgo7 := HM6.out.inc (by have h1 := isS_lt HV1.out; have h2 := HI5.out; omega)
  obtain ⟨w7, hw7⟩ : ∃ W, W = w5.setCell ⟨rb, 1, none⟩ (.int .i64 (((i5 : Nat) : Int) + 1)) := ⟨_, rfl⟩
  rw [← hw7] at hgo7
  have HW7 := Lib.hid hw7
  obtain ⟨i7, hi7⟩ : ∃ z, i5 + 1 = z := ⟨_, rfl⟩
  rw [hi7] at hgo7
  have HI7 := Lib.hid hi7
  have HM8 := Lib.hid hgo7.1
  clear HM6 hgo7 hw7 hi7
  have HP9 : Hid (Pg M i7 false (fun _ : Unit => True) (fun _ => (P l f 1 i7).bind fun e q => .ok (.mk 13 (tx l i) 0 [e]) q)) := by
    have e9 : i + 2 = i7 := by have h9 := HI7.out; have h8 := HI5.out; omega
    rw [← e9]
    exact Lib.hid (HP0.out.pos _)
  have HRD10 := Lib.hid (HE.out w7 rb cp i7 a l false HM8.out.rd (fun hb => HFC.out.on (by have h1 := HI5.out; have h2 := HI7.out; omega) (isW_lt HV0.out)))
  go_wp2_with (go_at_call 57; rw [← HW7.out]; refine (st_read HM8 HRD10.out).mono ?_; rintro e w10 ⟨i10, b10, L10, ⟨g10, c10, rfl, ho10, hgo10⟩, hk10, hr10⟩; refine Hid.out ?_)
  refine Lib.hid ?_
  have HM11 := Lib.hid hgo10.1
  have HO10 := Lib.hid ho10
  have HP10 := Lib.hid (HP9.out.read hr10.out)
  clear hc1_7 hf1_7 hwr_7 HP0 HM8 ho10 hgo10 HRD10 HP9
  go_wp2_with (go_at_call 82; refine (st_make HM11 13 0 HO10 hk10 (by omega)).mono ?_; rintro e w12 ⟨L12, ⟨g12, c12, rfl, ho12, hgo12⟩, HL12⟩; refine Hid.out ?_)
  refine Lib.hid ?_
  have HM13 := Lib.hid hgo12.1
  have HO13e := Lib.hid (HO10.out.step hgo12.2 HRB.out)
  have HO12 := Lib.hid ho12
  have HK12 : Hid (Okn 3001 L12) := by rw [HL12.out]; exact hk10.out.mk 13 0 HZ5.out
  clear HO10 HM11 ho12 hgo12
  have HF := Lib.hid (SRes.of HM13 HO12 HK12 (by decide) (Pg.fin HP10.out (T := fun x : Unit × Tr => .mk 13 (tx l i) 0 [x.2]) (fun _ x hx => by rw [HL12.out, HS5.out]; exact Xx.mk1 hx.2.l1 13 _ 0)))
  go_wp2_with fail
  go_ret
  exact HF.out

set_option maxRecDepth 100000 in
set_option maxHeartbeats 4000000 in
theorem ex_take {l : Ls} {f : Nat} (hE : CE f) (hV : CV f) (hB : CB f) (hT : CT f) (hlt : Lt l f) {w : World} {rb cp i : Nat} {a : Option Addr} (h : Rd w rb a cp l i false) (hf : FC l i 1 (f + 1)) (HV0 : Hid (isW l (i + 0) = false)) (HVT : Hid (takesB l i = true)) :
    Calls Tryz.prog 57 #[.pointer (some ⟨rb, 0, none⟩)] w fun e w' => SRes w w' rb a cp l (P l (f + 1) 1 i) e := by
  have HE0 : Hid (P l (f + 1) 1 i = takeP l (P l f) (i + 1)) := by
    show _ = _
    rw [P_ex]
    unfold exprP
    rw [if_neg (by simp [(show isW l i = false from HV0.out), (show takesB l i = true from HVT.out)]), if_pos (by simp [(show isW l i = false from HV0.out), (show takesB l i = true from HVT.out)])]
  obtain ⟨M, hM⟩ : ∃ M, P l (f + 1) 1 i = M := ⟨_, rfl⟩
  rw [hM] at HE0 ⊢
  clear hM
  have HP0 : Hid (Pg M i false (fun _ : Unit => True) (fun _ => takeP l (P l f) (i + 1))) := ⟨(fun h => by cases h), fun _ => ⟨(), trivial, HE0.out⟩⟩
  have HM0 := Lib.hid (Mv.refl h)
  have hrb := h.sr.lt
  have HRB := Lib.hid hrb
  have HE := Lib.hid hE
  have HVV := Lib.hid hV
  have HBB := Lib.hid hB
  have HTT := Lib.hid hT
  have HLT := Lib.hid hlt
  have HFC := Lib.hid hf
  have c2 := h.sr.c2
  clear h hrb hE hV hB hT hlt hf HE0
  go_enter Tryz.func57, Tryz.ntmps57
  go_wp2_with (go_at_call 79; refine (lk_word (v := ?_) (k := ?_) HM0 ?_ ?_ ?_).mono ?_; rotate_left 2; exact HV0; exact rfl; decide; rintro e w1 ⟨rfl, hgo1⟩; refine Hid.out ?_)
  refine Lib.hid ?_
  have HM2 := Lib.hid hgo1.1
  clear hgo1
  clear c2
  go_wp2_with (go_at_call 83; refine (lk_takes HM2 HVT).mono ?_; rintro e w3 ⟨rfl, hgo3⟩; refine Hid.out ?_)
  refine Lib.hid ?_
  have HM4 := Lib.hid hgo3.1
  clear HM2 hgo3
  have HRD := Lib.hid (HTT.out w3 rb cp i a l HM4.out.rd (isS_lt (takes_open HVT.out)) (HFC.out.on (Nat.le_refl _) (isS_lt (takes_open HVT.out))))
  go_wp2_with (go_at_call 84; refine (st_read HM4 HRD.out).mono ?_; rintro e w99 ⟨i9, b9, L9, ⟨g9, c9, rfl, ho9, hgo9⟩, hk9, hr9⟩; refine Hid.out ?_)
  refine Lib.hid ?_
  have HR : Rel M i9 b9 L9 := by
    obtain ⟨_, _, hx⟩ := HP0.out.no rfl
    rw [hx]
    exact hr9.out
  have HF := Lib.hid (SRes.of (Lib.hid hgo9.1) (Lib.hid ho9) hk9 (by decide) HR)
  go_wp2_with fail
  go_ret
  exact HF.out

set_option maxRecDepth 100000 in
set_option maxHeartbeats 4000000 in
theorem ex_take_w {l : Ls} {f : Nat} (hE : CE f) (hV : CV f) (hB : CB f) (hT : CT f) (hlt : Lt l f) {w : World} {rb cp i : Nat} {a : Option Addr} (h : Rd w rb a cp l i false) (hf : FC l i 1 (f + 1)) (HV0 : Hid (isW l (i + 0) = true)) (HV1 : Hid (isS l (i + 1) [58] = false)) (HVT : Hid (takesB l i = true)) :
    Calls Tryz.prog 57 #[.pointer (some ⟨rb, 0, none⟩)] w fun e w' => SRes w w' rb a cp l (P l (f + 1) 1 i) e := by
  have HE0 : Hid (P l (f + 1) 1 i = takeP l (P l f) (i + 1)) := by
    show _ = _
    rw [P_ex]
    unfold exprP
    rw [if_neg (by simp [(show isW l i = true from HV0.out), (show isS l (i + 1) [58] = false from HV1.out), (show takesB l i = true from HVT.out)]), if_pos (by simp [(show isW l i = true from HV0.out), (show isS l (i + 1) [58] = false from HV1.out), (show takesB l i = true from HVT.out)])]
  obtain ⟨M, hM⟩ : ∃ M, P l (f + 1) 1 i = M := ⟨_, rfl⟩
  rw [hM] at HE0 ⊢
  clear hM
  have HP0 : Hid (Pg M i false (fun _ : Unit => True) (fun _ => takeP l (P l f) (i + 1))) := ⟨(fun h => by cases h), fun _ => ⟨(), trivial, HE0.out⟩⟩
  have HM0 := Lib.hid (Mv.refl h)
  have hrb := h.sr.lt
  have HRB := Lib.hid hrb
  have HE := Lib.hid hE
  have HVV := Lib.hid hV
  have HBB := Lib.hid hB
  have HTT := Lib.hid hT
  have HLT := Lib.hid hlt
  have HFC := Lib.hid hf
  have c2 := h.sr.c2
  clear h hrb hE hV hB hT hlt hf HE0
  go_enter Tryz.func57, Tryz.ntmps57
  go_wp2_with (go_at_call 79; refine (lk_word (v := ?_) (k := ?_) HM0 ?_ ?_ ?_).mono ?_; rotate_left 2; exact HV0; exact rfl; decide; rintro e w1 ⟨rfl, hgo1⟩; refine Hid.out ?_)
  refine Lib.hid ?_
  have HM2 := Lib.hid hgo1.1
  clear hgo1
  clear c2
  go_wp2_with (go_at_call 80; refine (lk_is (v := ?_) (k := ?_) HM2 ?_ ?_ ?_).mono ?_; rotate_left 2; exact HV1; exact rfl; decide; rintro e w3 ⟨rfl, hgo3⟩; refine Hid.out ?_)
  refine Lib.hid ?_
  have HM4 := Lib.hid hgo3.1
  clear HM2 hgo3
  go_wp2_with (go_at_call 83; refine (lk_takes HM4 HVT).mono ?_; rintro e w5 ⟨rfl, hgo5⟩; refine Hid.out ?_)
  refine Lib.hid ?_
  have HM6 := Lib.hid hgo5.1
  clear HM4 hgo5
  have HRD := Lib.hid (HTT.out w5 rb cp i a l HM6.out.rd (isS_lt (takes_open HVT.out)) (HFC.out.on (Nat.le_refl _) (isS_lt (takes_open HVT.out))))
  go_wp2_with (go_at_call 84; refine (st_read HM6 HRD.out).mono ?_; rintro e w99 ⟨i9, b9, L9, ⟨g9, c9, rfl, ho9, hgo9⟩, hk9, hr9⟩; refine Hid.out ?_)
  refine Lib.hid ?_
  have HR : Rel M i9 b9 L9 := by
    obtain ⟨_, _, hx⟩ := HP0.out.no rfl
    rw [hx]
    exact hr9.out
  have HF := Lib.hid (SRes.of (Lib.hid hgo9.1) (Lib.hid ho9) hk9 (by decide) HR)
  go_wp2_with fail
  go_ret
  exact HF.out

set_option maxRecDepth 100000 in
set_option maxHeartbeats 4000000 in
theorem ex_let {l : Ls} {f : Nat} (hE : CE f) (hV : CV f) (hB : CB f) (hT : CT f) (hlt : Lt l f) {w : World} {rb cp i : Nat} {a : Option Addr} (h : Rd w rb a cp l i false) (hf : FC l i 1 (f + 1)) (HV0 : Hid (isW l (i + 0) = false)) (HVT : Hid (takesB l i = false)) (HVL : Hid (isK l i [108, 101, 116] = true)) :
    Calls Tryz.prog 57 #[.pointer (some ⟨rb, 0, none⟩)] w fun e w' => SRes w w' rb a cp l (P l (f + 1) 1 i) e := by
  have HE0 : Hid (P l (f + 1) 1 i = (bindsL l (P l f) (l.length + 1) (i + 1)).bind fun bs j => wk l kIn j fun q => (P l f 1 q).bind fun e u => .ok (.mk 8 noT 0 (bs ++ [e])) u) := by
    show _ = _
    rw [P_ex]
    unfold exprP
    rw [if_neg (by simp [(show isW l i = false from HV0.out), (show takesB l i = false from HVT.out), (show isK l i [108, 101, 116] = true from HVL.out)]), if_neg (by simp [(show isW l i = false from HV0.out), (show takesB l i = false from HVT.out), (show isK l i [108, 101, 116] = true from HVL.out)]), if_pos (by simp [(show isW l i = false from HV0.out), (show takesB l i = false from HVT.out), (show isK l i [108, 101, 116] = true from HVL.out)])]
  obtain ⟨M, hM⟩ : ∃ M, P l (f + 1) 1 i = M := ⟨_, rfl⟩
  rw [hM] at HE0 ⊢
  clear hM
  have HP0 : Hid (Pg M i false (fun _ : Unit => True) (fun _ => (bindsL l (P l f) (l.length + 1) (i + 1)).bind fun bs j => wk l kIn j fun q => (P l f 1 q).bind fun e u => .ok (.mk 8 noT 0 (bs ++ [e])) u)) := ⟨(fun h => by cases h), fun _ => ⟨(), trivial, HE0.out⟩⟩
  have HM0 := Lib.hid (Mv.refl h)
  have hrb := h.sr.lt
  have HRB := Lib.hid hrb
  have HE := Lib.hid hE
  have HVV := Lib.hid hV
  have HBB := Lib.hid hB
  have HTT := Lib.hid hT
  have HLT := Lib.hid hlt
  have HFC := Lib.hid hf
  have c2 := h.sr.c2
  clear h hrb hE hV hB hT hlt hf HE0
  go_enter Tryz.func57, Tryz.ntmps57
  go_wp2_with (go_at_call 79; refine (lk_word (v := ?_) (k := ?_) HM0 ?_ ?_ ?_).mono ?_; rotate_left 2; exact HV0; exact rfl; decide; rintro e w1 ⟨rfl, hgo1⟩; refine Hid.out ?_)
  refine Lib.hid ?_
  have HM2 := Lib.hid hgo1.1
  clear hgo1
  clear c2
  go_wp2_with (go_at_call 83; refine (lk_takes HM2 HVT).mono ?_; rintro e w3 ⟨rfl, hgo3⟩; refine Hid.out ?_)
  refine Lib.hid ?_
  have HM4 := Lib.hid hgo3.1
  clear HM2 hgo3
  go_wp2_with (go_at_call 85; refine (lk_key (v := ?_) HM4 ?_).mono ?_; rotate_left 1; exact HVL; rintro e w5 ⟨rfl, hgo5⟩; refine Hid.out ?_)
  refine Lib.hid ?_
  have HM6 := Lib.hid hgo5.1
  clear HM4 hgo5
  have hc1_7 := HM6.out.rd.sr.c1
  have hf1_7 := HM6.out.rd.sr.f 1
  have hwr_7 := HM6.out.wr (isK_lt HVL.out)
  have hgo7 := HM6.out.inc (isK_lt HVL.out)
  obtain ⟨w7, hw7⟩ : ∃ W, W = w5.setCell ⟨rb, 1, none⟩ (.int .i64 (((i : Nat) : Int) + 1)) := ⟨_, rfl⟩
  rw [← hw7] at hgo7
  have HW7 := Lib.hid hw7
  obtain ⟨i7, hi7⟩ : ∃ z, i + 1 = z := ⟨_, rfl⟩
  rw [hi7] at hgo7
  have HI7 := Lib.hid hi7
  have HM8 := Lib.hid hgo7.1
  clear HM6 hgo7 hw7 hi7
  have HP9 : Hid (Pg M i7 false (fun _ : Unit => True) (fun _ => (bindsL l (P l f) (l.length + 1) i7).bind fun bs j => wk l kIn j fun q => (P l f 1 q).bind fun e u => .ok (.mk 8 noT 0 (bs ++ [e])) u)) := by
    have e9 : i + 1 = i7 := by have h9 := HI7.out; omega
    rw [← e9]
    exact Lib.hid (HP0.out.pos _)
  have HRD := Lib.hid (HBB.out w7 rb cp i7 a l false HM8.out.rd (HFC.out.on (by have h1 := HI7.out; omega) (isK_lt HVL.out)))
  go_wp2_with (go_at_call 86; rw [← HW7.out]; refine (st_readL HM8 HRD.out).mono ?_; rintro e w10 ⟨i10, b10, L10, ⟨g10, c10, rfl, ho10, hgo10⟩, hk10, hr10⟩; refine Hid.out ?_)
  refine Lib.hid ?_
  have HM11 := Lib.hid hgo10.1
  have HO10 := Lib.hid ho10
  have HP10 := Lib.hid (HP9.out.readL hr10.out)
  have HGE10 : Hid (b10 = false → i + 1 ≤ i10) := fun hb => by have h1 := RelL.ge (binds_le HLT.out) hr10.out hb; have h2 := HI7.out; omega
  clear hc1_7 hf1_7 hwr_7 HP0 HM8 ho10 hgo10 HP9
  obtain ⟨v12, hv12⟩ : ∃ v, isK l (i10) [105, 110] = v := ⟨_, rfl⟩
  have HV12 := Lib.hid hv12
  clear hv12
  go_wp2_with (go_at_call 87; refine (st_wantk (v := ?_) HM11 ?_).mono ?_; rotate_left 1; exact HV12; rintro e w12 ⟨rfl, hgo12⟩; refine Hid.out ?_)
  refine Lib.hid ?_
  have HM13 := Lib.hid hgo12.1
  have HO13bs := Lib.hid (HO10.out.step hgo12.2 HRB.out)
  have HP12 := Lib.hid (HP10.out.wantk HV12.out)
  obtain ⟨i12, hi12⟩ : ∃ z, wtI b10 v12 i10 = z := ⟨_, rfl⟩
  obtain ⟨b12, hb12⟩ : ∃ z, wtB b10 v12 = z := ⟨_, rfl⟩
  rw [hi12, hb12] at HM13
  rw [hi12, hb12] at HP12
  have HI12 := Lib.hid hi12
  have HB12 := Lib.hid hb12
  clear HO10 HM11 HP10 hi12 hb12 hgo12
  have HRD14 := Lib.hid (HE.out w12 rb cp i12 a l b12 HM13.out.rd (fun hb => HFC.out.on (by have h1 := HB12.out; rw [hb] at h1; have h2 := wtB_false (i := 0) h1; have h3 := HGE10.out h2.1; have h4 := HI12.out; have h5 := (wtI_le (b := b10) (v := v12) (i := i10)).1; omega) (isK_lt HVL.out)))
  go_wp2_with (go_at_call 57; refine (st_read HM13 HRD14.out).mono ?_; rintro e w14 ⟨i14, b14, L14, ⟨g14, c14, rfl, ho14, hgo14⟩, hk14, hr14⟩; refine Hid.out ?_)
  refine Lib.hid ?_
  have HM15 := Lib.hid hgo14.1
  have HO15bs := Lib.hid (HO13bs.out.step hgo14.2 HRB.out)
  have HO14 := Lib.hid ho14
  have HP14 := Lib.hid (HP12.out.read hr14.out)
  clear HO13bs HM13 ho14 hgo14 HRD14 HP12
  go_wp2_with (go_at_call 88; refine (st_both HM15 HO15bs HO14 hk10 (by omega) hk14 (by omega)).mono ?_; rintro e w16 ⟨L16, ⟨g16, c16, rfl, ho16, hgo16⟩, HL16⟩; refine Hid.out ?_)
  refine Lib.hid ?_
  have HM17 := Lib.hid hgo16.1
  have HO17bs := Lib.hid (HO15bs.out.step hgo16.2 HRB.out)
  have HO17e := Lib.hid (HO14.out.step hgo16.2 HRB.out)
  have HO16 := Lib.hid ho16
  have HK16 : Hid (Okn 3001 L16) := by rw [HL16.out]; exact hk10.out.bo hk14.out
  clear HO15bs HO14 HM15 ho16 hgo16
  go_wp2_with (go_at_call 82; refine (st_make HM17 8 0 HO16 HK16 (by omega)).mono ?_; rintro e w18 ⟨L18, ⟨g18, c18, rfl, ho18, hgo18⟩, HL18⟩; refine Hid.out ?_)
  refine Lib.hid ?_
  have HM19 := Lib.hid hgo18.1
  have HO19bs := Lib.hid (HO17bs.out.step hgo18.2 HRB.out)
  have HO19e := Lib.hid (HO17e.out.step hgo18.2 HRB.out)
  have HO19bo := Lib.hid (HO16.out.step hgo18.2 HRB.out)
  have HO18 := Lib.hid ho18
  have HK18 : Hid (Okn 3001 L18) := by rw [HL18.out]; exact HK16.out.mk 8 0 (by decide)
  clear HO17bs HO17e HO16 HM17 ho18 hgo18
  have HF := Lib.hid (SRes.of HM19 HO18 HK18 (by decide) (Pg.fin HP14.out (T := fun x : (Unit × List Tr) × Tr => .mk 8 noT 0 (x.1.2 ++ [x.2])) (fun _ x hx => by rw [HL18.out, HL16.out]; exact Xx.mk1 (Xx.bo hx.1.2 hx.2.l1) 8 _ 0)))
  go_wp2_with fail
  go_ret
  exact HF.out

set_option maxRecDepth 100000 in
set_option maxHeartbeats 4000000 in
theorem ex_let_w {l : Ls} {f : Nat} (hE : CE f) (hV : CV f) (hB : CB f) (hT : CT f) (hlt : Lt l f) {w : World} {rb cp i : Nat} {a : Option Addr} (h : Rd w rb a cp l i false) (hf : FC l i 1 (f + 1)) (HV0 : Hid (isW l (i + 0) = true)) (HV1 : Hid (isS l (i + 1) [58] = false)) (HVT : Hid (takesB l i = false)) (HVL : Hid (isK l i [108, 101, 116] = true)) :
    Calls Tryz.prog 57 #[.pointer (some ⟨rb, 0, none⟩)] w fun e w' => SRes w w' rb a cp l (P l (f + 1) 1 i) e := by
  have HE0 : Hid (P l (f + 1) 1 i = (bindsL l (P l f) (l.length + 1) (i + 1)).bind fun bs j => wk l kIn j fun q => (P l f 1 q).bind fun e u => .ok (.mk 8 noT 0 (bs ++ [e])) u) := by
    show _ = _
    rw [P_ex]
    unfold exprP
    rw [if_neg (by simp [(show isW l i = true from HV0.out), (show isS l (i + 1) [58] = false from HV1.out), (show takesB l i = false from HVT.out), (show isK l i [108, 101, 116] = true from HVL.out)]), if_neg (by simp [(show isW l i = true from HV0.out), (show isS l (i + 1) [58] = false from HV1.out), (show takesB l i = false from HVT.out), (show isK l i [108, 101, 116] = true from HVL.out)]), if_pos (by simp [(show isW l i = true from HV0.out), (show isS l (i + 1) [58] = false from HV1.out), (show takesB l i = false from HVT.out), (show isK l i [108, 101, 116] = true from HVL.out)])]
  obtain ⟨M, hM⟩ : ∃ M, P l (f + 1) 1 i = M := ⟨_, rfl⟩
  rw [hM] at HE0 ⊢
  clear hM
  have HP0 : Hid (Pg M i false (fun _ : Unit => True) (fun _ => (bindsL l (P l f) (l.length + 1) (i + 1)).bind fun bs j => wk l kIn j fun q => (P l f 1 q).bind fun e u => .ok (.mk 8 noT 0 (bs ++ [e])) u)) := ⟨(fun h => by cases h), fun _ => ⟨(), trivial, HE0.out⟩⟩
  have HM0 := Lib.hid (Mv.refl h)
  have hrb := h.sr.lt
  have HRB := Lib.hid hrb
  have HE := Lib.hid hE
  have HVV := Lib.hid hV
  have HBB := Lib.hid hB
  have HTT := Lib.hid hT
  have HLT := Lib.hid hlt
  have HFC := Lib.hid hf
  have c2 := h.sr.c2
  clear h hrb hE hV hB hT hlt hf HE0
  go_enter Tryz.func57, Tryz.ntmps57
  go_wp2_with (go_at_call 79; refine (lk_word (v := ?_) (k := ?_) HM0 ?_ ?_ ?_).mono ?_; rotate_left 2; exact HV0; exact rfl; decide; rintro e w1 ⟨rfl, hgo1⟩; refine Hid.out ?_)
  refine Lib.hid ?_
  have HM2 := Lib.hid hgo1.1
  clear hgo1
  clear c2
  go_wp2_with (go_at_call 80; refine (lk_is (v := ?_) (k := ?_) HM2 ?_ ?_ ?_).mono ?_; rotate_left 2; exact HV1; exact rfl; decide; rintro e w3 ⟨rfl, hgo3⟩; refine Hid.out ?_)
  refine Lib.hid ?_
  have HM4 := Lib.hid hgo3.1
  clear HM2 hgo3
  go_wp2_with (go_at_call 83; refine (lk_takes HM4 HVT).mono ?_; rintro e w5 ⟨rfl, hgo5⟩; refine Hid.out ?_)
  refine Lib.hid ?_
  have HM6 := Lib.hid hgo5.1
  clear HM4 hgo5
  go_wp2_with (go_at_call 85; refine (lk_key (v := ?_) HM6 ?_).mono ?_; rotate_left 1; exact HVL; rintro e w7 ⟨rfl, hgo7⟩; refine Hid.out ?_)
  refine Lib.hid ?_
  have HM8 := Lib.hid hgo7.1
  clear HM6 hgo7
  have hc1_9 := HM8.out.rd.sr.c1
  have hf1_9 := HM8.out.rd.sr.f 1
  have hwr_9 := HM8.out.wr (isK_lt HVL.out)
  have hgo9 := HM8.out.inc (isK_lt HVL.out)
  obtain ⟨w9, hw9⟩ : ∃ W, W = w7.setCell ⟨rb, 1, none⟩ (.int .i64 (((i : Nat) : Int) + 1)) := ⟨_, rfl⟩
  rw [← hw9] at hgo9
  have HW9 := Lib.hid hw9
  obtain ⟨i9, hi9⟩ : ∃ z, i + 1 = z := ⟨_, rfl⟩
  rw [hi9] at hgo9
  have HI9 := Lib.hid hi9
  have HM10 := Lib.hid hgo9.1
  clear HM8 hgo9 hw9 hi9
  have HP11 : Hid (Pg M i9 false (fun _ : Unit => True) (fun _ => (bindsL l (P l f) (l.length + 1) i9).bind fun bs j => wk l kIn j fun q => (P l f 1 q).bind fun e u => .ok (.mk 8 noT 0 (bs ++ [e])) u)) := by
    have e9 : i + 1 = i9 := by have h9 := HI9.out; omega
    rw [← e9]
    exact Lib.hid (HP0.out.pos _)
  have HRD := Lib.hid (HBB.out w9 rb cp i9 a l false HM10.out.rd (HFC.out.on (by have h1 := HI9.out; omega) (isK_lt HVL.out)))
  go_wp2_with (go_at_call 86; rw [← HW9.out]; refine (st_readL HM10 HRD.out).mono ?_; rintro e w12 ⟨i12, b12, L12, ⟨g12, c12, rfl, ho12, hgo12⟩, hk12, hr12⟩; refine Hid.out ?_)
  refine Lib.hid ?_
  have HM13 := Lib.hid hgo12.1
  have HO12 := Lib.hid ho12
  have HP12 := Lib.hid (HP11.out.readL hr12.out)
  have HGE12 : Hid (b12 = false → i + 1 ≤ i12) := fun hb => by have h1 := RelL.ge (binds_le HLT.out) hr12.out hb; have h2 := HI9.out; omega
  clear hc1_9 hf1_9 hwr_9 HP0 HM10 ho12 hgo12 HP11
  obtain ⟨v14, hv14⟩ : ∃ v, isK l (i12) [105, 110] = v := ⟨_, rfl⟩
  have HV14 := Lib.hid hv14
  clear hv14
  go_wp2_with (go_at_call 87; refine (st_wantk (v := ?_) HM13 ?_).mono ?_; rotate_left 1; exact HV14; rintro e w14 ⟨rfl, hgo14⟩; refine Hid.out ?_)
  refine Lib.hid ?_
  have HM15 := Lib.hid hgo14.1
  have HO15bs := Lib.hid (HO12.out.step hgo14.2 HRB.out)
  have HP14 := Lib.hid (HP12.out.wantk HV14.out)
  obtain ⟨i14, hi14⟩ : ∃ z, wtI b12 v14 i12 = z := ⟨_, rfl⟩
  obtain ⟨b14, hb14⟩ : ∃ z, wtB b12 v14 = z := ⟨_, rfl⟩
  rw [hi14, hb14] at HM15
  rw [hi14, hb14] at HP14
  have HI14 := Lib.hid hi14
  have HB14 := Lib.hid hb14
  clear HO12 HM13 HP12 hi14 hb14 hgo14
  have HRD16 := Lib.hid (HE.out w14 rb cp i14 a l b14 HM15.out.rd (fun hb => HFC.out.on (by have h1 := HB14.out; rw [hb] at h1; have h2 := wtB_false (i := 0) h1; have h3 := HGE12.out h2.1; have h4 := HI14.out; have h5 := (wtI_le (b := b12) (v := v14) (i := i12)).1; omega) (isK_lt HVL.out)))
  go_wp2_with (go_at_call 57; refine (st_read HM15 HRD16.out).mono ?_; rintro e w16 ⟨i16, b16, L16, ⟨g16, c16, rfl, ho16, hgo16⟩, hk16, hr16⟩; refine Hid.out ?_)
  refine Lib.hid ?_
  have HM17 := Lib.hid hgo16.1
  have HO17bs := Lib.hid (HO15bs.out.step hgo16.2 HRB.out)
  have HO16 := Lib.hid ho16
  have HP16 := Lib.hid (HP14.out.read hr16.out)
  clear HO15bs HM15 ho16 hgo16 HRD16 HP14
  go_wp2_with (go_at_call 88; refine (st_both HM17 HO17bs HO16 hk12 (by omega) hk16 (by omega)).mono ?_; rintro e w18 ⟨L18, ⟨g18, c18, rfl, ho18, hgo18⟩, HL18⟩; refine Hid.out ?_)
  refine Lib.hid ?_
  have HM19 := Lib.hid hgo18.1
  have HO19bs := Lib.hid (HO17bs.out.step hgo18.2 HRB.out)
  have HO19e := Lib.hid (HO16.out.step hgo18.2 HRB.out)
  have HO18 := Lib.hid ho18
  have HK18 : Hid (Okn 3001 L18) := by rw [HL18.out]; exact hk12.out.bo hk16.out
  clear HO17bs HO16 HM17 ho18 hgo18
  go_wp2_with (go_at_call 82; refine (st_make HM19 8 0 HO18 HK18 (by omega)).mono ?_; rintro e w20 ⟨L20, ⟨g20, c20, rfl, ho20, hgo20⟩, HL20⟩; refine Hid.out ?_)
  refine Lib.hid ?_
  have HM21 := Lib.hid hgo20.1
  have HO21bs := Lib.hid (HO19bs.out.step hgo20.2 HRB.out)
  have HO21e := Lib.hid (HO19e.out.step hgo20.2 HRB.out)
  have HO21bo := Lib.hid (HO18.out.step hgo20.2 HRB.out)
  have HO20 := Lib.hid ho20
  have HK20 : Hid (Okn 3001 L20) := by rw [HL20.out]; exact HK18.out.mk 8 0 (by decide)
  clear HO19bs HO19e HO18 HM19 ho20 hgo20
  have HF := Lib.hid (SRes.of HM21 HO20 HK20 (by decide) (Pg.fin HP16.out (T := fun x : (Unit × List Tr) × Tr => .mk 8 noT 0 (x.1.2 ++ [x.2])) (fun _ x hx => by rw [HL20.out, HL18.out]; exact Xx.mk1 (Xx.bo hx.1.2 hx.2.l1) 8 _ 0)))
  go_wp2_with fail
  go_ret
  exact HF.out

set_option maxRecDepth 100000 in
set_option maxHeartbeats 4000000 in
theorem ex_with {l : Ls} {f : Nat} (hE : CE f) (hV : CV f) (hB : CB f) (hT : CT f) (hlt : Lt l f) {w : World} {rb cp i : Nat} {a : Option Addr} (h : Rd w rb a cp l i false) (hf : FC l i 1 (f + 1)) (HV0 : Hid (isW l (i + 0) = false)) (HVT : Hid (takesB l i = false)) (HVL : Hid (isK l i [108, 101, 116] = false)) (HVW : Hid (isK l i [119, 105, 116, 104] = true)) (HVA2 : Hid (isK l i [97, 115, 115, 101, 114, 116] = false)) :
    Calls Tryz.prog 57 #[.pointer (some ⟨rb, 0, none⟩)] w fun e w' => SRes w w' rb a cp l (P l (f + 1) 1 i) e := by
  have HE0 : Hid (P l (f + 1) 1 i = (P l f 1 (i + 1)).bind fun a j => wt l sSemi j fun q => (P l f 1 q).bind fun e u => .ok (.mk 9 noT 0 [a, e]) u) := by
    show _ = _
    rw [P_ex]
    unfold exprP
    rw [if_neg (by simp [(show isW l i = false from HV0.out), (show takesB l i = false from HVT.out), (show isK l i [108, 101, 116] = false from HVL.out), (show isK l i [119, 105, 116, 104] = true from HVW.out)]), if_neg (by simp [(show isW l i = false from HV0.out), (show takesB l i = false from HVT.out), (show isK l i [108, 101, 116] = false from HVL.out), (show isK l i [119, 105, 116, 104] = true from HVW.out)]), if_neg (by simp [(show isW l i = false from HV0.out), (show takesB l i = false from HVT.out), (show isK l i [108, 101, 116] = false from HVL.out), (show isK l i [119, 105, 116, 104] = true from HVW.out)]), if_pos (by simp [(show isW l i = false from HV0.out), (show takesB l i = false from HVT.out), (show isK l i [108, 101, 116] = false from HVL.out), (show isK l i [119, 105, 116, 104] = true from HVW.out)])]
  obtain ⟨M, hM⟩ : ∃ M, P l (f + 1) 1 i = M := ⟨_, rfl⟩
  rw [hM] at HE0 ⊢
  clear hM
  have HP0 : Hid (Pg M i false (fun _ : Unit => True) (fun _ => (P l f 1 (i + 1)).bind fun a j => wt l sSemi j fun q => (P l f 1 q).bind fun e u => .ok (.mk 9 noT 0 [a, e]) u)) := ⟨(fun h => by cases h), fun _ => ⟨(), trivial, HE0.out⟩⟩
  have HM0 := Lib.hid (Mv.refl h)
  have hrb := h.sr.lt
  have HRB := Lib.hid hrb
  have HE := Lib.hid hE
  have HVV := Lib.hid hV
  have HBB := Lib.hid hB
  have HTT := Lib.hid hT
  have HLT := Lib.hid hlt
  have HFC := Lib.hid hf
  have c2 := h.sr.c2
  clear h hrb hE hV hB hT hlt hf HE0
  go_enter Tryz.func57, Tryz.ntmps57
  go_wp2_with (go_at_call 79; refine (lk_word (v := ?_) (k := ?_) HM0 ?_ ?_ ?_).mono ?_; rotate_left 2; exact HV0; exact rfl; decide; rintro e w1 ⟨rfl, hgo1⟩; refine Hid.out ?_)
  refine Lib.hid ?_
  have HM2 := Lib.hid hgo1.1
  clear hgo1
  clear c2
  go_wp2_with (go_at_call 83; refine (lk_takes HM2 HVT).mono ?_; rintro e w3 ⟨rfl, hgo3⟩; refine Hid.out ?_)
  refine Lib.hid ?_
  have HM4 := Lib.hid hgo3.1
  clear HM2 hgo3
  go_wp2_with (go_at_call 85; refine (lk_key (v := ?_) HM4 ?_).mono ?_; rotate_left 1; exact HVL; rintro e w5 ⟨rfl, hgo5⟩; refine Hid.out ?_)
  refine Lib.hid ?_
  have HM6 := Lib.hid hgo5.1
  clear HM4 hgo5
  go_wp2_with (go_at_call 85; refine (lk_key (v := ?_) HM6 ?_).mono ?_; rotate_left 1; exact HVW; rintro e w7 ⟨rfl, hgo7⟩; refine Hid.out ?_)
  refine Lib.hid ?_
  have HM8 := Lib.hid hgo7.1
  clear HM6 hgo7
  go_wp2_with (go_at_call 85; refine (lk_key (v := ?_) HM8 ?_).mono ?_; rotate_left 1; exact HVA2; rintro e w9 ⟨rfl, hgo9⟩; refine Hid.out ?_)
  refine Lib.hid ?_
  have HM10 := Lib.hid hgo9.1
  clear HM8 hgo9
  have hc1_11 := HM10.out.rd.sr.c1
  have hf1_11 := HM10.out.rd.sr.f 1
  have hwr_11 := HM10.out.wr (isK_lt HVW.out)
  have hgo11 := HM10.out.inc (isK_lt HVW.out)
  obtain ⟨w11, hw11⟩ : ∃ W, W = w9.setCell ⟨rb, 1, none⟩ (.int .i64 (((i : Nat) : Int) + 1)) := ⟨_, rfl⟩
  rw [← hw11] at hgo11
  have HW11 := Lib.hid hw11
  obtain ⟨i11, hi11⟩ : ∃ z, i + 1 = z := ⟨_, rfl⟩
  rw [hi11] at hgo11
  have HI11 := Lib.hid hi11
  have HM12 := Lib.hid hgo11.1
  clear HM10 hgo11 hw11 hi11
  have HP13 : Hid (Pg M i11 false (fun _ : Unit => True) (fun _ => (P l f 1 i11).bind fun a j => wt l sSemi j fun q => (P l f 1 q).bind fun e u => .ok (.mk 9 noT 0 [a, e]) u)) := by
    have e9 : i + 1 = i11 := by have h9 := HI11.out; omega
    rw [← e9]
    exact Lib.hid (HP0.out.pos _)
  have HRD14 := Lib.hid (HE.out w11 rb cp i11 a l false HM12.out.rd (fun hb => HFC.out.on (by have h1 := HI11.out; omega) (isK_lt HVW.out)))
  go_wp2_with (go_at_call 57; rw [← HW11.out]; refine (st_read HM12 HRD14.out).mono ?_; rintro e w14 ⟨i14, b14, L14, ⟨g14, c14, rfl, ho14, hgo14⟩, hk14, hr14⟩; refine Hid.out ?_)
  refine Lib.hid ?_
  have HM15 := Lib.hid hgo14.1
  have HO14 := Lib.hid ho14
  have HP14 := Lib.hid (HP13.out.read hr14.out)
  clear hc1_11 hf1_11 hwr_11 HP0 HM12 ho14 hgo14 HRD14 HP13
  have HGE14 : Hid (b14 = false → i + 1 < i14) := fun hb => by have h1 := (Rel.ge (HLT.out 1 _) hr14.out hb).2; have h2 := HI11.out; omega
  obtain ⟨v16, hv16⟩ : ∃ v, isS l (i14) [59] = v := ⟨_, rfl⟩
  have HV16 := Lib.hid hv16
  clear hv16
  go_wp2_with (go_at_call 89; refine (st_want (v := ?_) HM15 ?_).mono ?_; rotate_left 1; exact HV16; rintro e w16 ⟨rfl, hgo16⟩; refine Hid.out ?_)
  refine Lib.hid ?_
  have HM17 := Lib.hid hgo16.1
  have HO17e1 := Lib.hid (HO14.out.step hgo16.2 HRB.out)
  have HP16 := Lib.hid (HP14.out.want HV16.out)
  obtain ⟨i16, hi16⟩ : ∃ z, wtI b14 v16 i14 = z := ⟨_, rfl⟩
  obtain ⟨b16, hb16⟩ : ∃ z, wtB b14 v16 = z := ⟨_, rfl⟩
  rw [hi16, hb16] at HM17
  rw [hi16, hb16] at HP16
  have HI16 := Lib.hid hi16
  have HB16 := Lib.hid hb16
  clear HO14 HM15 HP14 hi16 hb16 hgo16
  have HRD18 := Lib.hid (HE.out w16 rb cp i16 a l b16 HM17.out.rd (fun hb => HFC.out.on (by have h1 := HB16.out; rw [hb] at h1; have h2 := wtB_false (i := 0) h1; have h3 := HGE14.out h2.1; have h4 := HI16.out; have h5 := (wtI_le (b := b14) (v := v16) (i := i14)).1; omega) (isK_lt HVW.out)))
  go_wp2_with (go_at_call 57; refine (st_read HM17 HRD18.out).mono ?_; rintro e w18 ⟨i18, b18, L18, ⟨g18, c18, rfl, ho18, hgo18⟩, hk18, hr18⟩; refine Hid.out ?_)
  refine Lib.hid ?_
  have HM19 := Lib.hid hgo18.1
  have HO19e1 := Lib.hid (HO17e1.out.step hgo18.2 HRB.out)
  have HO18 := Lib.hid ho18
  have HP18 := Lib.hid (HP16.out.read hr18.out)
  clear HO17e1 HM17 ho18 hgo18 HRD18 HP16
  go_wp2_with (go_at_call 88; refine (st_both HM19 HO19e1 HO18 hk14 (by omega) hk18 (by omega)).mono ?_; rintro e w20 ⟨L20, ⟨g20, c20, rfl, ho20, hgo20⟩, HL20⟩; refine Hid.out ?_)
  refine Lib.hid ?_
  have HM21 := Lib.hid hgo20.1
  have HO21e1 := Lib.hid (HO19e1.out.step hgo20.2 HRB.out)
  have HO21e2 := Lib.hid (HO18.out.step hgo20.2 HRB.out)
  have HO20 := Lib.hid ho20
  have HK20 : Hid (Okn 3001 L20) := by rw [HL20.out]; exact hk14.out.bo hk18.out
  clear HO19e1 HO18 HM19 ho20 hgo20
  go_wp2_with (go_at_call 82; refine (st_make HM21 9 0 HO20 HK20 (by omega)).mono ?_; rintro e w22 ⟨L22, ⟨g22, c22, rfl, ho22, hgo22⟩, HL22⟩; refine Hid.out ?_)
  refine Lib.hid ?_
  have HM23 := Lib.hid hgo22.1
  have HO23e1 := Lib.hid (HO21e1.out.step hgo22.2 HRB.out)
  have HO23e2 := Lib.hid (HO21e2.out.step hgo22.2 HRB.out)
  have HO23bo := Lib.hid (HO20.out.step hgo22.2 HRB.out)
  have HO22 := Lib.hid ho22
  have HK22 : Hid (Okn 3001 L22) := by rw [HL22.out]; exact HK20.out.mk 9 0 (by decide)
  clear HO21e1 HO21e2 HO20 HM21 ho22 hgo22
  have HF := Lib.hid (SRes.of HM23 HO22 HK22 (by decide) (Pg.fin HP18.out (T := fun x : (Unit × Tr) × Tr => .mk 9 noT 0 [x.1.2, x.2]) (fun _ x hx => by rw [HL22.out, HL20.out]; exact Xx.mk1 (Xx.bo hx.1.2.l1 hx.2.l1) 9 _ 0)))
  go_wp2_with fail
  go_ret
  exact HF.out

set_option maxRecDepth 100000 in
set_option maxHeartbeats 4000000 in
theorem ex_with_w {l : Ls} {f : Nat} (hE : CE f) (hV : CV f) (hB : CB f) (hT : CT f) (hlt : Lt l f) {w : World} {rb cp i : Nat} {a : Option Addr} (h : Rd w rb a cp l i false) (hf : FC l i 1 (f + 1)) (HV0 : Hid (isW l (i + 0) = true)) (HV1 : Hid (isS l (i + 1) [58] = false)) (HVT : Hid (takesB l i = false)) (HVL : Hid (isK l i [108, 101, 116] = false)) (HVW : Hid (isK l i [119, 105, 116, 104] = true)) (HVA2 : Hid (isK l i [97, 115, 115, 101, 114, 116] = false)) :
    Calls Tryz.prog 57 #[.pointer (some ⟨rb, 0, none⟩)] w fun e w' => SRes w w' rb a cp l (P l (f + 1) 1 i) e := by
  have HE0 : Hid (P l (f + 1) 1 i = (P l f 1 (i + 1)).bind fun a j => wt l sSemi j fun q => (P l f 1 q).bind fun e u => .ok (.mk 9 noT 0 [a, e]) u) := by
    show _ = _
    rw [P_ex]
    unfold exprP
    rw [if_neg (by simp [(show isW l i = true from HV0.out), (show isS l (i + 1) [58] = false from HV1.out), (show takesB l i = false from HVT.out), (show isK l i [108, 101, 116] = false from HVL.out), (show isK l i [119, 105, 116, 104] = true from HVW.out)]), if_neg (by simp [(show isW l i = true from HV0.out), (show isS l (i + 1) [58] = false from HV1.out), (show takesB l i = false from HVT.out), (show isK l i [108, 101, 116] = false from HVL.out), (show isK l i [119, 105, 116, 104] = true from HVW.out)]), if_neg (by simp [(show isW l i = true from HV0.out), (show isS l (i + 1) [58] = false from HV1.out), (show takesB l i = false from HVT.out), (show isK l i [108, 101, 116] = false from HVL.out), (show isK l i [119, 105, 116, 104] = true from HVW.out)]), if_pos (by simp [(show isW l i = true from HV0.out), (show isS l (i + 1) [58] = false from HV1.out), (show takesB l i = false from HVT.out), (show isK l i [108, 101, 116] = false from HVL.out), (show isK l i [119, 105, 116, 104] = true from HVW.out)])]
  obtain ⟨M, hM⟩ : ∃ M, P l (f + 1) 1 i = M := ⟨_, rfl⟩
  rw [hM] at HE0 ⊢
  clear hM
  have HP0 : Hid (Pg M i false (fun _ : Unit => True) (fun _ => (P l f 1 (i + 1)).bind fun a j => wt l sSemi j fun q => (P l f 1 q).bind fun e u => .ok (.mk 9 noT 0 [a, e]) u)) := ⟨(fun h => by cases h), fun _ => ⟨(), trivial, HE0.out⟩⟩
  have HM0 := Lib.hid (Mv.refl h)
  have hrb := h.sr.lt
  have HRB := Lib.hid hrb
  have HE := Lib.hid hE
  have HVV := Lib.hid hV
  have HBB := Lib.hid hB
  have HTT := Lib.hid hT
  have HLT := Lib.hid hlt
  have HFC := Lib.hid hf
  have c2 := h.sr.c2
  clear h hrb hE hV hB hT hlt hf HE0
  go_enter Tryz.func57, Tryz.ntmps57
  go_wp2_with (go_at_call 79; refine (lk_word (v := ?_) (k := ?_) HM0 ?_ ?_ ?_).mono ?_; rotate_left 2; exact HV0; exact rfl; decide; rintro e w1 ⟨rfl, hgo1⟩; refine Hid.out ?_)
  refine Lib.hid ?_
  have HM2 := Lib.hid hgo1.1
  clear hgo1
  clear c2
  go_wp2_with (go_at_call 80; refine (lk_is (v := ?_) (k := ?_) HM2 ?_ ?_ ?_).mono ?_; rotate_left 2; exact HV1; exact rfl; decide; rintro e w3 ⟨rfl, hgo3⟩; refine Hid.out ?_)
  refine Lib.hid ?_
  have HM4 := Lib.hid hgo3.1
  clear HM2 hgo3
  go_wp2_with (go_at_call 83; refine (lk_takes HM4 HVT).mono ?_; rintro e w5 ⟨rfl, hgo5⟩; refine Hid.out ?_)
  refine Lib.hid ?_
  have HM6 := Lib.hid hgo5.1
  clear HM4 hgo5
  go_wp2_with (go_at_call 85; refine (lk_key (v := ?_) HM6 ?_).mono ?_; rotate_left 1; exact HVL; rintro e w7 ⟨rfl, hgo7⟩; refine Hid.out ?_)
  refine Lib.hid ?_
  have HM8 := Lib.hid hgo7.1
  clear HM6 hgo7
  go_wp2_with (go_at_call 85; refine (lk_key (v := ?_) HM8 ?_).mono ?_; rotate_left 1; exact HVW; rintro e w9 ⟨rfl, hgo9⟩; refine Hid.out ?_)
  refine Lib.hid ?_
  have HM10 := Lib.hid hgo9.1
  clear HM8 hgo9
  go_wp2_with (go_at_call 85; refine (lk_key (v := ?_) HM10 ?_).mono ?_; rotate_left 1; exact HVA2; rintro e w11 ⟨rfl, hgo11⟩; refine Hid.out ?_)
  refine Lib.hid ?_
  have HM12 := Lib.hid hgo11.1
  clear HM10 hgo11
  have hc1_13 := HM12.out.rd.sr.c1
  have hf1_13 := HM12.out.rd.sr.f 1
  have hwr_13 := HM12.out.wr (isK_lt HVW.out)
  have hgo13 := HM12.out.inc (isK_lt HVW.out)
  obtain ⟨w13, hw13⟩ : ∃ W, W = w11.setCell ⟨rb, 1, none⟩ (.int .i64 (((i : Nat) : Int) + 1)) := ⟨_, rfl⟩
  rw [← hw13] at hgo13
  have HW13 := Lib.hid hw13
  obtain ⟨i13, hi13⟩ : ∃ z, i + 1 = z := ⟨_, rfl⟩
  rw [hi13] at hgo13
  have HI13 := Lib.hid hi13
  have HM14 := Lib.hid hgo13.1
  clear HM12 hgo13 hw13 hi13
  have HP15 : Hid (Pg M i13 false (fun _ : Unit => True) (fun _ => (P l f 1 i13).bind fun a j => wt l sSemi j fun q => (P l f 1 q).bind fun e u => .ok (.mk 9 noT 0 [a, e]) u)) := by
    have e9 : i + 1 = i13 := by have h9 := HI13.out; omega
    rw [← e9]
    exact Lib.hid (HP0.out.pos _)
  have HRD16 := Lib.hid (HE.out w13 rb cp i13 a l false HM14.out.rd (fun hb => HFC.out.on (by have h1 := HI13.out; omega) (isK_lt HVW.out)))
  go_wp2_with (go_at_call 57; rw [← HW13.out]; refine (st_read HM14 HRD16.out).mono ?_; rintro e w16 ⟨i16, b16, L16, ⟨g16, c16, rfl, ho16, hgo16⟩, hk16, hr16⟩; refine Hid.out ?_)
  refine Lib.hid ?_
  have HM17 := Lib.hid hgo16.1
  have HO16 := Lib.hid ho16
  have HP16 := Lib.hid (HP15.out.read hr16.out)
  clear hc1_13 hf1_13 hwr_13 HP0 HM14 ho16 hgo16 HRD16 HP15
  have HGE16 : Hid (b16 = false → i + 1 < i16) := fun hb => by have h1 := (Rel.ge (HLT.out 1 _) hr16.out hb).2; have h2 := HI13.out; omega
  obtain ⟨v18, hv18⟩ : ∃ v, isS l (i16) [59] = v := ⟨_, rfl⟩
  have HV18 := Lib.hid hv18
  clear hv18
  go_wp2_with (go_at_call 89; refine (st_want (v := ?_) HM17 ?_).mono ?_; rotate_left 1; exact HV18; rintro e w18 ⟨rfl, hgo18⟩; refine Hid.out ?_)
  refine Lib.hid ?_
  have HM19 := Lib.hid hgo18.1
  have HO19e1 := Lib.hid (HO16.out.step hgo18.2 HRB.out)
  have HP18 := Lib.hid (HP16.out.want HV18.out)
  obtain ⟨i18, hi18⟩ : ∃ z, wtI b16 v18 i16 = z := ⟨_, rfl⟩
  obtain ⟨b18, hb18⟩ : ∃ z, wtB b16 v18 = z := ⟨_, rfl⟩
  rw [hi18, hb18] at HM19
  rw [hi18, hb18] at HP18
  have HI18 := Lib.hid hi18
  have HB18 := Lib.hid hb18
  clear HO16 HM17 HP16 hi18 hb18 hgo18
  have HRD20 := Lib.hid (HE.out w18 rb cp i18 a l b18 HM19.out.rd (fun hb => HFC.out.on (by have h1 := HB18.out; rw [hb] at h1; have h2 := wtB_false (i := 0) h1; have h3 := HGE16.out h2.1; have h4 := HI18.out; have h5 := (wtI_le (b := b16) (v := v18) (i := i16)).1; omega) (isK_lt HVW.out)))
  go_wp2_with (go_at_call 57; refine (st_read HM19 HRD20.out).mono ?_; rintro e w20 ⟨i20, b20, L20, ⟨g20, c20, rfl, ho20, hgo20⟩, hk20, hr20⟩; refine Hid.out ?_)
  refine Lib.hid ?_
  have HM21 := Lib.hid hgo20.1
  have HO21e1 := Lib.hid (HO19e1.out.step hgo20.2 HRB.out)
  have HO20 := Lib.hid ho20
  have HP20 := Lib.hid (HP18.out.read hr20.out)
  clear HO19e1 HM19 ho20 hgo20 HRD20 HP18
  go_wp2_with (go_at_call 88; refine (st_both HM21 HO21e1 HO20 hk16 (by omega) hk20 (by omega)).mono ?_; rintro e w22 ⟨L22, ⟨g22, c22, rfl, ho22, hgo22⟩, HL22⟩; refine Hid.out ?_)
  refine Lib.hid ?_
  have HM23 := Lib.hid hgo22.1
  have HO23e1 := Lib.hid (HO21e1.out.step hgo22.2 HRB.out)
  have HO23e2 := Lib.hid (HO20.out.step hgo22.2 HRB.out)
  have HO22 := Lib.hid ho22
  have HK22 : Hid (Okn 3001 L22) := by rw [HL22.out]; exact hk16.out.bo hk20.out
  clear HO21e1 HO20 HM21 ho22 hgo22
  go_wp2_with (go_at_call 82; refine (st_make HM23 9 0 HO22 HK22 (by omega)).mono ?_; rintro e w24 ⟨L24, ⟨g24, c24, rfl, ho24, hgo24⟩, HL24⟩; refine Hid.out ?_)
  refine Lib.hid ?_
  have HM25 := Lib.hid hgo24.1
  have HO25e1 := Lib.hid (HO23e1.out.step hgo24.2 HRB.out)
  have HO25e2 := Lib.hid (HO23e2.out.step hgo24.2 HRB.out)
  have HO25bo := Lib.hid (HO22.out.step hgo24.2 HRB.out)
  have HO24 := Lib.hid ho24
  have HK24 : Hid (Okn 3001 L24) := by rw [HL24.out]; exact HK22.out.mk 9 0 (by decide)
  clear HO23e1 HO23e2 HO22 HM23 ho24 hgo24
  have HF := Lib.hid (SRes.of HM25 HO24 HK24 (by decide) (Pg.fin HP20.out (T := fun x : (Unit × Tr) × Tr => .mk 9 noT 0 [x.1.2, x.2]) (fun _ x hx => by rw [HL24.out, HL22.out]; exact Xx.mk1 (Xx.bo hx.1.2.l1 hx.2.l1) 9 _ 0)))
  go_wp2_with fail
  go_ret
  exact HF.out

set_option maxRecDepth 100000 in
set_option maxHeartbeats 4000000 in
theorem ex_ass {l : Ls} {f : Nat} (hE : CE f) (hV : CV f) (hB : CB f) (hT : CT f) (hlt : Lt l f) {w : World} {rb cp i : Nat} {a : Option Addr} (h : Rd w rb a cp l i false) (hf : FC l i 1 (f + 1)) (HV0 : Hid (isW l (i + 0) = false)) (HVT : Hid (takesB l i = false)) (HVL : Hid (isK l i [108, 101, 116] = false)) (HVW : Hid (isK l i [119, 105, 116, 104] = false)) (HVA : Hid (isK l i [97, 115, 115, 101, 114, 116] = true)) :
    Calls Tryz.prog 57 #[.pointer (some ⟨rb, 0, none⟩)] w fun e w' => SRes w w' rb a cp l (P l (f + 1) 1 i) e := by
  have HE0 : Hid (P l (f + 1) 1 i = (P l f 1 (i + 1)).bind fun a j => wt l sSemi j fun q => (P l f 1 q).bind fun e u => .ok (.mk 10 noT 0 [a, e]) u) := by
    show _ = _
    rw [P_ex]
    unfold exprP
    rw [if_neg (by simp [(show isW l i = false from HV0.out), (show takesB l i = false from HVT.out), (show isK l i [108, 101, 116] = false from HVL.out), (show isK l i [119, 105, 116, 104] = false from HVW.out), (show isK l i [97, 115, 115, 101, 114, 116] = true from HVA.out)]), if_neg (by simp [(show isW l i = false from HV0.out), (show takesB l i = false from HVT.out), (show isK l i [108, 101, 116] = false from HVL.out), (show isK l i [119, 105, 116, 104] = false from HVW.out), (show isK l i [97, 115, 115, 101, 114, 116] = true from HVA.out)]), if_neg (by simp [(show isW l i = false from HV0.out), (show takesB l i = false from HVT.out), (show isK l i [108, 101, 116] = false from HVL.out), (show isK l i [119, 105, 116, 104] = false from HVW.out), (show isK l i [97, 115, 115, 101, 114, 116] = true from HVA.out)]), if_neg (by simp [(show isW l i = false from HV0.out), (show takesB l i = false from HVT.out), (show isK l i [108, 101, 116] = false from HVL.out), (show isK l i [119, 105, 116, 104] = false from HVW.out), (show isK l i [97, 115, 115, 101, 114, 116] = true from HVA.out)]), if_pos (by simp [(show isW l i = false from HV0.out), (show takesB l i = false from HVT.out), (show isK l i [108, 101, 116] = false from HVL.out), (show isK l i [119, 105, 116, 104] = false from HVW.out), (show isK l i [97, 115, 115, 101, 114, 116] = true from HVA.out)])]
  obtain ⟨M, hM⟩ : ∃ M, P l (f + 1) 1 i = M := ⟨_, rfl⟩
  rw [hM] at HE0 ⊢
  clear hM
  have HP0 : Hid (Pg M i false (fun _ : Unit => True) (fun _ => (P l f 1 (i + 1)).bind fun a j => wt l sSemi j fun q => (P l f 1 q).bind fun e u => .ok (.mk 10 noT 0 [a, e]) u)) := ⟨(fun h => by cases h), fun _ => ⟨(), trivial, HE0.out⟩⟩
  have HM0 := Lib.hid (Mv.refl h)
  have hrb := h.sr.lt
  have HRB := Lib.hid hrb
  have HE := Lib.hid hE
  have HVV := Lib.hid hV
  have HBB := Lib.hid hB
  have HTT := Lib.hid hT
  have HLT := Lib.hid hlt
  have HFC := Lib.hid hf
  have c2 := h.sr.c2
  clear h hrb hE hV hB hT hlt hf HE0
  go_enter Tryz.func57, Tryz.ntmps57
  go_wp2_with (go_at_call 79; refine (lk_word (v := ?_) (k := ?_) HM0 ?_ ?_ ?_).mono ?_; rotate_left 2; exact HV0; exact rfl; decide; rintro e w1 ⟨rfl, hgo1⟩; refine Hid.out ?_)
  refine Lib.hid ?_
  have HM2 := Lib.hid hgo1.1
  clear hgo1
  clear c2
  go_wp2_with (go_at_call 83; refine (lk_takes HM2 HVT).mono ?_; rintro e w3 ⟨rfl, hgo3⟩; refine Hid.out ?_)
  refine Lib.hid ?_
  have HM4 := Lib.hid hgo3.1
  clear HM2 hgo3
  go_wp2_with (go_at_call 85; refine (lk_key (v := ?_) HM4 ?_).mono ?_; rotate_left 1; exact HVL; rintro e w5 ⟨rfl, hgo5⟩; refine Hid.out ?_)
  refine Lib.hid ?_
  have HM6 := Lib.hid hgo5.1
  clear HM4 hgo5
  go_wp2_with (go_at_call 85; refine (lk_key (v := ?_) HM6 ?_).mono ?_; rotate_left 1; exact HVW; rintro e w7 ⟨rfl, hgo7⟩; refine Hid.out ?_)
  refine Lib.hid ?_
  have HM8 := Lib.hid hgo7.1
  clear HM6 hgo7
  go_wp2_with (go_at_call 85; refine (lk_key (v := ?_) HM8 ?_).mono ?_; rotate_left 1; exact HVA; rintro e w9 ⟨rfl, hgo9⟩; refine Hid.out ?_)
  refine Lib.hid ?_
  have HM10 := Lib.hid hgo9.1
  clear HM8 hgo9
  go_wp2_with (go_at_call 85; refine (lk_key (v := ?_) HM10 ?_).mono ?_; rotate_left 1; exact HVA; rintro e w11 ⟨rfl, hgo11⟩; refine Hid.out ?_)
  refine Lib.hid ?_
  have HM12 := Lib.hid hgo11.1
  clear HM10 hgo11
  have hc1_13 := HM12.out.rd.sr.c1
  have hf1_13 := HM12.out.rd.sr.f 1
  have hwr_13 := HM12.out.wr (isK_lt HVA.out)
  have hgo13 := HM12.out.inc (isK_lt HVA.out)
  obtain ⟨w13, hw13⟩ : ∃ W, W = w11.setCell ⟨rb, 1, none⟩ (.int .i64 (((i : Nat) : Int) + 1)) := ⟨_, rfl⟩
  rw [← hw13] at hgo13
  have HW13 := Lib.hid hw13
  obtain ⟨i13, hi13⟩ : ∃ z, i + 1 = z := ⟨_, rfl⟩
  rw [hi13] at hgo13
  have HI13 := Lib.hid hi13
  have HM14 := Lib.hid hgo13.1
  clear HM12 hgo13 hw13 hi13
  have HP15 : Hid (Pg M i13 false (fun _ : Unit => True) (fun _ => (P l f 1 i13).bind fun a j => wt l sSemi j fun q => (P l f 1 q).bind fun e u => .ok (.mk 10 noT 0 [a, e]) u)) := by
    have e9 : i + 1 = i13 := by have h9 := HI13.out; omega
    rw [← e9]
    exact Lib.hid (HP0.out.pos _)
  have HRD16 := Lib.hid (HE.out w13 rb cp i13 a l false HM14.out.rd (fun hb => HFC.out.on (by have h1 := HI13.out; omega) (isK_lt HVA.out)))
  go_wp2_with (go_at_call 57; rw [← HW13.out]; refine (st_read HM14 HRD16.out).mono ?_; rintro e w16 ⟨i16, b16, L16, ⟨g16, c16, rfl, ho16, hgo16⟩, hk16, hr16⟩; refine Hid.out ?_)
  refine Lib.hid ?_
  have HM17 := Lib.hid hgo16.1
  have HO16 := Lib.hid ho16
  have HP16 := Lib.hid (HP15.out.read hr16.out)
  clear hc1_13 hf1_13 hwr_13 HP0 HM14 ho16 hgo16 HRD16 HP15
  have HGE16 : Hid (b16 = false → i + 1 < i16) := fun hb => by have h1 := (Rel.ge (HLT.out 1 _) hr16.out hb).2; have h2 := HI13.out; omega
  obtain ⟨v18, hv18⟩ : ∃ v, isS l (i16) [59] = v := ⟨_, rfl⟩
  have HV18 := Lib.hid hv18
  clear hv18
  go_wp2_with (go_at_call 89; refine (st_want (v := ?_) HM17 ?_).mono ?_; rotate_left 1; exact HV18; rintro e w18 ⟨rfl, hgo18⟩; refine Hid.out ?_)
  refine Lib.hid ?_
  have HM19 := Lib.hid hgo18.1
  have HO19e1 := Lib.hid (HO16.out.step hgo18.2 HRB.out)
  have HP18 := Lib.hid (HP16.out.want HV18.out)
  obtain ⟨i18, hi18⟩ : ∃ z, wtI b16 v18 i16 = z := ⟨_, rfl⟩
  obtain ⟨b18, hb18⟩ : ∃ z, wtB b16 v18 = z := ⟨_, rfl⟩
  rw [hi18, hb18] at HM19
  rw [hi18, hb18] at HP18
  have HI18 := Lib.hid hi18
  have HB18 := Lib.hid hb18
  clear HO16 HM17 HP16 hi18 hb18 hgo18
  have HRD20 := Lib.hid (HE.out w18 rb cp i18 a l b18 HM19.out.rd (fun hb => HFC.out.on (by have h1 := HB18.out; rw [hb] at h1; have h2 := wtB_false (i := 0) h1; have h3 := HGE16.out h2.1; have h4 := HI18.out; have h5 := (wtI_le (b := b16) (v := v18) (i := i16)).1; omega) (isK_lt HVA.out)))
  go_wp2_with (go_at_call 57; refine (st_read HM19 HRD20.out).mono ?_; rintro e w20 ⟨i20, b20, L20, ⟨g20, c20, rfl, ho20, hgo20⟩, hk20, hr20⟩; refine Hid.out ?_)
  refine Lib.hid ?_
  have HM21 := Lib.hid hgo20.1
  have HO21e1 := Lib.hid (HO19e1.out.step hgo20.2 HRB.out)
  have HO20 := Lib.hid ho20
  have HP20 := Lib.hid (HP18.out.read hr20.out)
  clear HO19e1 HM19 ho20 hgo20 HRD20 HP18
  go_wp2_with (go_at_call 88; refine (st_both HM21 HO21e1 HO20 hk16 (by omega) hk20 (by omega)).mono ?_; rintro e w22 ⟨L22, ⟨g22, c22, rfl, ho22, hgo22⟩, HL22⟩; refine Hid.out ?_)
  refine Lib.hid ?_
  have HM23 := Lib.hid hgo22.1
  have HO23e1 := Lib.hid (HO21e1.out.step hgo22.2 HRB.out)
  have HO23e2 := Lib.hid (HO20.out.step hgo22.2 HRB.out)
  have HO22 := Lib.hid ho22
  have HK22 : Hid (Okn 3001 L22) := by rw [HL22.out]; exact hk16.out.bo hk20.out
  clear HO21e1 HO20 HM21 ho22 hgo22
  go_wp2_with (go_at_call 82; refine (st_make HM23 10 0 HO22 HK22 (by omega)).mono ?_; rintro e w24 ⟨L24, ⟨g24, c24, rfl, ho24, hgo24⟩, HL24⟩; refine Hid.out ?_)
  refine Lib.hid ?_
  have HM25 := Lib.hid hgo24.1
  have HO25e1 := Lib.hid (HO23e1.out.step hgo24.2 HRB.out)
  have HO25e2 := Lib.hid (HO23e2.out.step hgo24.2 HRB.out)
  have HO25bo := Lib.hid (HO22.out.step hgo24.2 HRB.out)
  have HO24 := Lib.hid ho24
  have HK24 : Hid (Okn 3001 L24) := by rw [HL24.out]; exact HK22.out.mk 10 0 (by decide)
  clear HO23e1 HO23e2 HO22 HM23 ho24 hgo24
  have HF := Lib.hid (SRes.of HM25 HO24 HK24 (by decide) (Pg.fin HP20.out (T := fun x : (Unit × Tr) × Tr => .mk 10 noT 0 [x.1.2, x.2]) (fun _ x hx => by rw [HL24.out, HL22.out]; exact Xx.mk1 (Xx.bo hx.1.2.l1 hx.2.l1) 10 _ 0)))
  go_wp2_with fail
  go_ret
  exact HF.out

set_option maxRecDepth 100000 in
set_option maxHeartbeats 4000000 in
theorem ex_ass_w {l : Ls} {f : Nat} (hE : CE f) (hV : CV f) (hB : CB f) (hT : CT f) (hlt : Lt l f) {w : World} {rb cp i : Nat} {a : Option Addr} (h : Rd w rb a cp l i false) (hf : FC l i 1 (f + 1)) (HV0 : Hid (isW l (i + 0) = true)) (HV1 : Hid (isS l (i + 1) [58] = false)) (HVT : Hid (takesB l i = false)) (HVL : Hid (isK l i [108, 101, 116] = false)) (HVW : Hid (isK l i [119, 105, 116, 104] = false)) (HVA : Hid (isK l i [97, 115, 115, 101, 114, 116] = true)) :
    Calls Tryz.prog 57 #[.pointer (some ⟨rb, 0, none⟩)] w fun e w' => SRes w w' rb a cp l (P l (f + 1) 1 i) e := by
  have HE0 : Hid (P l (f + 1) 1 i = (P l f 1 (i + 1)).bind fun a j => wt l sSemi j fun q => (P l f 1 q).bind fun e u => .ok (.mk 10 noT 0 [a, e]) u) := by
    show _ = _
    rw [P_ex]
    unfold exprP
    rw [if_neg (by simp [(show isW l i = true from HV0.out), (show isS l (i + 1) [58] = false from HV1.out), (show takesB l i = false from HVT.out), (show isK l i [108, 101, 116] = false from HVL.out), (show isK l i [119, 105, 116, 104] = false from HVW.out), (show isK l i [97, 115, 115, 101, 114, 116] = true from HVA.out)]), if_neg (by simp [(show isW l i = true from HV0.out), (show isS l (i + 1) [58] = false from HV1.out), (show takesB l i = false from HVT.out), (show isK l i [108, 101, 116] = false from HVL.out), (show isK l i [119, 105, 116, 104] = false from HVW.out), (show isK l i [97, 115, 115, 101, 114, 116] = true from HVA.out)]), if_neg (by simp [(show isW l i = true from HV0.out), (show isS l (i + 1) [58] = false from HV1.out), (show takesB l i = false from HVT.out), (show isK l i [108, 101, 116] = false from HVL.out), (show isK l i [119, 105, 116, 104] = false from HVW.out), (show isK l i [97, 115, 115, 101, 114, 116] = true from HVA.out)]), if_neg (by simp [(show isW l i = true from HV0.out), (show isS l (i + 1) [58] = false from HV1.out), (show takesB l i = false from HVT.out), (show isK l i [108, 101, 116] = false from HVL.out), (show isK l i [119, 105, 116, 104] = false from HVW.out), (show isK l i [97, 115, 115, 101, 114, 116] = true from HVA.out)]), if_pos (by simp [(show isW l i = true from HV0.out), (show isS l (i + 1) [58] = false from HV1.out), (show takesB l i = false from HVT.out), (show isK l i [108, 101, 116] = false from HVL.out), (show isK l i [119, 105, 116, 104] = false from HVW.out), (show isK l i [97, 115, 115, 101, 114, 116] = true from HVA.out)])]
  obtain ⟨M, hM⟩ : ∃ M, P l (f + 1) 1 i = M := ⟨_, rfl⟩
  rw [hM] at HE0 ⊢
  clear hM
  have HP0 : Hid (Pg M i false (fun _ : Unit => True) (fun _ => (P l f 1 (i + 1)).bind fun a j => wt l sSemi j fun q => (P l f 1 q).bind fun e u => .ok (.mk 10 noT 0 [a, e]) u)) := ⟨(fun h => by cases h), fun _ => ⟨(), trivial, HE0.out⟩⟩
  have HM0 := Lib.hid (Mv.refl h)
  have hrb := h.sr.lt
  have HRB := Lib.hid hrb
  have HE := Lib.hid hE
  have HVV := Lib.hid hV
  have HBB := Lib.hid hB
  have HTT := Lib.hid hT
  have HLT := Lib.hid hlt
  have HFC := Lib.hid hf
  have c2 := h.sr.c2
  clear h hrb hE hV hB hT hlt hf HE0
  go_enter Tryz.func57, Tryz.ntmps57
  go_wp2_with (go_at_call 79; refine (lk_word (v := ?_) (k := ?_) HM0 ?_ ?_ ?_).mono ?_; rotate_left 2; exact HV0; exact rfl; decide; rintro e w1 ⟨rfl, hgo1⟩; refine Hid.out ?_)
  refine Lib.hid ?_
  have HM2 := Lib.hid hgo1.1
  clear hgo1
  clear c2
  go_wp2_with (go_at_call 80; refine (lk_is (v := ?_) (k := ?_) HM2 ?_ ?_ ?_).mono ?_; rotate_left 2; exact HV1; exact rfl; decide; rintro e w3 ⟨rfl, hgo3⟩; refine Hid.out ?_)
  refine Lib.hid ?_
  have HM4 := Lib.hid hgo3.1
  clear HM2 hgo3
  go_wp2_with (go_at_call 83; refine (lk_takes HM4 HVT).mono ?_; rintro e w5 ⟨rfl, hgo5⟩; refine Hid.out ?_)
  refine Lib.hid ?_
  have HM6 := Lib.hid hgo5.1
  clear HM4 hgo5
  go_wp2_with (go_at_call 85; refine (lk_key (v := ?_) HM6 ?_).mono ?_; rotate_left 1; exact HVL; rintro e w7 ⟨rfl, hgo7⟩; refine Hid.out ?_)
  refine Lib.hid ?_
  have HM8 := Lib.hid hgo7.1
  clear HM6 hgo7
  go_wp2_with (go_at_call 85; refine (lk_key (v := ?_) HM8 ?_).mono ?_; rotate_left 1; exact HVW; rintro e w9 ⟨rfl, hgo9⟩; refine Hid.out ?_)
  refine Lib.hid ?_
  have HM10 := Lib.hid hgo9.1
  clear HM8 hgo9
  go_wp2_with (go_at_call 85; refine (lk_key (v := ?_) HM10 ?_).mono ?_; rotate_left 1; exact HVA; rintro e w11 ⟨rfl, hgo11⟩; refine Hid.out ?_)
  refine Lib.hid ?_
  have HM12 := Lib.hid hgo11.1
  clear HM10 hgo11
  go_wp2_with (go_at_call 85; refine (lk_key (v := ?_) HM12 ?_).mono ?_; rotate_left 1; exact HVA; rintro e w13 ⟨rfl, hgo13⟩; refine Hid.out ?_)
  refine Lib.hid ?_
  have HM14 := Lib.hid hgo13.1
  clear HM12 hgo13
  have hc1_15 := HM14.out.rd.sr.c1
  have hf1_15 := HM14.out.rd.sr.f 1
  have hwr_15 := HM14.out.wr (isK_lt HVA.out)
  have hgo15 := HM14.out.inc (isK_lt HVA.out)
  obtain ⟨w15, hw15⟩ : ∃ W, W = w13.setCell ⟨rb, 1, none⟩ (.int .i64 (((i : Nat) : Int) + 1)) := ⟨_, rfl⟩
  rw [← hw15] at hgo15
  have HW15 := Lib.hid hw15
  obtain ⟨i15, hi15⟩ : ∃ z, i + 1 = z := ⟨_, rfl⟩
  rw [hi15] at hgo15
  have HI15 := Lib.hid hi15
  have HM16 := Lib.hid hgo15.1
  clear HM14 hgo15 hw15 hi15
  have HP17 : Hid (Pg M i15 false (fun _ : Unit => True) (fun _ => (P l f 1 i15).bind fun a j => wt l sSemi j fun q => (P l f 1 q).bind fun e u => .ok (.mk 10 noT 0 [a, e]) u)) := by
    have e9 : i + 1 = i15 := by have h9 := HI15.out; omega
    rw [← e9]
    exact Lib.hid (HP0.out.pos _)
  have HRD18 := Lib.hid (HE.out w15 rb cp i15 a l false HM16.out.rd (fun hb => HFC.out.on (by have h1 := HI15.out; omega) (isK_lt HVA.out)))
  go_wp2_with (go_at_call 57; rw [← HW15.out]; refine (st_read HM16 HRD18.out).mono ?_; rintro e w18 ⟨i18, b18, L18, ⟨g18, c18, rfl, ho18, hgo18⟩, hk18, hr18⟩; refine Hid.out ?_)
  refine Lib.hid ?_
  have HM19 := Lib.hid hgo18.1
  have HO18 := Lib.hid ho18
  have HP18 := Lib.hid (HP17.out.read hr18.out)
  clear hc1_15 hf1_15 hwr_15 HP0 HM16 ho18 hgo18 HRD18 HP17
  have HGE18 : Hid (b18 = false → i + 1 < i18) := fun hb => by have h1 := (Rel.ge (HLT.out 1 _) hr18.out hb).2; have h2 := HI15.out; omega
  obtain ⟨v20, hv20⟩ : ∃ v, isS l (i18) [59] = v := ⟨_, rfl⟩
  have HV20 := Lib.hid hv20
  clear hv20
  go_wp2_with (go_at_call 89; refine (st_want (v := ?_) HM19 ?_).mono ?_; rotate_left 1; exact HV20; rintro e w20 ⟨rfl, hgo20⟩; refine Hid.out ?_)
  refine Lib.hid ?_
  have HM21 := Lib.hid hgo20.1
  have HO21e1 := Lib.hid (HO18.out.step hgo20.2 HRB.out)
  have HP20 := Lib.hid (HP18.out.want HV20.out)
  obtain ⟨i20, hi20⟩ : ∃ z, wtI b18 v20 i18 = z := ⟨_, rfl⟩
  obtain ⟨b20, hb20⟩ : ∃ z, wtB b18 v20 = z := ⟨_, rfl⟩
  rw [hi20, hb20] at HM21
  rw [hi20, hb20] at HP20
  have HI20 := Lib.hid hi20
  have HB20 := Lib.hid hb20
  clear HO18 HM19 HP18 hi20 hb20 hgo20
  have HRD22 := Lib.hid (HE.out w20 rb cp i20 a l b20 HM21.out.rd (fun hb => HFC.out.on (by have h1 := HB20.out; rw [hb] at h1; have h2 := wtB_false (i := 0) h1; have h3 := HGE18.out h2.1; have h4 := HI20.out; have h5 := (wtI_le (b := b18) (v := v20) (i := i18)).1; omega) (isK_lt HVA.out)))
  go_wp2_with (go_at_call 57; refine (st_read HM21 HRD22.out).mono ?_; rintro e w22 ⟨i22, b22, L22, ⟨g22, c22, rfl, ho22, hgo22⟩, hk22, hr22⟩; refine Hid.out ?_)
  refine Lib.hid ?_
  have HM23 := Lib.hid hgo22.1
  have HO23e1 := Lib.hid (HO21e1.out.step hgo22.2 HRB.out)
  have HO22 := Lib.hid ho22
  have HP22 := Lib.hid (HP20.out.read hr22.out)
  clear HO21e1 HM21 ho22 hgo22 HRD22 HP20
  go_wp2_with (go_at_call 88; refine (st_both HM23 HO23e1 HO22 hk18 (by omega) hk22 (by omega)).mono ?_; rintro e w24 ⟨L24, ⟨g24, c24, rfl, ho24, hgo24⟩, HL24⟩; refine Hid.out ?_)
  refine Lib.hid ?_
  have HM25 := Lib.hid hgo24.1
  have HO25e1 := Lib.hid (HO23e1.out.step hgo24.2 HRB.out)
  have HO25e2 := Lib.hid (HO22.out.step hgo24.2 HRB.out)
  have HO24 := Lib.hid ho24
  have HK24 : Hid (Okn 3001 L24) := by rw [HL24.out]; exact hk18.out.bo hk22.out
  clear HO23e1 HO22 HM23 ho24 hgo24
  go_wp2_with (go_at_call 82; refine (st_make HM25 10 0 HO24 HK24 (by omega)).mono ?_; rintro e w26 ⟨L26, ⟨g26, c26, rfl, ho26, hgo26⟩, HL26⟩; refine Hid.out ?_)
  refine Lib.hid ?_
  have HM27 := Lib.hid hgo26.1
  have HO27e1 := Lib.hid (HO25e1.out.step hgo26.2 HRB.out)
  have HO27e2 := Lib.hid (HO25e2.out.step hgo26.2 HRB.out)
  have HO27bo := Lib.hid (HO24.out.step hgo26.2 HRB.out)
  have HO26 := Lib.hid ho26
  have HK26 : Hid (Okn 3001 L26) := by rw [HL26.out]; exact HK24.out.mk 10 0 (by decide)
  clear HO25e1 HO25e2 HO24 HM25 ho26 hgo26
  have HF := Lib.hid (SRes.of HM27 HO26 HK26 (by decide) (Pg.fin HP22.out (T := fun x : (Unit × Tr) × Tr => .mk 10 noT 0 [x.1.2, x.2]) (fun _ x hx => by rw [HL26.out, HL24.out]; exact Xx.mk1 (Xx.bo hx.1.2.l1 hx.2.l1) 10 _ 0)))
  go_wp2_with fail
  go_ret
  exact HF.out

set_option maxRecDepth 100000 in
set_option maxHeartbeats 4000000 in
theorem ex_if {l : Ls} {f : Nat} (hE : CE f) (hV : CV f) (hB : CB f) (hT : CT f) (hlt : Lt l f) {w : World} {rb cp i : Nat} {a : Option Addr} (h : Rd w rb a cp l i false) (hf : FC l i 1 (f + 1)) (HV0 : Hid (isW l (i + 0) = false)) (HVT : Hid (takesB l i = false)) (HVL : Hid (isK l i [108, 101, 116] = false)) (HVW : Hid (isK l i [119, 105, 116, 104] = false)) (HVA : Hid (isK l i [97, 115, 115, 101, 114, 116] = false)) (HVI : Hid (isK l i [105, 102] = true)) :
    Calls Tryz.prog 57 #[.pointer (some ⟨rb, 0, none⟩)] w fun e w' => SRes w w' rb a cp l (P l (f + 1) 1 i) e := by
  have HE0 : Hid (P l (f + 1) 1 i = (P l f 1 (i + 1)).bind fun a j => wk l kThen j fun q => (P l f 1 q).bind fun b u => wk l kElse u fun r => (P l f 1 r).bind fun e x => .ok (.mk 12 noT 0 [a, b, e]) x) := by
    show _ = _
    rw [P_ex]
    unfold exprP
    rw [if_neg (by simp [(show isW l i = false from HV0.out), (show takesB l i = false from HVT.out), (show isK l i [108, 101, 116] = false from HVL.out), (show isK l i [119, 105, 116, 104] = false from HVW.out), (show isK l i [97, 115, 115, 101, 114, 116] = false from HVA.out), (show isK l i [105, 102] = true from HVI.out)]), if_neg (by simp [(show isW l i = false from HV0.out), (show takesB l i = false from HVT.out), (show isK l i [108, 101, 116] = false from HVL.out), (show isK l i [119, 105, 116, 104] = false from HVW.out), (show isK l i [97, 115, 115, 101, 114, 116] = false from HVA.out), (show isK l i [105, 102] = true from HVI.out)]), if_neg (by simp [(show isW l i = false from HV0.out), (show takesB l i = false from HVT.out), (show isK l i [108, 101, 116] = false from HVL.out), (show isK l i [119, 105, 116, 104] = false from HVW.out), (show isK l i [97, 115, 115, 101, 114, 116] = false from HVA.out), (show isK l i [105, 102] = true from HVI.out)]), if_neg (by simp [(show isW l i = false from HV0.out), (show takesB l i = false from HVT.out), (show isK l i [108, 101, 116] = false from HVL.out), (show isK l i [119, 105, 116, 104] = false from HVW.out), (show isK l i [97, 115, 115, 101, 114, 116] = false from HVA.out), (show isK l i [105, 102] = true from HVI.out)]), if_neg (by simp [(show isW l i = false from HV0.out), (show takesB l i = false from HVT.out), (show isK l i [108, 101, 116] = false from HVL.out), (show isK l i [119, 105, 116, 104] = false from HVW.out), (show isK l i [97, 115, 115, 101, 114, 116] = false from HVA.out), (show isK l i [105, 102] = true from HVI.out)]), if_pos (by simp [(show isW l i = false from HV0.out), (show takesB l i = false from HVT.out), (show isK l i [108, 101, 116] = false from HVL.out), (show isK l i [119, 105, 116, 104] = false from HVW.out), (show isK l i [97, 115, 115, 101, 114, 116] = false from HVA.out), (show isK l i [105, 102] = true from HVI.out)])]
  obtain ⟨M, hM⟩ : ∃ M, P l (f + 1) 1 i = M := ⟨_, rfl⟩
  rw [hM] at HE0 ⊢
  clear hM
  have HP0 : Hid (Pg M i false (fun _ : Unit => True) (fun _ => (P l f 1 (i + 1)).bind fun a j => wk l kThen j fun q => (P l f 1 q).bind fun b u => wk l kElse u fun r => (P l f 1 r).bind fun e x => .ok (.mk 12 noT 0 [a, b, e]) x)) := ⟨(fun h => by cases h), fun _ => ⟨(), trivial, HE0.out⟩⟩
  have HM0 := Lib.hid (Mv.refl h)
  have hrb := h.sr.lt
  have HRB := Lib.hid hrb
  have HE := Lib.hid hE
  have HVV := Lib.hid hV
  have HBB := Lib.hid hB
  have HTT := Lib.hid hT
  have HLT := Lib.hid hlt
  have HFC := Lib.hid hf
  have c2 := h.sr.c2
  clear h hrb hE hV hB hT hlt hf HE0
  go_enter Tryz.func57, Tryz.ntmps57
  go_wp2_with (go_at_call 79; refine (lk_word (v := ?_) (k := ?_) HM0 ?_ ?_ ?_).mono ?_; rotate_left 2; exact HV0; exact rfl; decide; rintro e w1 ⟨rfl, hgo1⟩; refine Hid.out ?_)
  refine Lib.hid ?_
  have HM2 := Lib.hid hgo1.1
  clear hgo1
  clear c2
  go_wp2_with (go_at_call 83; refine (lk_takes HM2 HVT).mono ?_; rintro e w3 ⟨rfl, hgo3⟩; refine Hid.out ?_)
  refine Lib.hid ?_
  have HM4 := Lib.hid hgo3.1
  clear HM2 hgo3
  go_wp2_with (go_at_call 85; refine (lk_key (v := ?_) HM4 ?_).mono ?_; rotate_left 1; exact HVL; rintro e w5 ⟨rfl, hgo5⟩; refine Hid.out ?_)
  refine Lib.hid ?_
  have HM6 := Lib.hid hgo5.1
  clear HM4 hgo5
  go_wp2_with (go_at_call 85; refine (lk_key (v := ?_) HM6 ?_).mono ?_; rotate_left 1; exact HVW; rintro e w7 ⟨rfl, hgo7⟩; refine Hid.out ?_)
  refine Lib.hid ?_
  have HM8 := Lib.hid hgo7.1
  clear HM6 hgo7
  go_wp2_with (go_at_call 85; refine (lk_key (v := ?_) HM8 ?_).mono ?_; rotate_left 1; exact HVA; rintro e w9 ⟨rfl, hgo9⟩; refine Hid.out ?_)
  refine Lib.hid ?_
  have HM10 := Lib.hid hgo9.1
  clear HM8 hgo9
  go_wp2_with (go_at_call 85; refine (lk_key (v := ?_) HM10 ?_).mono ?_; rotate_left 1; exact HVI; rintro e w11 ⟨rfl, hgo11⟩; refine Hid.out ?_)
  refine Lib.hid ?_
  have HM12 := Lib.hid hgo11.1
  clear HM10 hgo11
  have hc1_13 := HM12.out.rd.sr.c1
  have hf1_13 := HM12.out.rd.sr.f 1
  have hwr_13 := HM12.out.wr (isK_lt HVI.out)
  have hgo13 := HM12.out.inc (isK_lt HVI.out)
  obtain ⟨w13, hw13⟩ : ∃ W, W = w11.setCell ⟨rb, 1, none⟩ (.int .i64 (((i : Nat) : Int) + 1)) := ⟨_, rfl⟩
  rw [← hw13] at hgo13
  have HW13 := Lib.hid hw13
  obtain ⟨i13, hi13⟩ : ∃ z, i + 1 = z := ⟨_, rfl⟩
  rw [hi13] at hgo13
  have HI13 := Lib.hid hi13
  have HM14 := Lib.hid hgo13.1
  clear HM12 hgo13 hw13 hi13
  have HP15 : Hid (Pg M i13 false (fun _ : Unit => True) (fun _ => (P l f 1 i13).bind fun a j => wk l kThen j fun q => (P l f 1 q).bind fun b u => wk l kElse u fun r => (P l f 1 r).bind fun e x => .ok (.mk 12 noT 0 [a, b, e]) x)) := by
    have e9 : i + 1 = i13 := by have h9 := HI13.out; omega
    rw [← e9]
    exact Lib.hid (HP0.out.pos _)
  have HRD16 := Lib.hid (HE.out w13 rb cp i13 a l false HM14.out.rd (fun hb => HFC.out.on (by have h1 := HI13.out; omega) (isK_lt HVI.out)))
  go_wp2_with (go_at_call 57; rw [← HW13.out]; refine (st_read HM14 HRD16.out).mono ?_; rintro e w16 ⟨i16, b16, L16, ⟨g16, c16, rfl, ho16, hgo16⟩, hk16, hr16⟩; refine Hid.out ?_)
  refine Lib.hid ?_
  have HM17 := Lib.hid hgo16.1
  have HO16 := Lib.hid ho16
  have HP16 := Lib.hid (HP15.out.read hr16.out)
  clear hc1_13 hf1_13 hwr_13 HP0 HM14 ho16 hgo16 HRD16 HP15
  have HGE16 : Hid (b16 = false → i + 1 < i16) := fun hb => by have h1 := (Rel.ge (HLT.out 1 _) hr16.out hb).2; have h2 := HI13.out; omega
  obtain ⟨v18, hv18⟩ : ∃ v, isK l (i16) [116, 104, 101, 110] = v := ⟨_, rfl⟩
  have HV18 := Lib.hid hv18
  clear hv18
  go_wp2_with (go_at_call 87; refine (st_wantk (v := ?_) HM17 ?_).mono ?_; rotate_left 1; exact HV18; rintro e w18 ⟨rfl, hgo18⟩; refine Hid.out ?_)
  refine Lib.hid ?_
  have HM19 := Lib.hid hgo18.1
  have HO19e1 := Lib.hid (HO16.out.step hgo18.2 HRB.out)
  have HP18 := Lib.hid (HP16.out.wantk HV18.out)
  obtain ⟨i18, hi18⟩ : ∃ z, wtI b16 v18 i16 = z := ⟨_, rfl⟩
  obtain ⟨b18, hb18⟩ : ∃ z, wtB b16 v18 = z := ⟨_, rfl⟩
  rw [hi18, hb18] at HM19
  rw [hi18, hb18] at HP18
  have HI18 := Lib.hid hi18
  have HB18 := Lib.hid hb18
  clear HO16 HM17 HP16 hi18 hb18 hgo18
  have HRD20 := Lib.hid (HE.out w18 rb cp i18 a l b18 HM19.out.rd (fun hb => HFC.out.on (by have h1 := HB18.out; rw [hb] at h1; have h2 := wtB_false (i := 0) h1; have h3 := HGE16.out h2.1; have h4 := HI18.out; have h5 := (wtI_le (b := b16) (v := v18) (i := i16)).1; omega) (isK_lt HVI.out)))
  go_wp2_with (go_at_call 57; refine (st_read HM19 HRD20.out).mono ?_; rintro e w20 ⟨i20, b20, L20, ⟨g20, c20, rfl, ho20, hgo20⟩, hk20, hr20⟩; refine Hid.out ?_)
  refine Lib.hid ?_
  have HM21 := Lib.hid hgo20.1
  have HO21e1 := Lib.hid (HO19e1.out.step hgo20.2 HRB.out)
  have HO20 := Lib.hid ho20
  have HP20 := Lib.hid (HP18.out.read hr20.out)
  clear HO19e1 HM19 ho20 hgo20 HRD20 HP18
  have HGE20 : Hid (b20 = false → i + 1 < i20) := fun hb => by have h0 := Rel.ge (HLT.out 1 i18) hr20.out hb; have h1 := HB18.out; rw [h0.1] at h1; have h2 := wtB_false (i := 0) h1; have h3 := HGE16.out h2.1; have h4 := HI18.out; have h5 := (wtI_le (b := b16) (v := v18) (i := i16)).1; omega
  obtain ⟨v22, hv22⟩ : ∃ v, isK l (i20) [101, 108, 115, 101] = v := ⟨_, rfl⟩
  have HV22 := Lib.hid hv22
  clear hv22
  go_wp2_with (go_at_call 87; refine (st_wantk (v := ?_) HM21 ?_).mono ?_; rotate_left 1; exact HV22; rintro e w22 ⟨rfl, hgo22⟩; refine Hid.out ?_)
  refine Lib.hid ?_
  have HM23 := Lib.hid hgo22.1
  have HO23e1 := Lib.hid (HO21e1.out.step hgo22.2 HRB.out)
  have HO23e2 := Lib.hid (HO20.out.step hgo22.2 HRB.out)
  have HP22 := Lib.hid (HP20.out.wantk HV22.out)
  obtain ⟨i22, hi22⟩ : ∃ z, wtI b20 v22 i20 = z := ⟨_, rfl⟩
  obtain ⟨b22, hb22⟩ : ∃ z, wtB b20 v22 = z := ⟨_, rfl⟩
  rw [hi22, hb22] at HM23
  rw [hi22, hb22] at HP22
  have HI22 := Lib.hid hi22
  have HB22 := Lib.hid hb22
  clear HO21e1 HO20 HM21 HP20 hi22 hb22 hgo22
  go_wp2_with (go_at_call 88; refine (st_both HM23 HO23e1 HO23e2 hk16 (by omega) hk20 (by omega)).mono ?_; rintro e w24 ⟨L24, ⟨g24, c24, rfl, ho24, hgo24⟩, HL24⟩; refine Hid.out ?_)
  refine Lib.hid ?_
  have HM25 := Lib.hid hgo24.1
  have HO25e1 := Lib.hid (HO23e1.out.step hgo24.2 HRB.out)
  have HO25e2 := Lib.hid (HO23e2.out.step hgo24.2 HRB.out)
  have HO24 := Lib.hid ho24
  have HK24 : Hid (Okn 3001 L24) := by rw [HL24.out]; exact hk16.out.bo hk20.out
  clear HO23e1 HO23e2 HM23 ho24 hgo24
  have HRD26 := Lib.hid (HE.out w24 rb cp i22 a l b22 HM25.out.rd (fun hb => HFC.out.on (by have h1 := HB22.out; rw [hb] at h1; have h2 := wtB_false (i := 0) h1; have h3 := HGE20.out h2.1; have h4 := HI22.out; have h5 := (wtI_le (b := b20) (v := v22) (i := i20)).1; omega) (isK_lt HVI.out)))
  go_wp2_with (go_at_call 57; refine (st_read HM25 HRD26.out).mono ?_; rintro e w26 ⟨i26, b26, L26, ⟨g26, c26, rfl, ho26, hgo26⟩, hk26, hr26⟩; refine Hid.out ?_)
  refine Lib.hid ?_
  have HM27 := Lib.hid hgo26.1
  have HO27e1 := Lib.hid (HO25e1.out.step hgo26.2 HRB.out)
  have HO27e2 := Lib.hid (HO25e2.out.step hgo26.2 HRB.out)
  have HO27bo := Lib.hid (HO24.out.step hgo26.2 HRB.out)
  have HO26 := Lib.hid ho26
  have HP26 := Lib.hid (HP22.out.read hr26.out)
  clear HO25e1 HO25e2 HO24 HM25 ho26 hgo26 HRD26 HP22
  go_wp2_with (go_at_call 88; refine (st_both HM27 HO27bo HO26 HK24 (by omega) hk26 (by omega)).mono ?_; rintro e w28 ⟨L28, ⟨g28, c28, rfl, ho28, hgo28⟩, HL28⟩; refine Hid.out ?_)
  refine Lib.hid ?_
  have HM29 := Lib.hid hgo28.1
  have HO29e1 := Lib.hid (HO27e1.out.step hgo28.2 HRB.out)
  have HO29e2 := Lib.hid (HO27e2.out.step hgo28.2 HRB.out)
  have HO29bo := Lib.hid (HO27bo.out.step hgo28.2 HRB.out)
  have HO29e3 := Lib.hid (HO26.out.step hgo28.2 HRB.out)
  have HO28 := Lib.hid ho28
  have HK28 : Hid (Okn 3001 L28) := by rw [HL28.out]; exact HK24.out.bo hk26.out
  clear HO27e1 HO27e2 HO27bo HO26 HM27 ho28 hgo28
  go_wp2_with (go_at_call 82; refine (st_make HM29 12 0 HO28 HK28 (by omega)).mono ?_; rintro e w30 ⟨L30, ⟨g30, c30, rfl, ho30, hgo30⟩, HL30⟩; refine Hid.out ?_)
  refine Lib.hid ?_
  have HM31 := Lib.hid hgo30.1
  have HO31e1 := Lib.hid (HO29e1.out.step hgo30.2 HRB.out)
  have HO31e2 := Lib.hid (HO29e2.out.step hgo30.2 HRB.out)
  have HO31bo := Lib.hid (HO29bo.out.step hgo30.2 HRB.out)
  have HO31e3 := Lib.hid (HO29e3.out.step hgo30.2 HRB.out)
  have HO31bo2 := Lib.hid (HO28.out.step hgo30.2 HRB.out)
  have HO30 := Lib.hid ho30
  have HK30 : Hid (Okn 3001 L30) := by rw [HL30.out]; exact HK28.out.mk 12 0 (by decide)
  clear HO29e1 HO29e2 HO29bo HO29e3 HO28 HM29 ho30 hgo30
  have HF := Lib.hid (SRes.of HM31 HO30 HK30 (by decide) (Pg.fin HP26.out (T := fun x : ((Unit × Tr) × Tr) × Tr => .mk 12 noT 0 [x.1.1.2, x.1.2, x.2]) (fun _ x hx => by rw [HL30.out, HL28.out, HL24.out]; exact Xx.mk1 (Xx.bo (Xx.bo hx.1.1.2.l1 hx.1.2.l1) hx.2.l1) 12 _ 0)))
  go_wp2_with fail
  go_ret
  exact HF.out

set_option maxRecDepth 100000 in
set_option maxHeartbeats 4000000 in
theorem ex_if_w {l : Ls} {f : Nat} (hE : CE f) (hV : CV f) (hB : CB f) (hT : CT f) (hlt : Lt l f) {w : World} {rb cp i : Nat} {a : Option Addr} (h : Rd w rb a cp l i false) (hf : FC l i 1 (f + 1)) (HV0 : Hid (isW l (i + 0) = true)) (HV1 : Hid (isS l (i + 1) [58] = false)) (HVT : Hid (takesB l i = false)) (HVL : Hid (isK l i [108, 101, 116] = false)) (HVW : Hid (isK l i [119, 105, 116, 104] = false)) (HVA : Hid (isK l i [97, 115, 115, 101, 114, 116] = false)) (HVI : Hid (isK l i [105, 102] = true)) :
    Calls Tryz.prog 57 #[.pointer (some ⟨rb, 0, none⟩)] w fun e w' => SRes w w' rb a cp l (P l (f + 1) 1 i) e := by
  have HE0 : Hid (P l (f + 1) 1 i = (P l f 1 (i + 1)).bind fun a j => wk l kThen j fun q => (P l f 1 q).bind fun b u => wk l kElse u fun r => (P l f 1 r).bind fun e x => .ok (.mk 12 noT 0 [a, b, e]) x) := by
    show _ = _
    rw [P_ex]
    unfold exprP
    rw [if_neg (by simp [(show isW l i = true from HV0.out), (show isS l (i + 1) [58] = false from HV1.out), (show takesB l i = false from HVT.out), (show isK l i [108, 101, 116] = false from HVL.out), (show isK l i [119, 105, 116, 104] = false from HVW.out), (show isK l i [97, 115, 115, 101, 114, 116] = false from HVA.out), (show isK l i [105, 102] = true from HVI.out)]), if_neg (by simp [(show isW l i = true from HV0.out), (show isS l (i + 1) [58] = false from HV1.out), (show takesB l i = false from HVT.out), (show isK l i [108, 101, 116] = false from HVL.out), (show isK l i [119, 105, 116, 104] = false from HVW.out), (show isK l i [97, 115, 115, 101, 114, 116] = false from HVA.out), (show isK l i [105, 102] = true from HVI.out)]), if_neg (by simp [(show isW l i = true from HV0.out), (show isS l (i + 1) [58] = false from HV1.out), (show takesB l i = false from HVT.out), (show isK l i [108, 101, 116] = false from HVL.out), (show isK l i [119, 105, 116, 104] = false from HVW.out), (show isK l i [97, 115, 115, 101, 114, 116] = false from HVA.out), (show isK l i [105, 102] = true from HVI.out)]), if_neg (by simp [(show isW l i = true from HV0.out), (show isS l (i + 1) [58] = false from HV1.out), (show takesB l i = false from HVT.out), (show isK l i [108, 101, 116] = false from HVL.out), (show isK l i [119, 105, 116, 104] = false from HVW.out), (show isK l i [97, 115, 115, 101, 114, 116] = false from HVA.out), (show isK l i [105, 102] = true from HVI.out)]), if_neg (by simp [(show isW l i = true from HV0.out), (show isS l (i + 1) [58] = false from HV1.out), (show takesB l i = false from HVT.out), (show isK l i [108, 101, 116] = false from HVL.out), (show isK l i [119, 105, 116, 104] = false from HVW.out), (show isK l i [97, 115, 115, 101, 114, 116] = false from HVA.out), (show isK l i [105, 102] = true from HVI.out)]), if_pos (by simp [(show isW l i = true from HV0.out), (show isS l (i + 1) [58] = false from HV1.out), (show takesB l i = false from HVT.out), (show isK l i [108, 101, 116] = false from HVL.out), (show isK l i [119, 105, 116, 104] = false from HVW.out), (show isK l i [97, 115, 115, 101, 114, 116] = false from HVA.out), (show isK l i [105, 102] = true from HVI.out)])]
  obtain ⟨M, hM⟩ : ∃ M, P l (f + 1) 1 i = M := ⟨_, rfl⟩
  rw [hM] at HE0 ⊢
  clear hM
  have HP0 : Hid (Pg M i false (fun _ : Unit => True) (fun _ => (P l f 1 (i + 1)).bind fun a j => wk l kThen j fun q => (P l f 1 q).bind fun b u => wk l kElse u fun r => (P l f 1 r).bind fun e x => .ok (.mk 12 noT 0 [a, b, e]) x)) := ⟨(fun h => by cases h), fun _ => ⟨(), trivial, HE0.out⟩⟩
  have HM0 := Lib.hid (Mv.refl h)
  have hrb := h.sr.lt
  have HRB := Lib.hid hrb
  have HE := Lib.hid hE
  have HVV := Lib.hid hV
  have HBB := Lib.hid hB
  have HTT := Lib.hid hT
  have HLT := Lib.hid hlt
  have HFC := Lib.hid hf
  have c2 := h.sr.c2
  clear h hrb hE hV hB hT hlt hf HE0
  go_enter Tryz.func57, Tryz.ntmps57
  go_wp2_with (go_at_call 79; refine (lk_word (v := ?_) (k := ?_) HM0 ?_ ?_ ?_).mono ?_; rotate_left 2; exact HV0; exact rfl; decide; rintro e w1 ⟨rfl, hgo1⟩; refine Hid.out ?_)
  refine Lib.hid ?_
  have HM2 := Lib.hid hgo1.1
  clear hgo1
  clear c2
  go_wp2_with (go_at_call 80; refine (lk_is (v := ?_) (k := ?_) HM2 ?_ ?_ ?_).mono ?_; rotate_left 2; exact HV1; exact rfl; decide; rintro e w3 ⟨rfl, hgo3⟩; refine Hid.out ?_)
  refine Lib.hid ?_
  have HM4 := Lib.hid hgo3.1
  clear HM2 hgo3
  go_wp2_with (go_at_call 83; refine (lk_takes HM4 HVT).mono ?_; rintro e w5 ⟨rfl, hgo5⟩; refine Hid.out ?_)
  refine Lib.hid ?_
  have HM6 := Lib.hid hgo5.1
  clear HM4 hgo5
  go_wp2_with (go_at_call 85; refine (lk_key (v := ?_) HM6 ?_).mono ?_; rotate_left 1; exact HVL; rintro e w7 ⟨rfl, hgo7⟩; refine Hid.out ?_)
  refine Lib.hid ?_
  have HM8 := Lib.hid hgo7.1
  clear HM6 hgo7
  go_wp2_with (go_at_call 85; refine (lk_key (v := ?_) HM8 ?_).mono ?_; rotate_left 1; exact HVW; rintro e w9 ⟨rfl, hgo9⟩; refine Hid.out ?_)
  refine Lib.hid ?_
  have HM10 := Lib.hid hgo9.1
  clear HM8 hgo9
  go_wp2_with (go_at_call 85; refine (lk_key (v := ?_) HM10 ?_).mono ?_; rotate_left 1; exact HVA; rintro e w11 ⟨rfl, hgo11⟩; refine Hid.out ?_)
  refine Lib.hid ?_
  have HM12 := Lib.hid hgo11.1
  clear HM10 hgo11
  go_wp2_with (go_at_call 85; refine (lk_key (v := ?_) HM12 ?_).mono ?_; rotate_left 1; exact HVI; rintro e w13 ⟨rfl, hgo13⟩; refine Hid.out ?_)
  refine Lib.hid ?_
  have HM14 := Lib.hid hgo13.1
  clear HM12 hgo13
  have hc1_15 := HM14.out.rd.sr.c1
  have hf1_15 := HM14.out.rd.sr.f 1
  have hwr_15 := HM14.out.wr (isK_lt HVI.out)
  have hgo15 := HM14.out.inc (isK_lt HVI.out)
  obtain ⟨w15, hw15⟩ : ∃ W, W = w13.setCell ⟨rb, 1, none⟩ (.int .i64 (((i : Nat) : Int) + 1)) := ⟨_, rfl⟩
  rw [← hw15] at hgo15
  have HW15 := Lib.hid hw15
  obtain ⟨i15, hi15⟩ : ∃ z, i + 1 = z := ⟨_, rfl⟩
  rw [hi15] at hgo15
  have HI15 := Lib.hid hi15
  have HM16 := Lib.hid hgo15.1
  clear HM14 hgo15 hw15 hi15
  have HP17 : Hid (Pg M i15 false (fun _ : Unit => True) (fun _ => (P l f 1 i15).bind fun a j => wk l kThen j fun q => (P l f 1 q).bind fun b u => wk l kElse u fun r => (P l f 1 r).bind fun e x => .ok (.mk 12 noT 0 [a, b, e]) x)) := by
    have e9 : i + 1 = i15 := by have h9 := HI15.out; omega
    rw [← e9]
    exact Lib.hid (HP0.out.pos _)
  have HRD18 := Lib.hid (HE.out w15 rb cp i15 a l false HM16.out.rd (fun hb => HFC.out.on (by have h1 := HI15.out; omega) (isK_lt HVI.out)))
  go_wp2_with (go_at_call 57; rw [← HW15.out]; refine (st_read HM16 HRD18.out).mono ?_; rintro e w18 ⟨i18, b18, L18, ⟨g18, c18, rfl, ho18, hgo18⟩, hk18, hr18⟩; refine Hid.out ?_)
  refine Lib.hid ?_
  have HM19 := Lib.hid hgo18.1
  have HO18 := Lib.hid ho18
  have HP18 := Lib.hid (HP17.out.read hr18.out)
  clear hc1_15 hf1_15 hwr_15 HP0 HM16 ho18 hgo18 HRD18 HP17
  have HGE18 : Hid (b18 = false → i + 1 < i18) := fun hb => by have h1 := (Rel.ge (HLT.out 1 _) hr18.out hb).2; have h2 := HI15.out; omega
  obtain ⟨v20, hv20⟩ : ∃ v, isK l (i18) [116, 104, 101, 110] = v := ⟨_, rfl⟩
  have HV20 := Lib.hid hv20
  clear hv20
  go_wp2_with (go_at_call 87; refine (st_wantk (v := ?_) HM19 ?_).mono ?_; rotate_left 1; exact HV20; rintro e w20 ⟨rfl, hgo20⟩; refine Hid.out ?_)
  refine Lib.hid ?_
  have HM21 := Lib.hid hgo20.1
  have HO21e1 := Lib.hid (HO18.out.step hgo20.2 HRB.out)
  have HP20 := Lib.hid (HP18.out.wantk HV20.out)
  obtain ⟨i20, hi20⟩ : ∃ z, wtI b18 v20 i18 = z := ⟨_, rfl⟩
  obtain ⟨b20, hb20⟩ : ∃ z, wtB b18 v20 = z := ⟨_, rfl⟩
  rw [hi20, hb20] at HM21
  rw [hi20, hb20] at HP20
  have HI20 := Lib.hid hi20
  have HB20 := Lib.hid hb20
  clear HO18 HM19 HP18 hi20 hb20 hgo20
  have HRD22 := Lib.hid (HE.out w20 rb cp i20 a l b20 HM21.out.rd (fun hb => HFC.out.on (by have h1 := HB20.out; rw [hb] at h1; have h2 := wtB_false (i := 0) h1; have h3 := HGE18.out h2.1; have h4 := HI20.out; have h5 := (wtI_le (b := b18) (v := v20) (i := i18)).1; omega) (isK_lt HVI.out)))
  go_wp2_with (go_at_call 57; refine (st_read HM21 HRD22.out).mono ?_; rintro e w22 ⟨i22, b22, L22, ⟨g22, c22, rfl, ho22, hgo22⟩, hk22, hr22⟩; refine Hid.out ?_)
  refine Lib.hid ?_
  have HM23 := Lib.hid hgo22.1
  have HO23e1 := Lib.hid (HO21e1.out.step hgo22.2 HRB.out)
  have HO22 := Lib.hid ho22
  have HP22 := Lib.hid (HP20.out.read hr22.out)
  clear HO21e1 HM21 ho22 hgo22 HRD22 HP20
  have HGE22 : Hid (b22 = false → i + 1 < i22) := fun hb => by have h0 := Rel.ge (HLT.out 1 i20) hr22.out hb; have h1 := HB20.out; rw [h0.1] at h1; have h2 := wtB_false (i := 0) h1; have h3 := HGE18.out h2.1; have h4 := HI20.out; have h5 := (wtI_le (b := b18) (v := v20) (i := i18)).1; omega
  obtain ⟨v24, hv24⟩ : ∃ v, isK l (i22) [101, 108, 115, 101] = v := ⟨_, rfl⟩
  have HV24 := Lib.hid hv24
  clear hv24
  go_wp2_with (go_at_call 87; refine (st_wantk (v := ?_) HM23 ?_).mono ?_; rotate_left 1; exact HV24; rintro e w24 ⟨rfl, hgo24⟩; refine Hid.out ?_)
  refine Lib.hid ?_
  have HM25 := Lib.hid hgo24.1
  have HO25e1 := Lib.hid (HO23e1.out.step hgo24.2 HRB.out)
  have HO25e2 := Lib.hid (HO22.out.step hgo24.2 HRB.out)
  have HP24 := Lib.hid (HP22.out.wantk HV24.out)
  obtain ⟨i24, hi24⟩ : ∃ z, wtI b22 v24 i22 = z := ⟨_, rfl⟩
  obtain ⟨b24, hb24⟩ : ∃ z, wtB b22 v24 = z := ⟨_, rfl⟩
  rw [hi24, hb24] at HM25
  rw [hi24, hb24] at HP24
  have HI24 := Lib.hid hi24
  have HB24 := Lib.hid hb24
  clear HO23e1 HO22 HM23 HP22 hi24 hb24 hgo24
  go_wp2_with (go_at_call 88; refine (st_both HM25 HO25e1 HO25e2 hk18 (by omega) hk22 (by omega)).mono ?_; rintro e w26 ⟨L26, ⟨g26, c26, rfl, ho26, hgo26⟩, HL26⟩; refine Hid.out ?_)
  refine Lib.hid ?_
  have HM27 := Lib.hid hgo26.1
  have HO27e1 := Lib.hid (HO25e1.out.step hgo26.2 HRB.out)
  have HO27e2 := Lib.hid (HO25e2.out.step hgo26.2 HRB.out)
  have HO26 := Lib.hid ho26
  have HK26 : Hid (Okn 3001 L26) := by rw [HL26.out]; exact hk18.out.bo hk22.out
  clear HO25e1 HO25e2 HM25 ho26 hgo26
  have HRD28 := Lib.hid (HE.out w26 rb cp i24 a l b24 HM27.out.rd (fun hb => HFC.out.on (by have h1 := HB24.out; rw [hb] at h1; have h2 := wtB_false (i := 0) h1; have h3 := HGE22.out h2.1; have h4 := HI24.out; have h5 := (wtI_le (b := b22) (v := v24) (i := i22)).1; omega) (isK_lt HVI.out)))
  go_wp2_with (go_at_call 57; refine (st_read HM27 HRD28.out).mono ?_; rintro e w28 ⟨i28, b28, L28, ⟨g28, c28, rfl, ho28, hgo28⟩, hk28, hr28⟩; refine Hid.out ?_)
  refine Lib.hid ?_
  have HM29 := Lib.hid hgo28.1
  have HO29e1 := Lib.hid (HO27e1.out.step hgo28.2 HRB.out)
  have HO29e2 := Lib.hid (HO27e2.out.step hgo28.2 HRB.out)
  have HO29bo := Lib.hid (HO26.out.step hgo28.2 HRB.out)
  have HO28 := Lib.hid ho28
  have HP28 := Lib.hid (HP24.out.read hr28.out)
  clear HO27e1 HO27e2 HO26 HM27 ho28 hgo28 HRD28 HP24
  go_wp2_with (go_at_call 88; refine (st_both HM29 HO29bo HO28 HK26 (by omega) hk28 (by omega)).mono ?_; rintro e w30 ⟨L30, ⟨g30, c30, rfl, ho30, hgo30⟩, HL30⟩; refine Hid.out ?_)
  refine Lib.hid ?_
  have HM31 := Lib.hid hgo30.1
  have HO31e1 := Lib.hid (HO29e1.out.step hgo30.2 HRB.out)
  have HO31e2 := Lib.hid (HO29e2.out.step hgo30.2 HRB.out)
  have HO31bo := Lib.hid (HO29bo.out.step hgo30.2 HRB.out)
  have HO31e3 := Lib.hid (HO28.out.step hgo30.2 HRB.out)
  have HO30 := Lib.hid ho30
  have HK30 : Hid (Okn 3001 L30) := by rw [HL30.out]; exact HK26.out.bo hk28.out
  clear HO29e1 HO29e2 HO29bo HO28 HM29 ho30 hgo30
  go_wp2_with (go_at_call 82; refine (st_make HM31 12 0 HO30 HK30 (by omega)).mono ?_; rintro e w32 ⟨L32, ⟨g32, c32, rfl, ho32, hgo32⟩, HL32⟩; refine Hid.out ?_)
  refine Lib.hid ?_
  have HM33 := Lib.hid hgo32.1
  have HO33e1 := Lib.hid (HO31e1.out.step hgo32.2 HRB.out)
  have HO33e2 := Lib.hid (HO31e2.out.step hgo32.2 HRB.out)
  have HO33bo := Lib.hid (HO31bo.out.step hgo32.2 HRB.out)
  have HO33e3 := Lib.hid (HO31e3.out.step hgo32.2 HRB.out)
  have HO33bo2 := Lib.hid (HO30.out.step hgo32.2 HRB.out)
  have HO32 := Lib.hid ho32
  have HK32 : Hid (Okn 3001 L32) := by rw [HL32.out]; exact HK30.out.mk 12 0 (by decide)
  clear HO31e1 HO31e2 HO31bo HO31e3 HO30 HM31 ho32 hgo32
  have HF := Lib.hid (SRes.of HM33 HO32 HK32 (by decide) (Pg.fin HP28.out (T := fun x : ((Unit × Tr) × Tr) × Tr => .mk 12 noT 0 [x.1.1.2, x.1.2, x.2]) (fun _ x hx => by rw [HL32.out, HL30.out, HL26.out]; exact Xx.mk1 (Xx.bo (Xx.bo hx.1.1.2.l1 hx.1.2.l1) hx.2.l1) 12 _ 0)))
  go_wp2_with fail
  go_ret
  exact HF.out

set_option maxRecDepth 100000 in
set_option maxHeartbeats 4000000 in
theorem ex_lv {l : Ls} {f : Nat} (hE : CE f) (hV : CV f) (hB : CB f) (hT : CT f) (hlt : Lt l f) {w : World} {rb cp i : Nat} {a : Option Addr} (h : Rd w rb a cp l i false) (hf : FC l i 1 (f + 1)) (HV0 : Hid (isW l (i + 0) = false)) (HVT : Hid (takesB l i = false)) (HVL : Hid (isK l i [108, 101, 116] = false)) (HVW : Hid (isK l i [119, 105, 116, 104] = false)) (HVA : Hid (isK l i [97, 115, 115, 101, 114, 116] = false)) (HVI : Hid (isK l i [105, 102] = false)) :
    Calls Tryz.prog 57 #[.pointer (some ⟨rb, 0, none⟩)] w fun e w' => SRes w w' rb a cp l (P l (f + 1) 1 i) e := by
  have HE0 : Hid (P l (f + 1) 1 i = P l f 2 i) := by
    show _ = _
    rw [P_ex]
    unfold exprP
    rw [if_neg (by simp [(show isW l i = false from HV0.out), (show takesB l i = false from HVT.out), (show isK l i [108, 101, 116] = false from HVL.out), (show isK l i [119, 105, 116, 104] = false from HVW.out), (show isK l i [97, 115, 115, 101, 114, 116] = false from HVA.out), (show isK l i [105, 102] = false from HVI.out)]), if_neg (by simp [(show isW l i = false from HV0.out), (show takesB l i = false from HVT.out), (show isK l i [108, 101, 116] = false from HVL.out), (show isK l i [119, 105, 116, 104] = false from HVW.out), (show isK l i [97, 115, 115, 101, 114, 116] = false from HVA.out), (show isK l i [105, 102] = false from HVI.out)]), if_neg (by simp [(show isW l i = false from HV0.out), (show takesB l i = false from HVT.out), (show isK l i [108, 101, 116] = false from HVL.out), (show isK l i [119, 105, 116, 104] = false from HVW.out), (show isK l i [97, 115, 115, 101, 114, 116] = false from HVA.out), (show isK l i [105, 102] = false from HVI.out)]), if_neg (by simp [(show isW l i = false from HV0.out), (show takesB l i = false from HVT.out), (show isK l i [108, 101, 116] = false from HVL.out), (show isK l i [119, 105, 116, 104] = false from HVW.out), (show isK l i [97, 115, 115, 101, 114, 116] = false from HVA.out), (show isK l i [105, 102] = false from HVI.out)]), if_neg (by simp [(show isW l i = false from HV0.out), (show takesB l i = false from HVT.out), (show isK l i [108, 101, 116] = false from HVL.out), (show isK l i [119, 105, 116, 104] = false from HVW.out), (show isK l i [97, 115, 115, 101, 114, 116] = false from HVA.out), (show isK l i [105, 102] = false from HVI.out)]), if_neg (by simp [(show isW l i = false from HV0.out), (show takesB l i = false from HVT.out), (show isK l i [108, 101, 116] = false from HVL.out), (show isK l i [119, 105, 116, 104] = false from HVW.out), (show isK l i [97, 115, 115, 101, 114, 116] = false from HVA.out), (show isK l i [105, 102] = false from HVI.out)])]
  obtain ⟨M, hM⟩ : ∃ M, P l (f + 1) 1 i = M := ⟨_, rfl⟩
  rw [hM] at HE0 ⊢
  clear hM
  have HP0 : Hid (Pg M i false (fun _ : Unit => True) (fun _ => P l f 2 i)) := ⟨(fun h => by cases h), fun _ => ⟨(), trivial, HE0.out⟩⟩
  have HM0 := Lib.hid (Mv.refl h)
  have hrb := h.sr.lt
  have HRB := Lib.hid hrb
  have HE := Lib.hid hE
  have HVV := Lib.hid hV
  have HBB := Lib.hid hB
  have HTT := Lib.hid hT
  have HLT := Lib.hid hlt
  have HFC := Lib.hid hf
  have c2 := h.sr.c2
  clear h hrb hE hV hB hT hlt hf HE0
  go_enter Tryz.func57, Tryz.ntmps57
  go_wp2_with (go_at_call 79; refine (lk_word (v := ?_) (k := ?_) HM0 ?_ ?_ ?_).mono ?_; rotate_left 2; exact HV0; exact rfl; decide; rintro e w1 ⟨rfl, hgo1⟩; refine Hid.out ?_)
  refine Lib.hid ?_
  have HM2 := Lib.hid hgo1.1
  clear hgo1
  clear c2
  go_wp2_with (go_at_call 83; refine (lk_takes HM2 HVT).mono ?_; rintro e w3 ⟨rfl, hgo3⟩; refine Hid.out ?_)
  refine Lib.hid ?_
  have HM4 := Lib.hid hgo3.1
  clear HM2 hgo3
  go_wp2_with (go_at_call 85; refine (lk_key (v := ?_) HM4 ?_).mono ?_; rotate_left 1; exact HVL; rintro e w5 ⟨rfl, hgo5⟩; refine Hid.out ?_)
  refine Lib.hid ?_
  have HM6 := Lib.hid hgo5.1
  clear HM4 hgo5
  go_wp2_with (go_at_call 85; refine (lk_key (v := ?_) HM6 ?_).mono ?_; rotate_left 1; exact HVW; rintro e w7 ⟨rfl, hgo7⟩; refine Hid.out ?_)
  refine Lib.hid ?_
  have HM8 := Lib.hid hgo7.1
  clear HM6 hgo7
  go_wp2_with (go_at_call 85; refine (lk_key (v := ?_) HM8 ?_).mono ?_; rotate_left 1; exact HVA; rintro e w9 ⟨rfl, hgo9⟩; refine Hid.out ?_)
  refine Lib.hid ?_
  have HM10 := Lib.hid hgo9.1
  clear HM8 hgo9
  go_wp2_with (go_at_call 85; refine (lk_key (v := ?_) HM10 ?_).mono ?_; rotate_left 1; exact HVI; rintro e w11 ⟨rfl, hgo11⟩; refine Hid.out ?_)
  refine Lib.hid ?_
  have HM12 := Lib.hid hgo11.1
  clear HM10 hgo11
  have HFV : Hid (FC l i 2 f) := by have := HFC.out; show FC _ _ _ _; unfold FC at *; omega
  have HRD := Lib.hid (HVV.out w11 rb cp i 2 a l HM12.out.rd (by omega) (by omega) HFV.out)
  go_wp2_with (go_at_call 90; refine (st_read HM12 HRD.out).mono ?_; rintro e w99 ⟨i9, b9, L9, ⟨g9, c9, rfl, ho9, hgo9⟩, hk9, hr9⟩; refine Hid.out ?_)
  refine Lib.hid ?_
  have HR : Rel M i9 b9 L9 := by
    obtain ⟨_, _, hx⟩ := HP0.out.no rfl
    rw [hx]
    exact hr9.out
  have HF := Lib.hid (SRes.of (Lib.hid hgo9.1) (Lib.hid ho9) hk9 (by decide) HR)
  go_wp2_with fail
  go_ret
  exact HF.out

set_option maxRecDepth 100000 in
set_option maxHeartbeats 4000000 in
theorem ex_lv_w {l : Ls} {f : Nat} (hE : CE f) (hV : CV f) (hB : CB f) (hT : CT f) (hlt : Lt l f) {w : World} {rb cp i : Nat} {a : Option Addr} (h : Rd w rb a cp l i false) (hf : FC l i 1 (f + 1)) (HV0 : Hid (isW l (i + 0) = true)) (HV1 : Hid (isS l (i + 1) [58] = false)) (HVT : Hid (takesB l i = false)) (HVL : Hid (isK l i [108, 101, 116] = false)) (HVW : Hid (isK l i [119, 105, 116, 104] = false)) (HVA : Hid (isK l i [97, 115, 115, 101, 114, 116] = false)) (HVI : Hid (isK l i [105, 102] = false)) :
    Calls Tryz.prog 57 #[.pointer (some ⟨rb, 0, none⟩)] w fun e w' => SRes w w' rb a cp l (P l (f + 1) 1 i) e := by
  have HE0 : Hid (P l (f + 1) 1 i = P l f 2 i) := by
    show _ = _
    rw [P_ex]
    unfold exprP
    rw [if_neg (by simp [(show isW l i = true from HV0.out), (show isS l (i + 1) [58] = false from HV1.out), (show takesB l i = false from HVT.out), (show isK l i [108, 101, 116] = false from HVL.out), (show isK l i [119, 105, 116, 104] = false from HVW.out), (show isK l i [97, 115, 115, 101, 114, 116] = false from HVA.out), (show isK l i [105, 102] = false from HVI.out)]), if_neg (by simp [(show isW l i = true from HV0.out), (show isS l (i + 1) [58] = false from HV1.out), (show takesB l i = false from HVT.out), (show isK l i [108, 101, 116] = false from HVL.out), (show isK l i [119, 105, 116, 104] = false from HVW.out), (show isK l i [97, 115, 115, 101, 114, 116] = false from HVA.out), (show isK l i [105, 102] = false from HVI.out)]), if_neg (by simp [(show isW l i = true from HV0.out), (show isS l (i + 1) [58] = false from HV1.out), (show takesB l i = false from HVT.out), (show isK l i [108, 101, 116] = false from HVL.out), (show isK l i [119, 105, 116, 104] = false from HVW.out), (show isK l i [97, 115, 115, 101, 114, 116] = false from HVA.out), (show isK l i [105, 102] = false from HVI.out)]), if_neg (by simp [(show isW l i = true from HV0.out), (show isS l (i + 1) [58] = false from HV1.out), (show takesB l i = false from HVT.out), (show isK l i [108, 101, 116] = false from HVL.out), (show isK l i [119, 105, 116, 104] = false from HVW.out), (show isK l i [97, 115, 115, 101, 114, 116] = false from HVA.out), (show isK l i [105, 102] = false from HVI.out)]), if_neg (by simp [(show isW l i = true from HV0.out), (show isS l (i + 1) [58] = false from HV1.out), (show takesB l i = false from HVT.out), (show isK l i [108, 101, 116] = false from HVL.out), (show isK l i [119, 105, 116, 104] = false from HVW.out), (show isK l i [97, 115, 115, 101, 114, 116] = false from HVA.out), (show isK l i [105, 102] = false from HVI.out)]), if_neg (by simp [(show isW l i = true from HV0.out), (show isS l (i + 1) [58] = false from HV1.out), (show takesB l i = false from HVT.out), (show isK l i [108, 101, 116] = false from HVL.out), (show isK l i [119, 105, 116, 104] = false from HVW.out), (show isK l i [97, 115, 115, 101, 114, 116] = false from HVA.out), (show isK l i [105, 102] = false from HVI.out)])]
  obtain ⟨M, hM⟩ : ∃ M, P l (f + 1) 1 i = M := ⟨_, rfl⟩
  rw [hM] at HE0 ⊢
  clear hM
  have HP0 : Hid (Pg M i false (fun _ : Unit => True) (fun _ => P l f 2 i)) := ⟨(fun h => by cases h), fun _ => ⟨(), trivial, HE0.out⟩⟩
  have HM0 := Lib.hid (Mv.refl h)
  have hrb := h.sr.lt
  have HRB := Lib.hid hrb
  have HE := Lib.hid hE
  have HVV := Lib.hid hV
  have HBB := Lib.hid hB
  have HTT := Lib.hid hT
  have HLT := Lib.hid hlt
  have HFC := Lib.hid hf
  have c2 := h.sr.c2
  clear h hrb hE hV hB hT hlt hf HE0
  go_enter Tryz.func57, Tryz.ntmps57
  go_wp2_with (go_at_call 79; refine (lk_word (v := ?_) (k := ?_) HM0 ?_ ?_ ?_).mono ?_; rotate_left 2; exact HV0; exact rfl; decide; rintro e w1 ⟨rfl, hgo1⟩; refine Hid.out ?_)
  refine Lib.hid ?_
  have HM2 := Lib.hid hgo1.1
  clear hgo1
  clear c2
  go_wp2_with (go_at_call 80; refine (lk_is (v := ?_) (k := ?_) HM2 ?_ ?_ ?_).mono ?_; rotate_left 2; exact HV1; exact rfl; decide; rintro e w3 ⟨rfl, hgo3⟩; refine Hid.out ?_)
  refine Lib.hid ?_
  have HM4 := Lib.hid hgo3.1
  clear HM2 hgo3
  go_wp2_with (go_at_call 83; refine (lk_takes HM4 HVT).mono ?_; rintro e w5 ⟨rfl, hgo5⟩; refine Hid.out ?_)
  refine Lib.hid ?_
  have HM6 := Lib.hid hgo5.1
  clear HM4 hgo5
  go_wp2_with (go_at_call 85; refine (lk_key (v := ?_) HM6 ?_).mono ?_; rotate_left 1; exact HVL; rintro e w7 ⟨rfl, hgo7⟩; refine Hid.out ?_)
  refine Lib.hid ?_
  have HM8 := Lib.hid hgo7.1
  clear HM6 hgo7
  go_wp2_with (go_at_call 85; refine (lk_key (v := ?_) HM8 ?_).mono ?_; rotate_left 1; exact HVW; rintro e w9 ⟨rfl, hgo9⟩; refine Hid.out ?_)
  refine Lib.hid ?_
  have HM10 := Lib.hid hgo9.1
  clear HM8 hgo9
  go_wp2_with (go_at_call 85; refine (lk_key (v := ?_) HM10 ?_).mono ?_; rotate_left 1; exact HVA; rintro e w11 ⟨rfl, hgo11⟩; refine Hid.out ?_)
  refine Lib.hid ?_
  have HM12 := Lib.hid hgo11.1
  clear HM10 hgo11
  go_wp2_with (go_at_call 85; refine (lk_key (v := ?_) HM12 ?_).mono ?_; rotate_left 1; exact HVI; rintro e w13 ⟨rfl, hgo13⟩; refine Hid.out ?_)
  refine Lib.hid ?_
  have HM14 := Lib.hid hgo13.1
  clear HM12 hgo13
  have HFV : Hid (FC l i 2 f) := by have := HFC.out; show FC _ _ _ _; unfold FC at *; omega
  have HRD := Lib.hid (HVV.out w13 rb cp i 2 a l HM14.out.rd (by omega) (by omega) HFV.out)
  go_wp2_with (go_at_call 90; refine (st_read HM14 HRD.out).mono ?_; rintro e w99 ⟨i9, b9, L9, ⟨g9, c9, rfl, ho9, hgo9⟩, hk9, hr9⟩; refine Hid.out ?_)
  refine Lib.hid ?_
  have HR : Rel M i9 b9 L9 := by
    obtain ⟨_, _, hx⟩ := HP0.out.no rfl
    rw [hx]
    exact hr9.out
  have HF := Lib.hid (SRes.of (Lib.hid hgo9.1) (Lib.hid ho9) hk9 (by decide) HR)
  go_wp2_with fail
  go_ret
  exact HF.out
end Go.Proofs.YtifgaaemdojmpaaGreatDoor.pr
