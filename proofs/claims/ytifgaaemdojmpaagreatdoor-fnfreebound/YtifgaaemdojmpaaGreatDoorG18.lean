import Derived.Test.YtifgaaemdojmpaaGreatDoorG17
import Derived.Deep.LoopGhost
namespace Go.Proofs.YtifgaaemdojmpaaGreatDoor.pr
open Go.ChangeShapes Go.WideShapes Go.ChangeAt Go.RowKit Go.Deep
open lx (Lx)
open ex (Tr Ex infoE)
set_option linter.unusedVariables false
set_option linter.unusedSimpArgs false

/-! ### What is read takes something -/

section
variable {l : Ls} {f : Nat}
theorem right_lt (hlt : Lt l f) {lv i : Nat} {t : Tr} {j : Nat} (h : rightP l (P l f) lv i = .ok t j) : i < j := by
  unfold rightP at h
  split at h
  · exact hlt _ _ _ _ h
  · exact hlt _ _ _ _ h
theorem take_le (hlt : Lt l f) : ∀ k i x j, takeL l (P l f) k i = .ok x j → i ≤ j
  | 0, i, x, j, h => by cases h
  | k + 1, i, x, j, h => by
    unfold takeL at h
    split at h
    · cases h; exact Nat.le_refl _
    · split at h
      · cases h; omega
      · obtain ⟨_, h⟩ := ww_inv h
        obtain ⟨ps, q, h1, h⟩ := bind_inv h
        have hq : i + 1 ≤ q := by
          split at h1
          · obtain ⟨e, z, h2, h3⟩ := bind_inv h1
            have := hlt _ _ _ _ h2
            cases h3
            omega
          · cases h1; exact Nat.le_refl _
        split at h
        · cases h; omega
        · obtain ⟨_, h⟩ := wt_inv h
          split at h
          · cases h
          · obtain ⟨y, u, h2, h3⟩ := bind_inv h
            have := take_le hlt k _ y u h2
            cases h3
            omega
theorem bin_le (hlt : Lt l f) (lv : Nat) : ∀ k e i t j, binL l (P l f) lv k e i = .ok t j → i ≤ j
  | 0, e, i, t, j, h => by cases h
  | k + 1, e, i, t, j, h => by
    unfold binL at h
    split at h
    · cases h; exact Nat.le_refl _
    · obtain ⟨r, q, h1, h⟩ := bind_inv h
      have := right_lt hlt h1
      split at h
      · cases h; omega
      · have := bin_le hlt lv k _ _ _ _ h
        omega
theorem has_le : ∀ k e i t j, hasL l k e i = .ok t j → i ≤ j
  | 0, e, i, t, j, h => by cases h
  | k + 1, e, i, t, j, h => by
    unfold hasL at h
    split at h
    · obtain ⟨_, h⟩ := ww_inv h
      have := has_le k _ _ _ _ h
      omega
    · cases h; exact Nat.le_refl _
theorem call_le (hlt : Lt l f) : ∀ k e i t j, callL l (P l f) k e i = .ok t j → i ≤ j
  | 0, e, i, t, j, h => by cases h
  | k + 1, e, i, t, j, h => by
    unfold callL at h
    split at h
    · obtain ⟨x, q, h1, h⟩ := bind_inv h
      have := hlt _ _ _ _ h1
      have := call_le hlt k _ _ _ _ h
      omega
    · cases h; exact Nat.le_refl _
theorem get_le (hlt : Lt l f) : ∀ k e i t j, getL l (P l f) k e i = .ok t j → i ≤ j
  | 0, e, i, t, j, h => by cases h
  | k + 1, e, i, t, j, h => by
    unfold getL at h
    split at h
    · obtain ⟨_, h⟩ := ww_inv h
      split at h
      · obtain ⟨x, q, h1, h⟩ := bind_inv h
        have := hlt _ _ _ _ h1
        cases h
        omega
      · have := get_le hlt k _ _ _ _ h
        omega
    · cases h; exact Nat.le_refl _
theorem list_le (hlt : Lt l f) : ∀ k i ts j, listL l (P l f) k i = .ok ts j → i ≤ j
  | 0, i, ts, j, h => by cases h
  | k + 1, i, ts, j, h => by
    unfold listL at h
    split at h
    · cases h; exact Nat.le_refl _
    · obtain ⟨x, q, h1, h⟩ := bind_inv h
      obtain ⟨ys, u, h2, h⟩ := bind_inv h
      have := hlt _ _ _ _ h1
      have := list_le hlt k _ _ _ h2
      cases h
      omega
theorem set_lt (hlt : Lt l f) {n : Int} {i : Nat} {t : Tr} {j : Nat} (h : setP l (P l f) n i = .ok t j) : i < j := by
  unfold setP at h
  obtain ⟨bs, q, h1, h⟩ := bind_inv h
  obtain ⟨_, h⟩ := wt_inv h
  have := binds_le hlt _ _ h1
  cases h
  omega
theorem expr_lt (hlt : Lt l f) {i : Nat} {t : Tr} {j : Nat} (h : exprP l (P l f) i = .ok t j) : i < j := by
  unfold exprP at h
  split at h
  · obtain ⟨e, q, h1, h⟩ := bind_inv h
    have := hlt _ _ _ _ h1
    cases h
    omega
  split at h
  · unfold takeP at h
    obtain ⟨x, q, h1, h⟩ := bind_inv h
    obtain ⟨_, h⟩ := wt_inv h
    obtain ⟨_, h⟩ := wt_inv h
    obtain ⟨e, u, h2, h⟩ := bind_inv h
    have := take_le hlt _ _ _ _ h1
    have := hlt _ _ _ _ h2
    cases h
    omega
  split at h
  · obtain ⟨x, q, h1, h⟩ := bind_inv h
    obtain ⟨_, h⟩ := wk_inv h
    obtain ⟨e, u, h2, h⟩ := bind_inv h
    have := binds_le hlt _ _ h1
    have := hlt _ _ _ _ h2
    cases h
    omega
  split at h
  · obtain ⟨x, q, h1, h⟩ := bind_inv h
    obtain ⟨_, h⟩ := wt_inv h
    obtain ⟨e, u, h2, h⟩ := bind_inv h
    have := hlt _ _ _ _ h1
    have := hlt _ _ _ _ h2
    cases h
    omega
  split at h
  · obtain ⟨x, q, h1, h⟩ := bind_inv h
    obtain ⟨_, h⟩ := wt_inv h
    obtain ⟨e, u, h2, h⟩ := bind_inv h
    have := hlt _ _ _ _ h1
    have := hlt _ _ _ _ h2
    cases h
    omega
  split at h
  · obtain ⟨x, q, h1, h⟩ := bind_inv h
    obtain ⟨_, h⟩ := wk_inv h
    obtain ⟨e, u, h2, h⟩ := bind_inv h
    obtain ⟨_, h⟩ := wk_inv h
    obtain ⟨y, z, h3, h⟩ := bind_inv h
    have := hlt _ _ _ _ h1
    have := hlt _ _ _ _ h2
    have := hlt _ _ _ _ h3
    cases h
    omega
  · exact hlt _ _ _ _ h
theorem level_lt (hlt : Lt l f) {lv i : Nat} {t : Tr} {j : Nat} (h : levelP l (P l f) lv i = .ok t j) : i < j := by
  unfold levelP at h
  split at h
  · split at h
    · obtain ⟨e, q, h1, h⟩ := bind_inv h
      have := right_lt hlt h1
      cases h
      omega
    · exact hlt _ _ _ _ h
  split at h
  · obtain ⟨e, q, h1, h⟩ := bind_inv h
    have := hlt _ _ _ _ h1
    have := has_le _ _ _ _ _ h
    omega
  split at h
  · split at h
    · obtain ⟨e, q, h1, h⟩ := bind_inv h
      have := right_lt hlt h1
      cases h
      omega
    · exact hlt _ _ _ _ h
  · obtain ⟨e, q, h1, h⟩ := bind_inv h
    have := hlt _ _ _ _ h1
    have := bin_le hlt _ _ _ _ _ _ h
    omega
theorem atom_lt (hlt : Lt l f) {i : Nat} {t : Tr} {j : Nat} (h : atomP l (P l f) i = .ok t j) : i < j := by
  unfold atomP at h
  split at h
  · cases h
  split at h
  · cases h; omega
  split at h
  · cases h; omega
  split at h
  · obtain ⟨_, h⟩ := wt_inv h
    have := set_lt hlt h
    omega
  split at h
  · cases h; omega
  split at h
  · obtain ⟨e, q, h1, h⟩ := bind_inv h
    obtain ⟨_, h⟩ := wt_inv h
    have := hlt _ _ _ _ h1
    cases h
    omega
  split at h
  · obtain ⟨e, q, h1, h⟩ := bind_inv h
    obtain ⟨_, h⟩ := wt_inv h
    have := list_le hlt _ _ _ _ h1
    cases h
    omega
  · have := set_lt hlt h
    omega
end
theorem P_lt (l : Ls) : ∀ f, Lt l f
  | 0 => fun lv i t j h => by cases h
  | f + 1 => fun lv i t j h => by
    have hlt := P_lt l f
    by_cases h1 : lv = 1
    · subst h1; exact expr_lt hlt h
    by_cases h2 : lv = 14
    · subst h2
      rw [P_cl] at h
      obtain ⟨e, q, h1, h⟩ := bind_inv h
      have := hlt _ _ _ _ h1
      have := call_le hlt _ _ _ _ _ h
      omega
    by_cases h3 : lv = 15
    · subst h3
      rw [P_ge] at h
      obtain ⟨e, q, h1, h⟩ := bind_inv h
      have := hlt _ _ _ _ h1
      have := get_le hlt _ _ _ _ _ h
      omega
    by_cases h4 : lv = 16
    · subst h4; exact atom_lt hlt h
    · have e : P l (f + 1) lv i = levelP l (P l f) lv i := by
        show (if lv = 1 then _ else if lv = 14 then _ else if lv = 15 then _ else if lv = 16 then _ else _) = _
        rw [if_neg h1, if_neg h2, if_neg h3, if_neg h4]
      rw [e] at h
      exact level_lt hlt h

/-! An expression, by all its kinds. -/

theorem key_one {l : Ls} {i : Nat} {s t : List UInt8} (h : isK l i s = true) (k : isK l i t = true) : s = t := by
  unfold isK at h k
  cases hx : l[i]? with
  | none => rw [hx] at h; cases h
  | some x =>
    rw [hx] at h k
    simp only [Bool.and_eq_true, decide_eq_true_eq] at h k
    rw [← h.2, ← k.2]

theorem expr_any {f : Nat} (hE : CE f) (hV : CV f) (hB : CB f) (hT : CT f) : CE (f + 1) := fun w rb cp i a l b h hf => by
  cases b with
  | true => rw [if_pos rfl]; exact expr_bad (f := f) h
  | false =>
    rw [if_neg (by decide)]
    have hf := hf rfl
    have hlt := P_lt l f
    cases h0 : isW l (i + 0) with
    | true =>
      cases h1 : isS l (i + 1) [58] with
      | true => exact ex_fun hE hV hB hT hlt h hf h0 h1
      | false =>
        cases ht : takesB l i with
        | true => exact ex_take_w hE hV hB hT hlt h hf h0 h1 ht
        | false =>
          cases hl : isK l i [108, 101, 116] with
          | true => exact ex_let_w hE hV hB hT hlt h hf h0 h1 ht hl
          | false =>
            cases ha : isK l i [97, 115, 115, 101, 114, 116] with
            | true =>
              cases hw : isK l i [119, 105, 116, 104] with
              | true => exact absurd (key_one hw ha) (by decide)
              | false => exact ex_ass_w hE hV hB hT hlt h hf h0 h1 ht hl hw ha
            | false =>
              cases hw : isK l i [119, 105, 116, 104] with
              | true => exact ex_with_w hE hV hB hT hlt h hf h0 h1 ht hl hw ha
              | false =>
                cases hi : isK l i [105, 102] with
                | true => exact ex_if_w hE hV hB hT hlt h hf h0 h1 ht hl hw ha hi
                | false => exact ex_lv_w hE hV hB hT hlt h hf h0 h1 ht hl hw ha hi
    | false =>
      cases ht : takesB l i with
      | true => exact ex_take hE hV hB hT hlt h hf h0 ht
      | false =>
        cases hl : isK l i [108, 101, 116] with
        | true => exact ex_let hE hV hB hT hlt h hf h0 ht hl
        | false =>
          cases ha : isK l i [97, 115, 115, 101, 114, 116] with
          | true =>
            cases hw : isK l i [119, 105, 116, 104] with
            | true => exact absurd (key_one hw ha) (by decide)
            | false => exact ex_ass hE hV hB hT hlt h hf h0 ht hl hw ha
          | false =>
            cases hw : isK l i [119, 105, 116, 104] with
            | true => exact ex_with hE hV hB hT hlt h hf h0 ht hl hw ha
            | false =>
              cases hi : isK l i [105, 102] with
              | true => exact ex_if hE hV hB hT hlt h hf h0 ht hl hw ha hi
              | false => exact ex_lv hE hV hB hT hlt h hf h0 ht hl hw ha hi
end Go.Proofs.YtifgaaemdojmpaaGreatDoor.pr

namespace Go.Proofs.YtifgaaemdojmpaaGreatDoor.pr
open Go.ChangeShapes Go.WideShapes Go.ChangeAt Go.RowKit Go.Deep
open lx (Lx)
open ex (Tr Ex infoE)
set_option linter.unusedVariables false
set_option linter.unusedSimpArgs false

/-! ### The specification's reader: binds and params -/

theorem Pg.via {β X Y : Type} {M : Rs β} {i : Nat} {b : Bool} {Q : X → Prop} {m : X → Rs β} {Q' : Y → Prop} {m' : Y → Rs β} (T : X → Y) (h : Pg M i b Q m) (k : b = false → ∀ x, Q x → Q' (T x) ∧ m x = m' (T x)) : Pg M i b Q' m' := ⟨h.yes, fun e => by
  obtain ⟨x, h1, h2⟩ := h.no e
  obtain ⟨k1, k2⟩ := k e x h1
  exact ⟨T x, k1, h2.trans k2⟩⟩
theorem SResL.of {w w' : World} {rb cp i : Nat} {a : Option Addr} {l : Ls} {b : Bool} {m : Rs (List Tr)} {g c N : Nat} {L : List Ex} (H : Hid (Mv w w' rb a cp l i b)) (ho : Hid (Ow w.heap.size w' g c L)) (hk : Hid (Okn N L)) (hN : N ≤ 90000000) (hr : RelL m i b L) : SResL w w' rb a cp l m (.returned (.slice (some ⟨g, 0, none⟩) L.length c)) :=
  ⟨i, b, L, ⟨g, c, rfl, ho.out, H.out, H.out.gr⟩, hk.out.up hN, hr⟩
theorem bind_id {α : Type} (m : Rs α) : (m.bind fun ts q => .ok ts q) = m := by cases m <;> rfl
theorem bind_bind {α β γ : Type} (m : Rs α) (K : α → Nat → Rs β) (F : β → Nat → Rs γ) : (m.bind K).bind F = m.bind fun a i => (K a i).bind F := by cases m <;> rfl
theorem wt_bind {α β : Type} (l : Ls) (s : List UInt8) (i : Nat) (K : Nat → Rs α) (F : α → Nat → Rs β) : (wt l s i K).bind F = wt l s i fun j => (K j).bind F := by unfold wt; split <;> rfl
theorem ww_bind {α β : Type} (l : Ls) (i : Nat) (K : ByteArray → Nat → Rs α) (F : α → Nat → Rs β) : (ww l i K).bind F = ww l i fun n j => (K n j).bind F := by unfold ww; split <;> rfl
section
variable {l : Ls} {p : Pt} {k i : Nat}
theorem binds_inh (h : isK l i kInh = true) (acc : List Tr) : ((bindsL l p (k + 1) i).bind fun ts q => .ok (acc ++ ts) q) = wt l sSemi (inhL l (l.length + 1) (i + 1)).2 fun j => (bindsL l p k j).bind fun ts q => .ok (acc ++ ((inhL l (l.length + 1) (i + 1)).1 ++ ts)) q := by
  conv => lhs; unfold bindsL
  rw [if_pos h, wt_bind]
  congr 1
  funext j
  rw [bind_bind]
  rfl
theorem binds_set (h : isK l i kInh = false) (hw : isW l i = true) (acc : List Tr) : ((bindsL l p (k + 1) i).bind fun ts q => .ok (acc ++ ts) q) = ww l i fun n j => wt l sEq j fun j => (p 1 j).bind fun e q => wt l sSemi q fun r => (bindsL l p k r).bind fun ts u => .ok (acc ++ (.mk 6 n 0 [e] :: ts)) u := by
  conv => lhs; unfold bindsL
  rw [if_neg (by rw [h]; decide), if_pos hw, wt_bind]
  unfold ww
  rw [if_pos hw]
  congr 1
  funext j
  rw [bind_bind]
  congr 1
  funext e q
  rw [wt_bind]
  congr 1
  funext r
  rw [bind_bind]
  rfl
theorem binds_end (h : isK l i kInh = false) (hw : isW l i = false) (acc : List Tr) : ((bindsL l p (k + 1) i).bind fun ts q => .ok (acc ++ ts) q) = .ok acc i := by
  conv => lhs; unfold bindsL
  rw [if_neg (by rw [h]; decide), if_neg (by rw [hw]; decide), bind_ok, List.append_nil]
theorem inh_step (hw : isW l i = true) : inhL l (k + 1) i = (.mk 7 (tx l i) 0 [] :: (inhL l k (i + 1)).1, (inhL l k (i + 1)).2) := by
  conv => lhs; unfold inhL
  rw [if_pos hw]
theorem inh_end (hw : isW l i = false) : inhL l (k + 1) i = ([], i) := by
  conv => lhs; unfold inhL
  rw [if_neg (by rw [hw]; decide)]
end
theorem fl_w (s : ByteArray) : flL [.mk 7 s 0 []] = [⟨7, s, 0, 0⟩] := by rw [flL_one, fl_eq]; rfl
theorem okn_b {b : Bool} {n i : Nat} {L : List Ex} (hf : b = false → Okn (3001 * i) L) (ht : Okn (3001 * (n + 1)) L) : Okn (if b = true then 3001 * (n + 1) else 3001 * i) L := by
  cases b with
  | true => exact ht
  | false => exact hf rfl
/-- The binds' loop at its head, and the names' loop at its. -/
def LB (w wr : World) (rb cp : Nat) (a : Option Addr) (l : Ls) (M : Rs (List Tr)) (f i0 : Nat) (v : Value) (q : Nat) : Prop := ∃ (g c : Nat) (L : List Ex) (i : Nat) (b : Bool) (k : Nat), v = .slice (some ⟨g, 0, none⟩) L.length c ∧ Ow w.heap.size wr g c L ∧ Mv w wr rb a cp l i b ∧ Okn (if b = true then 3001 * (l.length + 1) else 3001 * i) L ∧ Pg M i b (fun acc : List Tr => Xx L (flL acc)) (fun acc => (bindsL l (P l f) k i).bind fun ts q => .ok (acc ++ ts) q) ∧ (b = false → l.length + 1 ≤ k + i ∧ i0 ≤ i) ∧ (if b = true then 0 else l.length + 1 - i) ≤ q
def LN (w wr : World) (rb cp : Nat) (a : Option Addr) (l : Ls) (M : Rs (List Tr)) (f i0 k1 : Nat) (v : Value) (q : Nat) : Prop := ∃ (g c : Nat) (L : List Ex) (i k : Nat), v = .slice (some ⟨g, 0, none⟩) L.length c ∧ Ow w.heap.size wr g c L ∧ Mv w wr rb a cp l i false ∧ Okn (3001 * i) L ∧ Pg M i false (fun acc : List Tr => Xx L (flL acc)) (fun acc => wt l sSemi (inhL l k i).2 fun j => (bindsL l (P l f) k1 j).bind fun ts q => .ok (acc ++ ((inhL l k i).1 ++ ts)) q) ∧ l.length + 1 ≤ k + i ∧ i0 + 1 ≤ i ∧ l.length + 1 - i ≤ q

set_option maxRecDepth 100000 in
set_option maxHeartbeats 4000000 in
theorem binds_any {f : Nat} (hE : CE f) (hlt : ∀ l, Lt l f) : CB f := by
  intro w rb cp i0 a l b0 h hf
  obtain ⟨M, hM⟩ : ∃ M, (if b0 = true then .bad i0 else bindsL l (P l f) (l.length + 1) i0) = M := ⟨_, rfl⟩
  rw [hM]
  have hrb := h.sr.lt
  have HRB := Lib.hid hrb
  have HNE := Lib.hid h.blk
  have HE := Lib.hid hE
  have HLT := Lib.hid (hlt l)
  have HFC := Lib.hid hf
  have HST : Hid (LB w (w.alloc (.cells #[] 27)) rb cp a l M f i0 (.slice (some ⟨w.heap.size, 0, none⟩) 0 0) (l.length + 1)) :=
    ⟨w.heap.size, 0, [], i0, b0, l.length + 1, rfl, Ow.nil w, (Mv.refl h).below ((Below.refl _ _).alloc (Nat.le_refl _) _), Okn.nil.up (Nat.zero_le _), (Pg.start2 hM.symm).via (fun _ => []) (fun _ _ _ => ⟨Xx.refl _, (bind_id _).symm⟩), (fun _ => ⟨by omega, Nat.le_refl _⟩), by split <;> omega⟩
  clear h hE hlt hf hM
  go_enter Tryz.func86, Tryz.ntmps86
  go_wp2
  go_loopg [3] (l.length + 1) (fun q v wr => LB w wr rb cp a l M f i0 v q)
  case atStart => exact HST.out
  case round =>
    clear HST hrb
    obtain ⟨g, c, L, i, b, k, rfl, ho, hm, hk, hp, hb, hq⟩ := hrel
    have HM0 := Lib.hid hm
    have HO := Lib.hid ho
    have HK := Lib.hid hk
    have HP := Lib.hid hp
    have HBQ := Lib.hid hb
    have HQ : Hid ((if b = true then 0 else l.length + 1 - i) ≤ gk) := hq
    have c2 := hm.rd.sr.c2
    clear ho hm hk hp hb hq
    cases b with
    | true =>
      replace HK : Hid (Okn (3001 * (l.length + 1)) L) := HK
      have HN : Hid (3001 * (l.length + 1) ≤ 90000000) := by
        have h2 := HM0.out.rd.cl.2.2
        show _ ≤ _
        omega
      have HR : Hid (RelL M i true L) := by
        show RelL _ _ _ _
        rw [HP.out.yes rfl]
        exact ⟨rfl, rfl⟩
      have HF := Lib.hid (SResL.of HM0 HO HK HN.out HR.out)
      go_wp2
      go_ret
      exact HF.out
    | false =>
      have HKI : Hid (l.length + 1 ≤ k + i ∧ i0 ≤ i) := HBQ.out rfl
      replace HK : Hid (Okn (3001 * i) L) := HK
      replace HQ : Hid (l.length + 1 - i ≤ gk) := HQ
      have HIL := Lib.hid HM0.out.rd.le
      obtain ⟨k, rfl⟩ : ∃ z, k = z + 1 := ⟨k - 1, by have h1 := HKI.out; have h2 := HIL.out; omega⟩
      clear HBQ
      cases hv0 : isK l i [105, 110, 104, 101, 114, 105, 116] with
      | true =>
        have HV0 := Lib.hid hv0
        replace HP : Hid (Pg M i false (fun acc : List Tr => Xx L (flL acc)) (fun acc => wt l sSemi (inhL l (l.length + 1) (i + 1)).2 fun j => (bindsL l (P l f) k j).bind fun ts q => .ok (acc ++ ((inhL l (l.length + 1) (i + 1)).1 ++ ts)) q)) := Lib.hid (HP.out.eq fun _ acc _ => binds_inh hv0 acc)
        clear hv0 c2
        have c2 := HM0.out.rd.sr.c2
        go_wp2_with (go_at_call 85; refine (lk_key (v := ?_) HM0 ?_).mono ?_; rotate_left 1; exact HV0; rintro e w1 ⟨rfl, hgo1⟩; refine Hid.out ?_)
        refine Lib.hid ?_
        have HM2 := Lib.hid hgo1.1
        have HO2out := Lib.hid (HO.out.step hgo1.2 HRB.out)
        clear HO hgo1
        have hc1_3 := HM2.out.rd.sr.c1
        have hf1_3 := HM2.out.rd.sr.f 1
        have hwr_3 := HM2.out.wr (isK_lt HV0.out)
        have hgo3 := HM2.out.inc (isK_lt HV0.out)
        obtain ⟨w3, hw3⟩ : ∃ W, W = w1.setCell ⟨rb, 1, none⟩ (.int .i64 (((i : Nat) : Int) + 1)) := ⟨_, rfl⟩
        rw [← hw3] at hgo3
        have HW3 := Lib.hid hw3
        obtain ⟨i3, hi3⟩ : ∃ z, i + 1 = z := ⟨_, rfl⟩
        rw [hi3] at hgo3
        have HI3 := Lib.hid hi3
        have HM4 := Lib.hid hgo3.1
        have HO4out := Lib.hid (HO2out.out.step hgo3.2 HRB.out)
        clear HO2out HM2 hgo3 hw3 hi3
        have HLN : Hid (LN w w3 rb cp a l M f i k (.slice (some ⟨g, 0, none⟩) L.length c) (l.length + 1)) := ⟨g, c, L, i3, l.length + 1, rfl, HO4out.out, HM4.out, HK.out.up (by have h1 := HI3.out; omega), by have h1 := HP.out.pos i3; have e9 := HI3.out; rw [← e9] at h1 ⊢; exact h1, by omega, by have h1 := HI3.out; omega, by omega⟩
        clear HP HK HO4out HM4
        go_wp2
        rw [← HW3.out]
        clear c2 hc1_3 hf1_3 hwr_3
        go_loopg [3] (l.length + 1) (fun q v wr => LN w wr rb cp a l M f i k v q)
        case atStart => exact HLN.out
        case round =>
          clear HLN
          obtain ⟨g1, c1, L1, i1, k1, rfl, ho, hm, hk, hp, hki, hi0, hq⟩ := hrel
          have HM1 := Lib.hid hm
          have HO1 := Lib.hid ho
          have HK1 := Lib.hid hk
          have HP1 := Lib.hid hp
          have HKI1 := Lib.hid hki
          have HI01 := Lib.hid hi0
          have HQ1 := Lib.hid hq
          have HIL1 := Lib.hid hm.rd.le
          clear ho hm hk hp hki hi0 hq
          obtain ⟨k1, rfl⟩ : ∃ z, k1 = z + 1 := ⟨k1 - 1, by have h1 := HKI1.out; have h2 := HIL1.out; omega⟩
          cases hv1 : isW l (i1 + 0) with
          | true =>
            have HV1 := Lib.hid hv1
            clear hv1
            go_wp2_with (go_at_call 79; refine (lk_word (v := ?_) (k := ?_) HM1 ?_ ?_ ?_).mono ?_; rotate_left 2; exact HV1; exact rfl; decide; rintro e w301 ⟨rfl, hgo301⟩; refine Hid.out ?_)
            refine Lib.hid ?_
            have HM302 := Lib.hid hgo301.1
            have HO302out := Lib.hid (HO1.out.step hgo301.2 HRB.out)
            clear HO1 HM1 hgo301
            go_wp2_with (go_at_call 81; refine (st_word (v := true) HM302 HV1).mono ?_; rintro e w303 ⟨s303, ⟨rfl, hs303, hz303⟩, hgo303⟩; refine Hid.out ?_)
            refine Lib.hid ?_
            have HM304 := Lib.hid hgo303.1
            have HO304out := Lib.hid (HO302out.out.step hgo303.2 HRB.out)
            have HZ303 := Lib.hid hz303
            replace HM304 : Hid (Mv w w303 rb a cp l (i1 + 1) false) := HM304
            obtain ⟨i303, hi303⟩ : ∃ z, i1 + 1 = z := ⟨_, rfl⟩
            rw [hi303] at HM304
            have HI303 := Lib.hid hi303
            clear HO302out HM302 hz303 hgo303 hi303
            have HSL : Hid (L1.length + 1 ≤ 200000000) := by have h1 := HK1.out.1; have h2 := HIL1.out; have h3 := HM304.out.rd.cl.2.2; show _ ≤ _; omega
            obtain ⟨w305, hw305⟩ : ∃ W, W = w303.alloc (.cells #[.int .i64 7, .string s303, .int .i64 0, .int .i64 0] 27) := ⟨_, rfl⟩
            have hgo305 : Go w w303 w305 rb a cp l i303 false := by rw [hw305]; exact ⟨HM304.out.below ((Below.refl _ _).alloc (Nat.le_refl _) _), grb ((Below.refl _ _).alloc (Nat.le_refl _) _)⟩
            have hn305 : Ow w303.heap.size w305 w303.heap.size 1 [⟨7, s303, 0, 0⟩] := by rw [hw305]; exact Ow.one w303 ⟨7, s303, 0, 0⟩
            have HM306 := Lib.hid hgo305.1
            have HO306out := Lib.hid (HO304out.out.step hgo305.2 HRB.out)
            have HW305 := Lib.hid hw305
            have HN305 := Lib.hid hn305
            obtain ⟨g307, c307, w307, L307, hr307, ho307, hm307, HL307⟩ := st_app HM306 HO306out.out HN305.out (HSL.out) HRB.out HNE.out 28
            have HO307 := Lib.hid ho307
            have HM307 := Lib.hid hm307
            have HR307 := Lib.hid hr307
            clear ho307 hm307 hr307
            clear HO304out HM304 hgo305 hw305 hn305
            go_wp2_with (at_builtin; rw [← HW305.out]; refine wpList_plain rfl fun K hK => ?_; refine wp_appE _ _ rfl rfl rfl HR307.out ?_; refine hK _ _ ?_; refine Hid.out ?_)
            refine Lib.hid ?_
            clear HR307 HM306 HO306out
            clear HSL
            have HLN : Hid (LN w w307 rb cp a l M f i k (.slice (some ⟨g307, 0, none⟩) L307.length c307) (l.length + 1 - i303)) := ⟨g307, c307, L307, i303, k1, rfl, HO307.out, HM307.out, by rw [HL307.out]; exact (HK1.out.app (Okn.one 7 0 0 HZ303.out)).up (by have h1 := HI303.out; omega), (HP1.out.pos i303).via (fun acc => acc ++ [.mk 7 s303 0 []]) (fun _ acc hx => ⟨by rw [HL307.out, flL_app]; exact hx.app (by rw [fl_w]; exact Xx.refl _), by have e9 : s303 = tx l i1 := hs303.out; have h1 := HI303.out; rw [inh_step (i := i1) HV1.out, e9, ← h1]; simp only [List.append_assoc, List.cons_append, List.nil_append]⟩), by have h1 := HI303.out; have h2 := HKI1.out; omega, by have h1 := HI303.out; have h2 := HI01.out; omega, Nat.le_refl _⟩
            go_wp2_with fail
            go_roundg (l.length + 1 - i303)
            case measure => have h1 := HI303.out; have h2 := HQ1.out; have h3 := isW_lt HV1.out; omega
            case rel => exact HLN.out
          | false =>
            have HV1 := Lib.hid hv1
            have HP2 : Hid (Pg M i1 false (fun acc : List Tr => Xx L1 (flL acc)) (fun acc => wt l sSemi i1 fun j => (bindsL l (P l f) k j).bind fun ts q => .ok (acc ++ ts) q)) := Lib.hid (HP1.out.eq fun _ acc _ => by rw [inh_end (i := i1) hv1]; rfl)
            clear hv1 HP1
            go_wp2_with (go_at_call 79; refine (lk_word (v := ?_) (k := ?_) HM1 ?_ ?_ ?_).mono ?_; rotate_left 2; exact HV1; exact rfl; decide; rintro e w401 ⟨rfl, hgo401⟩; refine Hid.out ?_)
            refine Lib.hid ?_
            have HM402 := Lib.hid hgo401.1
            have HO402out := Lib.hid (HO1.out.step hgo401.2 HRB.out)
            clear HO1 HM1 hgo401
            obtain ⟨v403, hv403⟩ : ∃ v, isS l (i1) [59] = v := ⟨_, rfl⟩
            have HV403 := Lib.hid hv403
            clear hv403
            go_wp2_with (go_at_call 89; refine (st_want (v := ?_) HM402 ?_).mono ?_; rotate_left 1; exact HV403; rintro e w403 ⟨rfl, hgo403⟩; refine Hid.out ?_)
            refine Lib.hid ?_
            have HM404 := Lib.hid hgo403.1
            have HO404out := Lib.hid (HO402out.out.step hgo403.2 HRB.out)
            have HP403 := Lib.hid (HP2.out.want HV403.out)
            obtain ⟨i403, hi403⟩ : ∃ z, wtI false v403 i1 = z := ⟨_, rfl⟩
            obtain ⟨b403, hb403⟩ : ∃ z, wtB false v403 = z := ⟨_, rfl⟩
            rw [hi403, hb403] at HM404
            rw [hi403, hb403] at HP403
            have HI403 := Lib.hid hi403
            have HB403 := Lib.hid hb403
            clear HO402out HM402 HP2 hi403 hb403 hgo403
            have HLB : Hid (LB w w403 rb cp a l M f i0 (.slice (some ⟨g1, 0, none⟩) L1.length c1) (if b403 = true then 0 else l.length + 1 - i403)) := ⟨g1, c1, L1, i403, b403, k, rfl, HO404out.out, HM404.out, okn_b (fun _ => HK1.out.up (by have h1 := HI403.out; have h2 := (wtI_le (b := false) (v := v403) (i := i1)).1; omega)) (HK1.out.up (by have h1 := HIL1.out; omega)), HP403.out, (fun hb => by have h1 := HB403.out; rw [hb] at h1; have h2 := wtB_false (i := i1) h1; have h3 := HI403.out; have h4 := HI01.out; have h5 := HKI.out; omega), Nat.le_refl _⟩
            go_wp2_with fail
            go_roundg (if b403 = true then 0 else l.length + 1 - i403)
            case measure => have h1 := HI403.out; have h2 := (wtI_le (b := false) (v := v403) (i := i1)).1; have h3 := HI01.out; have h4 := HQ.out; have h5 := HKI.out; have h6 := HIL.out; split <;> omega
            case rel => exact HLB.out
      | false =>
        have HV0 := Lib.hid hv0
        clear hv0
        cases hv1 : isW l (i + 0) with
        | false =>
          have HV1 := Lib.hid hv1
          replace HP : Hid (Pg M i false (fun acc : List Tr => Xx L (flL acc)) (fun acc => .ok acc i)) := Lib.hid (HP.out.eq fun _ acc _ => binds_end HV0.out hv1 acc)
          clear hv1
          go_wp2_with (go_at_call 85; refine (lk_key (v := ?_) HM0 ?_).mono ?_; rotate_left 1; exact HV0; rintro e w1 ⟨rfl, hgo1⟩; refine Hid.out ?_)
          refine Lib.hid ?_
          have HM2 := Lib.hid hgo1.1
          have HO2out := Lib.hid (HO.out.step hgo1.2 HRB.out)
          clear HO hgo1
          go_wp2_with (go_at_call 79; refine (lk_word (v := ?_) (k := ?_) HM2 ?_ ?_ ?_).mono ?_; rotate_left 2; exact HV1; exact rfl; decide; rintro e w3 ⟨rfl, hgo3⟩; refine Hid.out ?_)
          refine Lib.hid ?_
          have HM4 := Lib.hid hgo3.1
          have HO4out := Lib.hid (HO2out.out.step hgo3.2 HRB.out)
          clear HO2out HM2 hgo3
          have HN : Hid (3001 * i ≤ 90000000) := by have h1 := HIL.out; have h2 := HM4.out.rd.cl.2.2; show _ ≤ _; omega
          have HF := Lib.hid (SResL.of HM4 HO4out HK HN.out (HP.out.finL (T := fun acc => acc) (fun _ _ hx => hx)))
          go_wp2_with fail
          go_ret
          exact HF.out
        | true =>
          have HV1 := Lib.hid hv1
          replace HP : Hid (Pg M i false (fun acc : List Tr => Xx L (flL acc)) (fun acc => ww l i fun n j => wt l sEq j fun j => (P l f 1 j).bind fun e q => wt l sSemi q fun r => (bindsL l (P l f) k r).bind fun ts u => .ok (acc ++ (.mk 6 n 0 [e] :: ts)) u)) := Lib.hid (HP.out.eq fun _ acc _ => binds_set HV0.out hv1 acc)
          clear hv1
          go_wp2_with (go_at_call 85; refine (lk_key (v := ?_) HM0 ?_).mono ?_; rotate_left 1; exact HV0; rintro e w1 ⟨rfl, hgo1⟩; refine Hid.out ?_)
          refine Lib.hid ?_
          have HM2 := Lib.hid hgo1.1
          have HO2out := Lib.hid (HO.out.step hgo1.2 HRB.out)
          clear HO hgo1
          go_wp2_with (go_at_call 79; refine (lk_word (v := ?_) (k := ?_) HM2 ?_ ?_ ?_).mono ?_; rotate_left 2; exact HV1; exact rfl; decide; rintro e w3 ⟨rfl, hgo3⟩; refine Hid.out ?_)
          refine Lib.hid ?_
          have HM4 := Lib.hid hgo3.1
          have HO4out := Lib.hid (HO2out.out.step hgo3.2 HRB.out)
          clear HO2out HM2 hgo3
          go_wp2_with (go_at_call 81; refine (st_word (v := true) HM4 HV1).mono ?_; rintro e w5 ⟨s5, ⟨rfl, hs5, hz5⟩, hgo5⟩; refine Hid.out ?_)
          refine Lib.hid ?_
          have HM6 := Lib.hid hgo5.1
          have HO6out := Lib.hid (HO4out.out.step hgo5.2 HRB.out)
          have HZ5 := Lib.hid hz5
          have HP5 := Lib.hid (HP.out.word HV1.out hs5.out)
          replace HM6 : Hid (Mv w w5 rb a cp l (i + 1) false) := HM6
          obtain ⟨i5, hi5⟩ : ∃ z, i + 1 = z := ⟨_, rfl⟩
          rw [hi5] at HM6
          have HI5 := Lib.hid hi5
          have hw9 : wtI false true i = i5 := hi5
          have hb9 : wtB false true = false := rfl
          rw [hw9, hb9] at HP5
          clear hw9 hb9
          clear HO4out HM4 hz5 hgo5 HP hi5
          obtain ⟨v7, hv7⟩ : ∃ v, isS l (i5) [61] = v := ⟨_, rfl⟩
          have HV7 := Lib.hid hv7
          clear hv7
          go_wp2_with (go_at_call 89; refine (st_want (v := ?_) HM6 ?_).mono ?_; rotate_left 1; exact HV7; rintro e w7 ⟨rfl, hgo7⟩; refine Hid.out ?_)
          refine Lib.hid ?_
          have HM8 := Lib.hid hgo7.1
          have HO8out := Lib.hid (HO6out.out.step hgo7.2 HRB.out)
          have HP7 := Lib.hid (HP5.out.want HV7.out)
          obtain ⟨i7, hi7⟩ : ∃ z, wtI false v7 i5 = z := ⟨_, rfl⟩
          obtain ⟨b7, hb7⟩ : ∃ z, wtB false v7 = z := ⟨_, rfl⟩
          rw [hi7, hb7] at HM8
          rw [hi7, hb7] at HP7
          have HI7 := Lib.hid hi7
          have HB7 := Lib.hid hb7
          clear HO6out HM6 HP5 hi7 hb7 hgo7
          have HRD9 := Lib.hid (HE.out w7 rb cp i7 a l b7 HM8.out.rd (fun hb => HFC.out.le (by have h1 := HKI.out; have h2 := HI5.out; have h3 := HI7.out; have h4 := (wtI_le (b := false) (v := v7) (i := i5)).1; omega)))
          go_wp2_with (go_at_call 57; refine (st_read HM8 HRD9.out).mono ?_; rintro e w9 ⟨i9, b9, L9, ⟨g9, c9, rfl, ho9, hgo9⟩, hk9, hr9⟩; refine Hid.out ?_)
          refine Lib.hid ?_
          have HM10 := Lib.hid hgo9.1
          have HO10out := Lib.hid (HO8out.out.step hgo9.2 HRB.out)
          have HO9 := Lib.hid ho9
          have HP9 := Lib.hid (HP7.out.read hr9.out)
          clear HO8out HM8 ho9 hgo9 HRD9 HP7
          have HGE9 : Hid (b9 = false → i + 1 < i9) := fun hb => by have h0 := Rel.ge (HLT.out 1 i7) hr9.out hb; have h3 := HI7.out; have h4 := (wtI_le (b := false) (v := v7) (i := i5)).1; have h5 := HI5.out; omega
          obtain ⟨v11, hv11⟩ : ∃ v, isS l (i9) [59] = v := ⟨_, rfl⟩
          have HV11 := Lib.hid hv11
          clear hv11
          go_wp2_with (go_at_call 89; refine (st_want (v := ?_) HM10 ?_).mono ?_; rotate_left 1; exact HV11; rintro e w11 ⟨rfl, hgo11⟩; refine Hid.out ?_)
          refine Lib.hid ?_
          have HM12 := Lib.hid hgo11.1
          have HO12out := Lib.hid (HO10out.out.step hgo11.2 HRB.out)
          have HO12e := Lib.hid (HO9.out.step hgo11.2 HRB.out)
          have HP11 := Lib.hid (HP9.out.want HV11.out)
          obtain ⟨i11, hi11⟩ : ∃ z, wtI b9 v11 i9 = z := ⟨_, rfl⟩
          obtain ⟨b11, hb11⟩ : ∃ z, wtB b9 v11 = z := ⟨_, rfl⟩
          rw [hi11, hb11] at HM12
          rw [hi11, hb11] at HP11
          have HI11 := Lib.hid hi11
          have HB11 := Lib.hid hb11
          clear HO10out HO9 HM10 HP9 hi11 hb11 hgo11
          go_wp2_with (go_at_call 82; refine (st_make HM12 6 0 HO12e hk9 (by omega)).mono ?_; rintro e w13 ⟨L13, ⟨g13, c13, rfl, ho13, hgo13⟩, HL13⟩; refine Hid.out ?_)
          refine Lib.hid ?_
          have HM14 := Lib.hid hgo13.1
          have HO14out := Lib.hid (HO12out.out.step hgo13.2 HRB.out)
          have HO14e := Lib.hid (HO12e.out.step hgo13.2 HRB.out)
          have HO13 := Lib.hid ho13
          have HK13 : Hid (Okn 3001 L13) := by rw [HL13.out]; exact hk9.out.mk 6 0 HZ5.out
          clear HO12out HO12e HM12 ho13 hgo13
          have HSL : Hid (L.length + L13.length ≤ 200000000) := by have h1 := HK.out.1; have h2 := HIL.out; have h3 := HM14.out.rd.cl.2.2; have h4 := HK13.out.1; show _ ≤ _; omega
          obtain ⟨g16, c16, w16, L16, hr16, ho16, hm16, HL16⟩ := st_app HM14 HO14out.out HO13.out (HSL.out) HRB.out HNE.out 28
          have HO16 := Lib.hid ho16
          have HM16 := Lib.hid hm16
          have HR16 := Lib.hid hr16
          clear ho16 hm16 hr16
          go_wp2_with (at_builtin; refine wpList_plain rfl fun K hK => ?_; refine wp_appE _ _ rfl rfl rfl HR16.out ?_; refine hK _ _ ?_; refine Hid.out ?_)
          refine Lib.hid ?_
          clear HR16 HM14 HO14out
          clear HSL
          have HLB : Hid (LB w w16 rb cp a l M f i0 (.slice (some ⟨g16, 0, none⟩) L16.length c16) (if b11 = true then 0 else l.length + 1 - i11)) := ⟨g16, c16, L16, i11, b11, k, rfl, HO16.out, HM16.out, by rw [HL16.out]; exact okn_b (fun hb => (HK.out.app HK13.out).up (by have h1 := HB11.out; rw [hb] at h1; have h2 := wtB_false (i := i9) h1; have h3 := HI11.out; have h4 := HGE9.out h2.1; omega)) ((HK.out.app HK13.out).up (by have h1 := isW_lt HV1.out; omega)), HP11.out.via (fun x => x.1 ++ [.mk 6 s5 0 [x.2]]) (fun _ x hx => ⟨by rw [HL16.out, HL13.out, flL_app, flL_one]; exact hx.1.app (Xx.mk1 hx.2.l1 6 _ 0), by simp only [List.append_assoc, List.cons_append, List.nil_append]⟩), (fun hb => by have h1 := HB11.out; rw [hb] at h1; have h2 := wtB_false (i := i9) h1; have h3 := HI11.out; have h4 := HGE9.out h2.1; have h5 := HKI.out; omega), Nat.le_refl _⟩
          go_wp2_with fail
          go_roundg (if b11 = true then 0 else l.length + 1 - i11)
          case measure =>
            have h4 := HQ.out
            have h6 := isW_lt HV1.out
            by_cases hb : b11 = true
            · rw [if_pos hb]; omega
            · rw [if_neg hb]
              have h1 := HB11.out
              rw [show b11 = false by simpa using hb] at h1
              have h2 := wtB_false (i := i9) h1
              have h3 := HI11.out
              have h5 := HGE9.out h2.1
              omega
          case rel => exact HLB.out
end Go.Proofs.YtifgaaemdojmpaaGreatDoor.pr
