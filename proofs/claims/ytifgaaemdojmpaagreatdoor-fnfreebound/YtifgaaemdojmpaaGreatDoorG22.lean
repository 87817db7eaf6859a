import Derived.Test.YtifgaaemdojmpaaGreatDoorG21
import Derived.Test.YtifgaaemdojmpaaGreatDoorG02
import Derived.Test.YtifgaaemdojmpaaGreatDoorG01
import Derived.RegionTactic
import Derived.ChangeAlike
namespace Go.Proofs.YtifgaaemdojmpaaGreatDoor.pr
open Go.ChangeShapes Go.WideShapes Go.ChangeAt Go.RowKit Go.Deep
open lx (Lx)
open ex (Tr Ex infoE)
set_option linter.unusedVariables false
set_option linter.unusedSimpArgs false

/-! ### The specification's reader: the tightest -/

section
variable {l : Ls} {p : Pt} {k i : Nat}
theorem list_end (h : isS l i [93] = true) (acc : List Tr) (F : List Tr → Nat → Rs Tr) : ((listL l p (k + 1) i).bind fun ts q => F (acc ++ ts) q) = F acc i := by
  conv => lhs; unfold listL
  rw [if_pos h, bind_ok, List.append_nil]
theorem list_more (h : isS l i [93] = false) (acc : List Tr) (F : List Tr → Nat → Rs Tr) : ((listL l p (k + 1) i).bind fun ts q => F (acc ++ ts) q) = (p 15 i).bind fun x j => (listL l p k j).bind fun ts q => F ((acc ++ [x]) ++ ts) q := by
  conv => lhs; unfold listL
  rw [if_neg (by rw [h]; decide), bind_bind]
  congr 1
  funext x j
  rw [bind_bind]
  simp only [bind_ok, List.append_assoc, List.cons_append, List.nil_append]
end
def FL (l : Ls) : List Tr → Nat → Rs Tr := fun acc j => wt l [93] j fun q => .ok (.mk 4 noT 0 acc) q
/-- The list's loop at its head. -/
def LL (w wr : World) (rb cp : Nat) (a : Option Addr) (l : Ls) (M : Rs Tr) (f i0 : Nat) (v : Value) (q : Nat) : Prop := ∃ (g c : Nat) (L : List Ex) (i : Nat) (b : Bool) (k : Nat), v = .slice (some ⟨g, 0, none⟩) L.length c ∧ Ow w.heap.size wr g c L ∧ Mv w wr rb a cp l i b ∧ Okn (if b = true then 3001 * (l.length + 1) else 3001 * i) L ∧ Pg M i b (fun acc : List Tr => Xx L (flL acc)) (fun acc => (listL l (P l f) k i).bind fun ts q => FL l (acc ++ ts) q) ∧ (b = false → l.length + 1 ≤ k + i ∧ i0 ≤ i) ∧ (if b = true then 0 else l.length + 1 - i) ≤ q
theorem at_facts {l : Ls} {i : Nat} {x : Lx × Nat} (hx : l[i]? = some x) : kd l i = x.1.kind ∧ tx l i = ⟨x.1.text.toArray⟩ ∧ nu l i = x.1.num ∧ isK l i kRec = (decide (x.1.kind = 1) && decide (x.1.text = kRec)) := by
  refine ⟨?_, ?_, ?_, ?_⟩
  · unfold kd; rw [hx]
  · unfold tx; rw [hx]
  · unfold nu; rw [hx]
  · unfold isK; rw [hx]
theorem begins_kind {l : Ls} {i : Nat} {x : Lx × Nat} (hx : l[i]? = some x) (h : beginsB l i = true) : x.1.kind = 2 ∨ x.1.kind = 3 ∨ x.1.kind = 1 ∨ (x.1.kind = 4 ∧ (x.1.text = [40] ∨ x.1.text = [91] ∨ x.1.text = [123])) := by
  unfold beginsB kd isW isS isK at h
  rw [hx] at h
  simp only [Bool.and_eq_true, Bool.or_eq_true, decide_eq_true_eq] at h
  rcases h.2 with h | h | h | h | h | h | h
  · exact .inl h
  · exact .inr (.inl h)
  · exact .inr (.inr (.inl h.1))
  · exact .inr (.inr (.inr ⟨h.1, .inl h.2⟩))
  · exact .inr (.inr (.inr ⟨h.1, .inr (.inl h.2)⟩))
  · exact .inr (.inr (.inr ⟨h.1, .inr (.inr h.2)⟩))
  · exact .inr (.inr (.inl h.1))

set_option maxRecDepth 100000 in
set_option maxHeartbeats 4000000 in
theorem atom_bad {f : Nat} {w : World} {rb cp i : Nat} {a : Option Addr} {l : Ls} (h : Rd w rb a cp l i false) (hb : beginsB l i = false ∨ (beginsB l i = true ∧ takesB l i = true)) :
    Calls Tryz.prog 121 #[.pointer (some ⟨rb, 0, none⟩)] w fun e w' => SRes w w' rb a cp l (atomP l (P l f) i) e := by
  have HR : Hid (atomP l (P l f) i = .bad i) := by
    show _ = _
    unfold atomP
    rcases hb with hb | hb
    · rw [if_pos (by rw [hb]; rfl)]
    · rw [if_pos (by rw [hb.1, hb.2]; rfl)]
  rw [HR.out]
  clear HR
  have hrb := h.sr.lt
  have HRB := Lib.hid hrb
  have HM0 := Lib.hid (Mv.refl h)
  have c2 := h.sr.c2
  clear h
  rcases hb with hb | hb
  · have HB := Lib.hid hb
    clear hb
    go_enter Tryz.func121, Tryz.ntmps121
    go_wp2_with (go_at_call 117; refine (lk_begins HM0 HB).mono ?_; rintro e w101 ⟨rfl, hgo101⟩; refine Hid.out ?_)
    refine Lib.hid ?_
    have HM102 := Lib.hid hgo101.1
    clear hgo101
    have k2 := HM102.out.rd.sr.c2
    have f2 := HM102.out.rd.sr.f 2
    obtain ⟨w103, hw103⟩ : ∃ W, W = w101.setCell ⟨rb, 2, none⟩ (.bool true) := ⟨_, rfl⟩
    have hgo103 := HM102.out.sbad
    rw [← hw103] at hgo103
    have HW103 := Lib.hid hw103
    have HF : Hid (SRes w (w103.alloc (.cells #[] 27)) rb a cp l (.bad i) (.returned (.slice (some ⟨w103.heap.size, 0, none⟩) 0 0))) := ⟨i, true, [], ⟨w103.heap.size, 0, rfl, (Ow.nil w103).mono hgo103.1.gr.size, hgo103.1.below ((Below.refl _ _).alloc (Nat.le_refl _) _), gr_trans hgo103.1.gr (grb ((Below.refl _ _).alloc (Nat.le_refl _) _))⟩, Lib.hid (Okn.nil.up (by decide)), ⟨rfl, rfl⟩⟩
    have hz103 : w103.heap.size = w101.heap.size := by rw [hw103]; simp
    rw [hz103] at HF
    clear hw103 hgo103 hz103
    go_wp2_with fail
    go_ret
    rw [← HW103.out]
    exact HF.out
  · have HB := Lib.hid hb.1
    have HT := Lib.hid hb.2
    clear hb
    go_enter Tryz.func121, Tryz.ntmps121
    go_wp2_with (go_at_call 117; refine (lk_begins HM0 HB).mono ?_; rintro e w101 ⟨rfl, hgo101⟩; refine Hid.out ?_)
    refine Lib.hid ?_
    have HM102 := Lib.hid hgo101.1
    clear hgo101
    go_wp2_with (go_at_call 83; refine (lk_takes HM102 HT).mono ?_; rintro e w103 ⟨rfl, hgo103⟩; refine Hid.out ?_)
    refine Lib.hid ?_
    have HM104 := Lib.hid hgo103.1
    clear HM102 hgo103
    have k2 := HM104.out.rd.sr.c2
    have f2 := HM104.out.rd.sr.f 2
    obtain ⟨w105, hw105⟩ : ∃ W, W = w103.setCell ⟨rb, 2, none⟩ (.bool true) := ⟨_, rfl⟩
    have hgo105 := HM104.out.sbad
    rw [← hw105] at hgo105
    have HW105 := Lib.hid hw105
    have HF : Hid (SRes w (w105.alloc (.cells #[] 27)) rb a cp l (.bad i) (.returned (.slice (some ⟨w105.heap.size, 0, none⟩) 0 0))) := ⟨i, true, [], ⟨w105.heap.size, 0, rfl, (Ow.nil w105).mono hgo105.1.gr.size, hgo105.1.below ((Below.refl _ _).alloc (Nat.le_refl _) _), gr_trans hgo105.1.gr (grb ((Below.refl _ _).alloc (Nat.le_refl _) _))⟩, Lib.hid (Okn.nil.up (by decide)), ⟨rfl, rfl⟩⟩
    have hz105 : w105.heap.size = w103.heap.size := by rw [hw105]; simp
    rw [hz105] at HF
    clear hw105 hgo105 hz105
    go_wp2_with fail
    go_ret
    rw [← HW105.out]
    exact HF.out

set_option maxRecDepth 100000 in
set_option maxHeartbeats 8000000 in
theorem atom_good {f : Nat} (hE : CE f) (hB : CB f) (hG : CG f) (hlt : ∀ l, Lt l f) {w : World} {rb cp i : Nat} {a : Option Addr} {l : Ls} (h : Rd w rb a cp l i false) (hf : FC l i 16 (f + 1)) (hb : beginsB l i = true) (ht : takesB l i = false) :
    Calls Tryz.prog 121 #[.pointer (some ⟨rb, 0, none⟩)] w fun e w' => SRes w w' rb a cp l (atomP l (P l f) i) e := by
  obtain ⟨M, hM⟩ : ∃ M, atomP l (P l f) i = M := ⟨_, rfl⟩
  rw [hM]
  have hil : i < l.length := by unfold beginsB at hb; simp only [Bool.and_eq_true, decide_eq_true_eq] at hb; exact hb.1
  obtain ⟨x, hx⟩ : ∃ x, l[i]? = some x := ⟨_, List.getElem?_eq_getElem hil⟩
  have HKD := Lib.hid (begins_kind hx hb)
  have HAF := Lib.hid (at_facts hx)
  have HMM : Hid (M = if kd l i = 2 then .ok (.mk 1 noT (nu l i) []) (i + 1)
      else if kd l i = 3 then .ok (.mk 2 (tx l i) 0 []) (i + 1)
      else if isK l i kRec = true then wt l sOpen (i + 1) fun j => setP l (P l f) 1 j
      else if kd l i = 1 then .ok (.mk 3 (tx l i) 0 []) (i + 1)
      else if (tx l i).data.toList = [40] then ((P l f) 1 (i + 1)).bind fun e j => wt l [41] j fun q => .ok e q
      else if (tx l i).data.toList = [91] then (listL l (P l f) (l.length + 1) (i + 1)).bind fun xs j => wt l [93] j fun q => .ok (.mk 4 noT 0 xs) q
      else setP l (P l f) 0 (i + 1)) := by
    show _ = _
    rw [← hM]
    unfold atomP
    rw [if_neg (by rw [hb, ht]; decide)]
  have HTL := Lib.hid (h.tl x (List.mem_of_getElem? hx))
  have hrb := h.sr.lt
  have HRB := Lib.hid hrb
  have HNE := Lib.hid h.blk
  have HE := Lib.hid hE
  have HBB := Lib.hid hB
  have HG := Lib.hid hG
  have HLT := Lib.hid (hlt l)
  have HFC := Lib.hid hf
  have HM0 := Lib.hid (Mv.refl h)
  have HB := Lib.hid hb
  have HT := Lib.hid ht
  have HIL := Lib.hid hil
  have HX := Lib.hid hx
  have HCL := Lib.hid h.cl.2.2
  have c2 := h.sr.c2
  obtain ⟨n, hn⟩ : ∃ n, l.length = n := ⟨_, rfl⟩
  have hlt' : (i : Int) < (n : Int) := by omega
  have h0 : (0 : Int) ≤ (i : Int) := by omega
  clear h hb ht hM hil hE hB hG hlt hf hx
  go_enter Tryz.func121, Tryz.ntmps121
  go_upto_region 4 with (first
    | (go_at_call 117; refine (lk_begins HM0 HB).mono ?_; rintro e w1 ⟨rfl, hgo1⟩; have HM1 := Lib.hid hgo1.1; clear hgo1)
    | (go_at_call 83; refine (lk_takes HM1 HT).mono ?_; rintro e w2 ⟨rfl, hgo2⟩; have HM2 := Lib.hid hgo2.1; clear hgo2))
  obtain ⟨lb, hla, g0, g1, g2, g3⟩ := HM2.out.rd.at HX.out
  obtain ⟨K, hK⟩ : ∃ K, x.1.kind = K := ⟨_, rfl⟩
  obtain ⟨X, hX⟩ : ∃ X, x.1.text = X := ⟨_, rfl⟩
  obtain ⟨T, hT⟩ : ∃ T : ByteArray, (⟨X.toArray⟩ : ByteArray) = T := ⟨_, rfl⟩
  obtain ⟨U, hU⟩ : ∃ U, x.1.num = U := ⟨_, rfl⟩
  obtain ⟨V, hV⟩ : ∃ V, (x.2 : Int) = V := ⟨_, rfl⟩
  have k0 := HM2.out.rd.sr.c0
  have k1 := HM2.out.rd.sr.c1
  rw [hK] at g0 HKD HAF
  rw [hX] at g1 HKD HAF HTL
  rw [hT] at g1 HAF
  rw [hU] at g2 HAF
  rw [hV] at g3
  rw [hn, hla] at k0
  have HTX := Lib.hid hT
  have HTS : Hid (T.size ≤ 4000) := by
    have h1 := HTL.out
    show _ ≤ _
    rw [← hT]
    show X.toArray.size ≤ 4000
    simpa using h1
  have ha : ∀ (p : Addr) (v : Value), w2.cell? p = some v → (w2.alloc (.cells #[.int .i64 0, .string ⟨#[]⟩, .int .i64 0, .int .i64 0] 141)).drew.cell? p = some v := fun p v hp => ((((Below.refl _ _).alloc (Nat.le_refl _) _).drew).cell (World.block_lt_of_cell? _ _ hp)).trans hp
  have a0 := ha _ _ k0
  have a1 := ha _ _ k1
  have a2 := ha _ _ g0
  have a3 := ha _ _ g1
  have a4 := ha _ _ g2
  have a5 := ha _ _ g3
  clear ha c2 hK hX hT hU hV HTL
  go_region
  clear a0 a1 a2 a3 a4 a5 k0 k1 g0 g1 g2 g3 hlt' h0 hn hla
  obtain ⟨w3, hw3⟩ : ∃ W, W = (w2.alloc (.cells #[.int .i64 K, .string T, .int .i64 U, .int .i64 V] 141)).drew := ⟨_, rfl⟩
  have HM3 : Hid (Mv w w3 rb a cp l i false) := by rw [hw3]; exact HM2.out.below ((Below.refl _ _).alloc (Nat.le_refl _) _).drew
  obtain ⟨tb, htb⟩ : ∃ t, w2.heap.size = t := ⟨_, rfl⟩
  have t0 : w3.cell? ⟨tb, 0, none⟩ = some (.int .i64 K) := by rw [hw3, ← htb]; exact World.cell?_alloc_new w2 _ _ 0
  have t1 : w3.cell? ⟨tb, 1, none⟩ = some (.string T) := by rw [hw3, ← htb]; exact World.cell?_alloc_new w2 _ _ 1
  have t2 : w3.cell? ⟨tb, 2, none⟩ = some (.int .i64 U) := by rw [hw3, ← htb]; exact World.cell?_alloc_new w2 _ _ 2
  have htr : tb ≠ rb := by have h1 := HM2.out.gr.size; have h2 := HRB.out; omega
  rw [← hw3, htb]
  clear hw3 HM2 HM1 HM0
  have hgo4 := HM3.out.inc HIL.out
  have hc1 := HM3.out.rd.sr.c1
  have hf1 := HM3.out.rd.sr.f 1
  have hwr := HM3.out.wr HIL.out
  obtain ⟨w4, hw4⟩ : ∃ W, W = w3.setCell ⟨rb, 1, none⟩ (.int .i64 ((i : Int) + 1)) := ⟨_, rfl⟩
  rw [← hw4] at hgo4
  have s0 : w4.cell? ⟨tb, 0, none⟩ = some (.int .i64 K) := hgo4.2.cell t0 (fun e => htr (by have := Option.some.inj e; simpa using this))
  have s1 : w4.cell? ⟨tb, 1, none⟩ = some (.string T) := hgo4.2.cell t1 (fun e => htr (by have := Option.some.inj e; simpa using this))
  have s2 : w4.cell? ⟨tb, 2, none⟩ = some (.int .i64 U) := hgo4.2.cell t2 (fun e => htr (by have := Option.some.inj e; simpa using this))
  have HM4 := Lib.hid hgo4.1
  obtain ⟨i4, hi4⟩ : ∃ z, i + 1 = z := ⟨_, rfl⟩
  rw [hi4] at HM4 HMM
  have HI4 := Lib.hid hi4
  have HW4 := Lib.hid hw4
  clear t0 t1 t2 hgo4 hw4 hi4 HM3
  go_upto_region 6 with fail
  rw [← HW4.out]
  clear hc1 hf1 hwr HW4
  by_cases hk2 : K = 2
  · subst hk2
    replace HMM : Hid (M = .ok (.mk 1 noT U []) i4) := by show _ = _; rw [HMM.out, if_pos HAF.out.1, HAF.out.2.2.1]
    obtain ⟨w5, hw5⟩ : ∃ W, W = w4.alloc (.cells #[.int .i64 1, .string ⟨#[]⟩, .int .i64 U, .int .i64 0] 27) := ⟨_, rfl⟩
    have HW5 := Lib.hid hw5
    have HF : Hid (SRes w w5 rb a cp l M (.returned (.slice (some ⟨w4.heap.size, 0, none⟩) 1 1))) := by
      have h1 := HM4.out.below ((Below.refl _ _).alloc (Nat.le_refl _) (.cells #[.int .i64 1, .string ⟨#[]⟩, .int .i64 U, .int .i64 0] 27))
      have h2 := (Ow.one w4 ⟨1, ⟨#[]⟩, U, 0⟩).mono HM4.out.gr.size
      rw [HMM.out, hw5]
      exact ⟨i4, false, [⟨1, ⟨#[]⟩, U, 0⟩], ⟨w4.heap.size, 1, rfl, h2, h1, h1.gr⟩, Lib.hid ((Okn.one _ _ _ (by decide)).up (by decide)), ⟨rfl, rfl, by rw [fl_eq]; exact Xx.refl _⟩⟩
    clear hw5 HMM
    go_wp2_with fail
    go_ret
    rw [← HW5.out]
    exact HF.out
  by_cases hk3 : K = 3
  · subst hk3
    replace HMM : Hid (M = .ok (.mk 2 T 0 []) i4) := by show _ = _; rw [HMM.out, if_neg (by rw [HAF.out.1]; decide), if_pos HAF.out.1, HAF.out.2.1]
    obtain ⟨w5, hw5⟩ : ∃ W, W = w4.alloc (.cells #[.int .i64 2, .string T, .int .i64 0, .int .i64 0] 27) := ⟨_, rfl⟩
    have HW5 := Lib.hid hw5
    have HF : Hid (SRes w w5 rb a cp l M (.returned (.slice (some ⟨w4.heap.size, 0, none⟩) 1 1))) := by
      have h1 := HM4.out.below ((Below.refl _ _).alloc (Nat.le_refl _) (.cells #[.int .i64 2, .string T, .int .i64 0, .int .i64 0] 27))
      have h2 := (Ow.one w4 ⟨2, T, 0, 0⟩).mono HM4.out.gr.size
      rw [HMM.out, hw5]
      exact ⟨i4, false, [⟨2, T, 0, 0⟩], ⟨w4.heap.size, 1, rfl, h2, h1, h1.gr⟩, Lib.hid ((Okn.one _ _ _ HTS.out).up (by decide)), ⟨rfl, rfl, by rw [fl_eq]; exact Xx.refl _⟩⟩
    clear hw5 HMM
    go_wp2_with fail
    go_ret
    rw [← HW5.out]
    exact HF.out
  have hn2 : (K == 2) = false := by simp [hk2]
  have hn3 : (K == 3) = false := by simp [hk3]
  by_cases hk1 : K = 1
  · subst hk1
    by_cases hrec : X = kRec
    · replace HMM : Hid (M = wt l sOpen i4 fun j => setP l (P l f) 1 j) := by
        show _ = _
        rw [HMM.out, if_neg (by rw [HAF.out.1]; decide), if_neg (by rw [HAF.out.1]; decide), if_pos (by rw [HAF.out.2.2.2, hrec]; decide)]
      subst hrec
      have hTl : T = ⟨#[114, 101, 99]⟩ := HTX.out.symm
      subst hTl
      have HP0 : Hid (Pg M i4 false (fun _ : Unit => True) (fun _ => wt l sOpen i4 fun j => (bindsL l (P l f) (l.length + 1) j).bind fun bs j => wt l sShut j fun q => .ok (.mk 5 noT 1 bs) q)) := by
        show Pg M i4 false _ _
        rw [HMM.out]
        exact Pg.start _ _
      clear HMM
      obtain ⟨v101, hv101⟩ : ∃ v, isS l (i4) [123] = v := ⟨_, rfl⟩
      have HV101 := Lib.hid hv101
      clear hv101
      go_wp2_with (go_at_call 89; refine (st_want (v := ?_) HM4 ?_).mono ?_; rotate_left 1; exact HV101; rintro e w101 ⟨rfl, hgo101⟩; refine Hid.out ?_)
      refine Lib.hid ?_
      have HM102 := Lib.hid hgo101.1
      have HP101 := Lib.hid (HP0.out.want HV101.out)
      obtain ⟨i101, hi101⟩ : ∃ z, wtI false v101 i4 = z := ⟨_, rfl⟩
      obtain ⟨b101, hb101⟩ : ∃ z, wtB false v101 = z := ⟨_, rfl⟩
      rw [hi101, hb101] at HM102
      rw [hi101, hb101] at HP101
      have HI101 := Lib.hid hi101
      have HB101 := Lib.hid hb101
      clear HM4 HP0 hi101 hb101 hgo101
      have HRD103 := Lib.hid (HBB.out w101 rb cp i101 a l b101 HM102.out.rd (by have h1 := HFC.out; have h2 := HI4.out; have h3 := HI101.out; have h4 := (wtI_le (b := false) (v := v101) (i := i4)).1; have h5 := HIL.out; unfold FC at h1 ⊢; omega))
      go_wp2_with (go_at_call 86; refine (st_readL HM102 HRD103.out).mono ?_; rintro e w103 ⟨i103, b103, L103, ⟨g103, c103, rfl, ho103, hgo103⟩, hk103, hr103⟩; refine Hid.out ?_)
      refine Lib.hid ?_
      have HM104 := Lib.hid hgo103.1
      have HO103 := Lib.hid ho103
      have HP103 := Lib.hid (HP101.out.readL hr103.out)
      clear HM102 ho103 hgo103 HRD103 HP101
      obtain ⟨v105, hv105⟩ : ∃ v, isS l (i103) [125] = v := ⟨_, rfl⟩
      have HV105 := Lib.hid hv105
      clear hv105
      go_wp2_with (go_at_call 89; refine (st_want (v := ?_) HM104 ?_).mono ?_; rotate_left 1; exact HV105; rintro e w105 ⟨rfl, hgo105⟩; refine Hid.out ?_)
      refine Lib.hid ?_
      have HM106 := Lib.hid hgo105.1
      have HO106bs := Lib.hid (HO103.out.step hgo105.2 HRB.out)
      have HP105 := Lib.hid (HP103.out.want HV105.out)
      obtain ⟨i105, hi105⟩ : ∃ z, wtI b103 v105 i103 = z := ⟨_, rfl⟩
      obtain ⟨b105, hb105⟩ : ∃ z, wtB b103 v105 = z := ⟨_, rfl⟩
      rw [hi105, hb105] at HM106
      rw [hi105, hb105] at HP105
      have HI105 := Lib.hid hi105
      have HB105 := Lib.hid hb105
      clear HO103 HM104 HP103 hi105 hb105 hgo105
      go_wp2_with (go_at_call 82; refine (st_make HM106 5 1 HO106bs hk103 (by omega)).mono ?_; rintro e w107 ⟨L107, ⟨g107, c107, rfl, ho107, hgo107⟩, HL107⟩; refine Hid.out ?_)
      refine Lib.hid ?_
      have HM108 := Lib.hid hgo107.1
      have HO108bs := Lib.hid (HO106bs.out.step hgo107.2 HRB.out)
      have HO107 := Lib.hid ho107
      have HK107 : Hid (Okn 3001 L107) := by rw [HL107.out]; exact hk103.out.mk 5 1 (by decide)
      clear HO106bs HM106 ho107 hgo107
      have HF := Lib.hid (SRes.of HM108 HO107 HK107 (by decide) (Pg.fin HP105.out (T := fun x : Unit × List Tr => .mk 5 noT 1 x.2) (fun _ x hx => by rw [HL107.out]; exact Xx.mk1 hx.2 5 _ 1)))
      go_wp2_with fail
      go_ret
      exact HF.out
    · replace HMM : Hid (M = .ok (.mk 3 T 0 []) i4) := by
        show _ = _
        rw [HMM.out, if_neg (by rw [HAF.out.1]; decide), if_neg (by rw [HAF.out.1]; decide), if_neg (by rw [HAF.out.2.2.2, decide_eq_false hrec]; decide), if_pos HAF.out.1, HAF.out.2.1]
      have hnr : (T.toList == [114, 101, 99]) = false := by
        have h1 := str_eq X ⟨#[114, 101, 99]⟩
        rw [HTX.out, decide_eq_false (show ¬ X = [114, 101, 99] from hrec), ByteArray.toList_eq ⟨#[114, 101, 99]⟩] at h1
        exact h1
      obtain ⟨w5, hw5⟩ : ∃ W, W = w4.alloc (.cells #[.int .i64 3, .string T, .int .i64 0, .int .i64 0] 27) := ⟨_, rfl⟩
      have HW5 := Lib.hid hw5
      have HF : Hid (SRes w w5 rb a cp l M (.returned (.slice (some ⟨w4.heap.size, 0, none⟩) 1 1))) := by
        have h1 := HM4.out.below ((Below.refl _ _).alloc (Nat.le_refl _) (.cells #[.int .i64 3, .string T, .int .i64 0, .int .i64 0] 27))
        have h2 := (Ow.one w4 ⟨3, T, 0, 0⟩).mono HM4.out.gr.size
        rw [HMM.out, hw5]
        exact ⟨i4, false, [⟨3, T, 0, 0⟩], ⟨w4.heap.size, 1, rfl, h2, h1, h1.gr⟩, Lib.hid ((Okn.one _ _ _ HTS.out).up (by decide)), ⟨rfl, rfl, by rw [fl_eq]; exact Xx.refl _⟩⟩
      clear hw5 HMM
      go_wp2_with fail
      go_ret
      rw [← HW5.out]
      exact HF.out
  have hn1 : (K == 1) = false := by simp [hk1]
  have hx4 : X = [40] ∨ X = [91] ∨ X = [123] := by
    rcases HKD.out with h | h | h | ⟨_, h⟩
    · exact absurd h hk2
    · exact absurd h hk3
    · exact absurd h hk1
    · exact h
  have hTX : (tx l i).data.toList = X := by rw [HAF.out.2.1, ← HTX.out]
  have HMN : Hid (M = if (tx l i).data.toList = [40] then ((P l f) 1 i4).bind fun e j => wt l [41] j fun q => .ok e q
      else if (tx l i).data.toList = [91] then (listL l (P l f) (l.length + 1) i4).bind fun xs j => wt l [93] j fun q => .ok (.mk 4 noT 0 xs) q
      else setP l (P l f) 0 i4) := by
    show _ = _
    rw [HMM.out, if_neg (by rw [HAF.out.1]; exact hk2), if_neg (by rw [HAF.out.1]; exact hk3), if_neg (by rw [HAF.out.2.2.2, decide_eq_false hk1]; simp), if_neg (by rw [HAF.out.1]; exact hk1)]
  rw [hTX] at HMN
  clear HMM hTX hk1 hk2 hk3 HKD HAF
  rcases hx4 with rfl | rfl | rfl
  · have hTl : T = ⟨#[40]⟩ := HTX.out.symm
    subst hTl
    replace HMN : Hid (M = ((P l f) 1 i4).bind fun e j => wt l [41] j fun q => .ok e q) := by show _ = _; rw [HMN.out, if_pos rfl]
    have HP0 : Hid (Pg M i4 false (fun _ : Unit => True) (fun _ => (P l f 1 i4).bind fun e j => wt l [41] j fun q => .ok e q)) := by
      show Pg M i4 false _ _
      rw [HMN.out]
      exact Pg.start _ _
    clear HMN
    have HRD101 := Lib.hid (HE.out w4 rb cp i4 a l false HM4.out.rd (fun _ => by have h1 := HFC.out; have h2 := HI4.out; have h5 := HIL.out; unfold FC at h1 ⊢; omega))
    go_wp2_with (go_at_call 57; refine (st_read HM4 HRD101.out).mono ?_; rintro e w101 ⟨i101, b101, L101, ⟨g101, c101, rfl, ho101, hgo101⟩, hk101, hr101⟩; refine Hid.out ?_)
    refine Lib.hid ?_
    have HM102 := Lib.hid hgo101.1
    have HO101 := Lib.hid ho101
    have HP101 := Lib.hid (HP0.out.read hr101.out)
    clear HM4 ho101 hgo101 HRD101 HP0
    obtain ⟨v103, hv103⟩ : ∃ v, isS l (i101) [41] = v := ⟨_, rfl⟩
    have HV103 := Lib.hid hv103
    clear hv103
    go_wp2_with (go_at_call 89; refine (st_want (v := ?_) HM102 ?_).mono ?_; rotate_left 1; exact HV103; rintro e w103 ⟨rfl, hgo103⟩; refine Hid.out ?_)
    refine Lib.hid ?_
    have HM104 := Lib.hid hgo103.1
    have HO104e := Lib.hid (HO101.out.step hgo103.2 HRB.out)
    have HP103 := Lib.hid (HP101.out.want HV103.out)
    obtain ⟨i103, hi103⟩ : ∃ z, wtI b101 v103 i101 = z := ⟨_, rfl⟩
    obtain ⟨b103, hb103⟩ : ∃ z, wtB b101 v103 = z := ⟨_, rfl⟩
    rw [hi103, hb103] at HM104
    rw [hi103, hb103] at HP103
    have HI103 := Lib.hid hi103
    have HB103 := Lib.hid hb103
    clear HO101 HM102 HP101 hi103 hb103 hgo103
    have HF := Lib.hid (SRes.of HM104 HO104e hk101 (by decide) (Pg.fin HP103.out (T := fun x : Unit × Tr => x.2) (fun _ x hx => hx.2)))
    go_wp2_with fail
    go_ret
    exact HF.out
  · have hTl : T = ⟨#[91]⟩ := HTX.out.symm
    subst hTl
    replace HMN : Hid (M = (listL l (P l f) (l.length + 1) i4).bind fun xs j => wt l [93] j fun q => .ok (.mk 4 noT 0 xs) q) := by show _ = _; rw [HMN.out, if_neg (by decide), if_pos rfl]
    have HST : Hid (LL w (w4.alloc (.cells #[] 27)) rb cp a l M f i4 (.slice (some ⟨w4.heap.size, 0, none⟩) 0 0) (l.length + 1)) :=
      ⟨w4.heap.size, 0, [], i4, false, l.length + 1, rfl, (Ow.nil w4).mono HM4.out.gr.size, HM4.out.below ((Below.refl _ _).alloc (Nat.le_refl _) _), Okn.nil.up (Nat.zero_le _), (by rw [HMN.out]; exact (Pg.start _ _).via (fun _ => []) (fun _ _ _ => ⟨Xx.refl _, rfl⟩)), (fun _ => ⟨by omega, Nat.le_refl _⟩), by show l.length + 1 - i4 ≤ _; omega⟩
    clear HMN HM4
    go_wp2
    clear s0 s1 s2 htb htr
    go_loopg [6] (l.length + 1) (fun q v wr => LL w wr rb cp a l M f i4 v q)
    case atStart => exact HST.out
    case round =>
      clear HST hrb
      obtain ⟨g, c, L, i, b, k, rfl, ho, hm, hk, hp, hb, hq⟩ := hrel
      have HM0 := Lib.hid hm
      have HO := Lib.hid ho
      have HK := Lib.hid hk
      have HP := Lib.hid hp
      have HBQ := Lib.hid hb
      have HQ : Hid ((if b = true then 0 else l.length + 1 - i) ≤ gk) := hq
      have c2 := hm.rd.sr.c2
      clear ho hm hk hp hb hq
      cases b with
      | true =>
        have HKA : Hid (Okn 90000000 L) := (show Okn (3001 * (l.length + 1)) L from HK.out).up (by have h1 := HCL.out; omega)
        replace HP : Hid (Pg M i true (fun acc : List Tr => Xx L (flL acc)) (fun acc => wt l [93] i fun q => .ok (.mk 4 noT 0 acc) q)) := Lib.hid HP.out.any
        obtain ⟨v201, hv201⟩ : ∃ v, isS l (i) [93] = v := ⟨_, rfl⟩
        have HV201 := Lib.hid hv201
        clear hv201
        go_wp2_with (go_at_call 89; refine (st_want (v := ?_) HM0 ?_).mono ?_; rotate_left 1; exact HV201; rintro e w201 ⟨rfl, hgo201⟩; refine Hid.out ?_)
        refine Lib.hid ?_
        have HM202 := Lib.hid hgo201.1
        have HO202out := Lib.hid (HO.out.step hgo201.2 HRB.out)
        have HP201 := Lib.hid (HP.out.want HV201.out)
        obtain ⟨i201, hi201⟩ : ∃ z, wtI true v201 i = z := ⟨_, rfl⟩
        obtain ⟨b201, hb201⟩ : ∃ z, wtB true v201 = z := ⟨_, rfl⟩
        rw [hi201, hb201] at HM202
        rw [hi201, hb201] at HP201
        have HI201 := Lib.hid hi201
        have HB201 := Lib.hid hb201
        clear HO HP hi201 hb201 hgo201
        go_wp2_with (go_at_call 82; refine (st_make HM202 4 0 HO202out HKA (by omega)).mono ?_; rintro e w203 ⟨L203, ⟨g203, c203, rfl, ho203, hgo203⟩, HL203⟩; refine Hid.out ?_)
        refine Lib.hid ?_
        have HM204 := Lib.hid hgo203.1
        have HO204out := Lib.hid (HO202out.out.step hgo203.2 HRB.out)
        have HO203 := Lib.hid ho203
        have HK203 : Hid (Okn 3001 L203) := by rw [HL203.out]; exact HKA.out.mk 4 0 (by decide)
        clear HO202out HM202 ho203 hgo203
        have HF := Lib.hid (SRes.of HM204 HO203 HK203 (by decide) (Pg.fin HP201.out (T := fun acc : List Tr => .mk 4 noT 0 acc) (fun _ x hx => by rw [HL203.out]; exact Xx.mk1 hx 4 _ 0)))
        go_wp2_with fail
        go_ret
        exact HF.out
      | false =>
        have HKI : Hid (l.length + 1 ≤ k + i ∧ i4 ≤ i) := HBQ.out rfl
        replace HK : Hid (Okn (3001 * i) L) := HK
        replace HQ : Hid (l.length + 1 - i ≤ gk) := HQ
        have HJL := Lib.hid HM0.out.rd.le
        obtain ⟨k, rfl⟩ : ∃ z, k = z + 1 := ⟨k - 1, by have h1 := HKI.out; have h2 := HJL.out; omega⟩
        clear HBQ
        cases hv0 : isS l (i + 0) [93] with
        | true =>
          have HV0 := Lib.hid hv0
          replace HP : Hid (Pg M i false (fun acc : List Tr => Xx L (flL acc)) (fun acc => wt l [93] i fun q => .ok (.mk 4 noT 0 acc) q)) := Lib.hid (HP.out.eq fun _ acc _ => list_end (i := i) hv0 acc (FL l))
          clear hv0
          have HKA : Hid (Okn 90000000 L) := HK.out.up (by have h1 := HCL.out; have h2 := HJL.out; omega)
          go_wp2_with (go_at_call 80; refine (lk_is (v := ?_) (k := ?_) HM0 ?_ ?_ ?_).mono ?_; rotate_left 2; exact HV0; exact rfl; decide; rintro e w401 ⟨rfl, hgo401⟩; refine Hid.out ?_)
          refine Lib.hid ?_
          have HM402 := Lib.hid hgo401.1
          have HO402out := Lib.hid (HO.out.step hgo401.2 HRB.out)
          clear HO hgo401
          obtain ⟨v403, hv403⟩ : ∃ v, isS l (i) [93] = v := ⟨_, rfl⟩
          have HV403 := Lib.hid hv403
          clear hv403
          go_wp2_with (go_at_call 89; refine (st_want (v := ?_) HM402 ?_).mono ?_; rotate_left 1; exact HV403; rintro e w403 ⟨rfl, hgo403⟩; refine Hid.out ?_)
          refine Lib.hid ?_
          have HM404 := Lib.hid hgo403.1
          have HO404out := Lib.hid (HO402out.out.step hgo403.2 HRB.out)
          have HP403 := Lib.hid (HP.out.want HV403.out)
          obtain ⟨i403, hi403⟩ : ∃ z, wtI false v403 i = z := ⟨_, rfl⟩
          obtain ⟨b403, hb403⟩ : ∃ z, wtB false v403 = z := ⟨_, rfl⟩
          rw [hi403, hb403] at HM404
          rw [hi403, hb403] at HP403
          have HI403 := Lib.hid hi403
          have HB403 := Lib.hid hb403
          clear HO402out HM402 HP hi403 hb403 hgo403
          go_wp2_with (go_at_call 82; refine (st_make HM404 4 0 HO404out HKA (by omega)).mono ?_; rintro e w405 ⟨L405, ⟨g405, c405, rfl, ho405, hgo405⟩, HL405⟩; refine Hid.out ?_)
          refine Lib.hid ?_
          have HM406 := Lib.hid hgo405.1
          have HO406out := Lib.hid (HO404out.out.step hgo405.2 HRB.out)
          have HO405 := Lib.hid ho405
          have HK405 : Hid (Okn 3001 L405) := by rw [HL405.out]; exact HKA.out.mk 4 0 (by decide)
          clear HO404out HM404 ho405 hgo405
          have HF := Lib.hid (SRes.of HM406 HO405 HK405 (by decide) (Pg.fin HP403.out (T := fun acc : List Tr => .mk 4 noT 0 acc) (fun _ x hx => by rw [HL405.out]; exact Xx.mk1 hx 4 _ 0)))
          go_wp2_with fail
          go_ret
          exact HF.out
        | false =>
          have HV0 := Lib.hid hv0
          replace HP := Lib.hid (HP.out.eq (m' := fun acc => (P l f 15 i).bind fun x j => (listL l (P l f) k j).bind fun ts q => FL l ((acc ++ [x]) ++ ts) q) fun _ acc _ => list_more (i := i) hv0 acc (FL l))
          clear hv0
          go_wp2_with (go_at_call 80; refine (lk_is (v := ?_) (k := ?_) HM0 ?_ ?_ ?_).mono ?_; rotate_left 2; exact HV0; exact rfl; decide; rintro e w501 ⟨rfl, hgo501⟩; refine Hid.out ?_)
          refine Lib.hid ?_
          have HM502 := Lib.hid hgo501.1
          have HO502out := Lib.hid (HO.out.step hgo501.2 HRB.out)
          clear HO hgo501
          have HRD503 := Lib.hid (HG.out w501 rb cp i a l HM502.out.rd (by have h1 := HFC.out; have h2 := HKI.out; have h3 := HI4.out; have h5 := HIL.out; unfold FC at h1 ⊢; omega))
          go_wp2_with (go_at_call 116; refine (st_read HM502 HRD503.out).mono ?_; rintro e w503 ⟨i503, b503, L503, ⟨g503, c503, rfl, ho503, hgo503⟩, hk503, hr503⟩; refine Hid.out ?_)
          refine Lib.hid ?_
          have HM504 := Lib.hid hgo503.1
          have HO504out := Lib.hid (HO502out.out.step hgo503.2 HRB.out)
          have HO503 := Lib.hid ho503
          have HP503 := Lib.hid (HP.out.read0 hr503.out)
          clear HO502out HM502 ho503 hgo503 HRD503 HP
          have HGE : Hid (b503 = false → i < i503) := fun hb => Rel.ge0 (HLT.out 15 i) hr503.out hb
          have HSL : Hid (L.length + L503.length ≤ 200000000) := by have h1 := HK.out.1; have h2 := HJL.out; have h3 := HCL.out; have h4 := hk503.out.1; show _ ≤ _; omega
          obtain ⟨g506, c506, w506, L506, hr506, ho506, hm506, HL506⟩ := st_app HM504 HO504out.out HO503.out (HSL.out) HRB.out HNE.out 28
          have HO506 := Lib.hid ho506
          have HM506 := Lib.hid hm506
          have HR506 := Lib.hid hr506
          clear ho506 hm506 hr506
          go_wp2_with (at_builtin; refine wpList_plain rfl fun K hK => ?_; refine wp_appE _ _ rfl rfl rfl HR506.out ?_; refine hK _ _ ?_; refine Hid.out ?_)
          refine Lib.hid ?_
          clear HR506 HM504 HO504out
          have HOA : Hid (b503 = false → i < l.length) := fun hb => by have h1 := HGE.out hb; have h2 := HM506.out.rd.le; omega
          have HLB : Hid (LL w w506 rb cp a l M f i4 (.slice (some ⟨g506, 0, none⟩) L506.length c506) (if b503 = true then 0 else l.length + 1 - i503)) := ⟨g506, c506, L506, i503, b503, k, rfl, HO506.out, HM506.out, by rw [HL506.out]; exact okn_b (fun hb => (HK.out.app hk503.out).up (by have h1 := HGE.out hb; omega)) ((HK.out.app hk503.out).up (by have h1 := HJL.out; omega)), HP503.out.via (fun x => x.1 ++ [x.2]) (fun _ x hx => ⟨by rw [HL506.out, flL_app, flL_one]; exact hx.1.app hx.2, rfl⟩), (fun hb => by have h1 := HGE.out hb; have h2 := HKI.out; omega), Nat.le_refl _⟩
          go_wp2_with fail
          go_roundg (if b503 = true then 0 else l.length + 1 - i503)
          case measure =>
            have h4 := HQ.out
            have h6 := HJL.out
            by_cases hb : b503 = true
            · rw [if_pos hb]; omega
            · rw [if_neg hb]
              have h1 := HGE.out (by simpa using hb)
              omega
          case rel => exact HLB.out
  · have hTl : T = ⟨#[123]⟩ := HTX.out.symm
    subst hTl
    replace HMN : Hid (M = setP l (P l f) 0 i4) := by show _ = _; rw [HMN.out, if_neg (by decide), if_neg (by decide)]
    have HP0 : Hid (Pg M i4 false (fun _ : Unit => True) (fun _ => (bindsL l (P l f) (l.length + 1) i4).bind fun bs j => wt l sShut j fun q => .ok (.mk 5 noT 0 bs) q)) := by
      show Pg M i4 false _ _
      rw [HMN.out]
      exact Pg.start _ _
    clear HMN
    have HRD101 := Lib.hid (HBB.out w4 rb cp i4 a l false HM4.out.rd (by have h1 := HFC.out; have h2 := HI4.out; have h5 := HIL.out; unfold FC at h1 ⊢; omega))
    go_wp2_with (go_at_call 86; refine (st_readL HM4 HRD101.out).mono ?_; rintro e w101 ⟨i101, b101, L101, ⟨g101, c101, rfl, ho101, hgo101⟩, hk101, hr101⟩; refine Hid.out ?_)
    refine Lib.hid ?_
    have HM102 := Lib.hid hgo101.1
    have HO101 := Lib.hid ho101
    have HP101 := Lib.hid (HP0.out.readL hr101.out)
    clear HM4 ho101 hgo101 HRD101 HP0
    obtain ⟨v103, hv103⟩ : ∃ v, isS l (i101) [125] = v := ⟨_, rfl⟩
    have HV103 := Lib.hid hv103
    clear hv103
    go_wp2_with (go_at_call 89; refine (st_want (v := ?_) HM102 ?_).mono ?_; rotate_left 1; exact HV103; rintro e w103 ⟨rfl, hgo103⟩; refine Hid.out ?_)
    refine Lib.hid ?_
    have HM104 := Lib.hid hgo103.1
    have HO104bs := Lib.hid (HO101.out.step hgo103.2 HRB.out)
    have HP103 := Lib.hid (HP101.out.want HV103.out)
    obtain ⟨i103, hi103⟩ : ∃ z, wtI b101 v103 i101 = z := ⟨_, rfl⟩
    obtain ⟨b103, hb103⟩ : ∃ z, wtB b101 v103 = z := ⟨_, rfl⟩
    rw [hi103, hb103] at HM104
    rw [hi103, hb103] at HP103
    have HI103 := Lib.hid hi103
    have HB103 := Lib.hid hb103
    clear HO101 HM102 HP101 hi103 hb103 hgo103
    go_wp2_with (go_at_call 82; refine (st_make HM104 5 0 HO104bs hk101 (by omega)).mono ?_; rintro e w105 ⟨L105, ⟨g105, c105, rfl, ho105, hgo105⟩, HL105⟩; refine Hid.out ?_)
    refine Lib.hid ?_
    have HM106 := Lib.hid hgo105.1
    have HO106bs := Lib.hid (HO104bs.out.step hgo105.2 HRB.out)
    have HO105 := Lib.hid ho105
    have HK105 : Hid (Okn 3001 L105) := by rw [HL105.out]; exact hk101.out.mk 5 0 (by decide)
    clear HO104bs HM104 ho105 hgo105
    have HF := Lib.hid (SRes.of HM106 HO105 HK105 (by decide) (Pg.fin HP103.out (T := fun x : Unit × List Tr => .mk 5 noT 0 x.2) (fun _ x hx => by rw [HL105.out]; exact Xx.mk1 hx.2 5 _ 0)))
    go_wp2_with fail
    go_ret
    exact HF.out
theorem atom_any {f : Nat} (hE : CE f) (hB : CB f) (hG : CG f) (hlt : ∀ l, Lt l f) : CA (f + 1) := by
  intro w rb cp i a l h hf
  rw [P_at]
  cases hb : beginsB l i with
  | false => exact atom_bad h (.inl hb)
  | true =>
    cases ht : takesB l i with
    | true => exact atom_bad h (.inr ⟨hb, ht⟩)
    | false => exact atom_good hE hB hG hlt h hf hb ht
end Go.Proofs.YtifgaaemdojmpaaGreatDoor.pr

namespace Go.Proofs.YtifgaaemdojmpaaGreatDoor.lx
open Go.ChangeShapes Go.WideShapes Go.ChangeAt Go.RowKit Go.Deep
set_option linter.unusedVariables false
set_option linter.unusedSimpArgs false

theorem info5 : (Tryz.prog.info? 5).map (fun i => (i.zero, i.size, i.bytes)) = some (some (.int .u8 0), 1, 1) := by kernel_rfl

theorem blank_any (b : UInt8) (w : World) :
    Calls Tryz.prog 77 #[.int .u8 (b.toNat : Int)] w fun e w' => e = .returned (.bool (isBlank b)) ∧ w' = w := by
  go_enter Tryz.func77, Tryz.ntmps77
  go_wp2
  all_goals go_ret
  all_goals refine ⟨ret_bool ?_, rfl⟩
  all_goals simp [isBlank, isB, *]

theorem ret_si {a b : ByteArray} {k : IntKind} {c d : Int} (h : a = b) (h2 : c = d) : Ending.returned (.tuple #[.string a, .int k c]) = .returned (.tuple #[.string b, .int k d]) := by rw [h, h2]

/-- What l2Text answers. -/
def txS (l : List UInt8) : ByteArray := match txt l with | some (acc, _) => ⟨acc.toArray⟩ | none => ⟨#[]⟩
def txI (l : List UInt8) (p : Nat) : Int := match txt l with | some (_, n) => ((p + n : Nat) : Int) | none => -1

theorem tx_no {l : List UInt8} {p : Nat} (h : txt l = none) : Ending.returned (.tuple #[.string ⟨#[]⟩, .int .i64 (-1)]) = .returned (.tuple #[.string (txS l), .int .i64 (txI l p)]) :=
  ret_si (by simp [txS, h]) (by simp [txI, h])
theorem tx_yes {l acc : List UInt8} {p n : Nat} (h : txt l = some (acc, n)) : Ending.returned (.tuple #[.string ⟨acc.toArray⟩, .int .i64 ((p + n : Nat) : Int)]) = .returned (.tuple #[.string (txS l), .int .i64 (txI l p)]) :=
  ret_si (by simp [txS, h]) (by simp [txI, h])

theorem st_len {l : List UInt8} : ∀ {j o acc}, stTo l j = some (o, acc) → acc.length ≤ 4000 := by
  intro j
  induction j with
  | zero => intro o acc h; cases h; simp
  | succ j ih =>
    intro o acc h
    unfold stTo at h
    split at h
    · rename_i o' acc' h'
      have := ih h'
      split at h
      · split at h
        · cases h; exact this
        · split at h
          · split at h
            · cases h
            · cases h; simp; omega
          · cases h
      · cases h; exact this
    · cases h

theorem own_empty (w : World) : (w.alloc (.cells #[] 5)).ownsRow w.heap.size 5 1 (.slice (some ⟨w.heap.size, 0, none⟩) 0 0) 0 (byteCells []) := World.ownsRow_made w #[] 0 (Nat.le_refl _) (by decide) rfl

set_option maxRecDepth 100000 in
set_option maxHeartbeats 1000000 in
theorem text_any (s : ByteArray) (hs : s.size ≤ 20000) (p : Nat) (hp : p < s.size) (w : World) :
    Calls Tryz.prog 104 #[.string s, .int .i64 (p : Int)] w fun e w' => e = .returned (.tuple #[.string (txS (suf s p)), .int .i64 (txI (suf s p) p)]) ∧ Below w.heap.size w w' := by
  have hsl := suf_len s p
  go_enter Tryz.func104, Tryz.ntmps104
  go_wp2
  go_loopw [6, 7, 8] (fun v i _ wr => ∃ (j o : Nat) (acc : List UInt8) (a : Option Addr) (cap : Nat), stTo (suf s p) j = some (o, acc) ∧ j < o ∧ p + o ≤ s.size ∧ i = .int .i64 ((p + o : Nat) : Int) ∧ v = .slice a acc.length cap ∧ wr.ownsRow w.heap.size 5 1 (.slice a acc.length cap) acc.length (byteCells acc) ∧ Below w.heap.size w wr) (fun _ i _ _ => s.size + 2 - (intOf i).toNat)
  case atStart => exact ⟨0, 1, [], _, _, rfl, by omega, by omega, by go_num, rfl, own_empty w, (Below.refl _ _).alloc (Nat.le_refl _) _⟩
  case round =>
    obtain ⟨j, o, acc, a, cap, hst, hj, ho, rfl, rfl, hown, hbel⟩ := hrel
    have HS : Hid (stTo (suf s p) j = some (o, acc)) := hst
    have hal := st_len hst
    clear hst
    have hsz := hbel.size
    by_cases hlt : p + o < s.size
    · have hjl : j + 1 ≤ (suf s p).length := by omega
      have HG : Hid ((suf s p)[o]? = some s[p + o]) := suf_get hlt
      have hlti : ((p + o : Nat) : Int) < (s.size : Int) := by omega
      by_cases e34 : s[p + o] = 34
      · have HT : Hid (txt (suf s p) = some (acc, o + 1)) := txt_end (by omega) HS.out (by rw [HG.out, e34])
        have q34 : ((s[p + o].toNat : Int) == 34) = true := by rw [e34]; rfl
        have hconv := own_string (P := Tryz.prog) Tryz.underlying22 Tryz.underlying5 Tryz.underlying9 hown
        clear e34
        go_wp2
        go_ret2
        exact ⟨(ret_si rfl (by omega)).trans (tx_yes (p := p) HT.out), hbel⟩
      have q34 : ((s[p + o].toNat : Int) == 34) = false := byte_ne e34
      have HN0 : Hid (stTo (suf s p) (j + 1) = match pc ((suf s p).drop o) with | some (b, n) => if acc.length = 4000 then none else some (o + n, acc ++ [b]) | none => none) := st_step HS.out HG.out e34
      have HD : Hid ((suf s p).drop o = s[p + o] :: suf s (p + o + 1)) := by
        show (suf s p).drop o = _
        rw [suf_drop]
        exact suf_cons hlt
      clear e34
      by_cases h32 : s[p + o].toNat < 32
      · have HT : Hid (txt (suf s p) = none) := txt_fail hjl (by rw [HN0.out, HD.out]; simp [pc, h32])
        have q32 : (s[p + o].toNat : Int) < 32 := by omega
        clear h32
        go_wp2
        go_ret2
        exact ⟨tx_no HT.out, hbel⟩
      have q32 : ¬ (s[p + o].toNat : Int) < 32 := by omega
      by_cases h4 : acc.length = 4000
      · have HT : Hid (txt (suf s p) = none) := txt_fail hjl (by rw [HN0.out]; split <;> simp [h4])
        have q4 : ((acc.length : Int) == 4000) = true := by rw [h4]; rfl
        clear h4 h32
        go_wp2
        go_ret2
        exact ⟨tx_no HT.out, hbel⟩
      have q4 : ((acc.length : Int) == 4000) = false := by simp; omega
      by_cases e92 : s[p + o] = 92
      · have q92 : ((s[p + o].toNat : Int) == 92) = true := by rw [e92]; rfl
        have E92 : Hid (s[p + o] = 92) := e92
        by_cases hl2 : p + o + 1 < s.size
        · have HE : Hid (stTo (suf s p) (j + 1) = match esc s[p + o + 1] with | some (b, n) => some (o + n, acc ++ [b]) | none => none) := by
            show stTo (suf s p) (j + 1) = _
            rw [HN0.out, HD.out, suf_cons hl2]
            simp only [pc, e92]
            have h32' : ¬ (92 : UInt8).toNat < 32 := by decide
            simp only [h32', if_false, if_true]
            cases esc s[p + o + 1] <;> simp [h4]
          have ql : (((p : Int) + (o : Int) + 1) == (s.size : Int)) = false := by simp; omega
          have ql2 : (p : Int) + (o : Int) + 1 < (s.size : Int) := by omega
          clear e92 h4 h32
          by_cases d1 : s[p + o + 1] = 110
          · have HN : Hid (stTo (suf s p) (j + 1) = some (o + 2, acc ++ [10])) := by show stTo _ _ = _; rw [HE.out, d1]; rfl
            have qd : ((s[p + o + 1].toNat : Int) == 110) = true := by rw [d1]; rfl
            clear d1
            go_wp2_with (first
              | (at_builtin; refine app_own _ rfl _ _ 22 rfl w.heap.size 5 (.int .u8 0) 1 Tryz.underlying22 info5 rfl _ _ _ rfl (hown.alloc _) ⟨wr.heap.size, 0, none⟩ 1 1 (byteCells [10]) rfl rfl ?c1 (byteCells_oneCell _) ?c3 ?c4 ?c5 ?_)
              | go_in)
            case c1 => first | exact one_new _ _ _ | exact fun j u h => h
            case c3 => unfold maxLen; omega
            case c4 => omega
            case c5 => first | omega | (simp; omega)
            intro v' w' hown' hg
            have hb' := below_grown (hbel.alloc hsz _) (hown.alloc _) hg (by simp; omega)
            rw [← byteCells_append] at hown'
            obtain ⟨a', cap', rfl⟩ := own_shape hown'
            go_wp2
            go_roundw
            case rel => exact ⟨j + 1, o + 2, acc ++ [10], a', cap', HN.out, by omega, by omega, by go_num, by simp, by rw [List.length_append]; exact hown', hb'⟩
            case measure => simp [intOf]; omega
          have q1 : ((s[p + o + 1].toNat : Int) == 110) = false := byte_ne d1
          by_cases d2 : s[p + o + 1] = 116
          · have HN : Hid (stTo (suf s p) (j + 1) = some (o + 2, acc ++ [9])) := by show stTo _ _ = _; rw [HE.out, d2]; rfl
            have qd : ((s[p + o + 1].toNat : Int) == 116) = true := by rw [d2]; rfl
            clear d1 d2
            go_wp2_with (first
              | (at_builtin; refine app_own _ rfl _ _ 22 rfl w.heap.size 5 (.int .u8 0) 1 Tryz.underlying22 info5 rfl _ _ _ rfl (hown.alloc _) ⟨wr.heap.size, 0, none⟩ 1 1 (byteCells [9]) rfl rfl ?c1 (byteCells_oneCell _) ?c3 ?c4 ?c5 ?_)
              | go_in)
            case c1 => first | exact one_new _ _ _ | exact fun j u h => h
            case c3 => unfold maxLen; omega
            case c4 => omega
            case c5 => first | omega | (simp; omega)
            intro v' w' hown' hg
            have hb' := below_grown (hbel.alloc hsz _) (hown.alloc _) hg (by simp; omega)
            rw [← byteCells_append] at hown'
            obtain ⟨a', cap', rfl⟩ := own_shape hown'
            go_wp2
            go_roundw
            case rel => exact ⟨j + 1, o + 2, acc ++ [9], a', cap', HN.out, by omega, by omega, by go_num, by simp, by rw [List.length_append]; exact hown', hb'⟩
            case measure => simp [intOf]; omega
          have q2 : ((s[p + o + 1].toNat : Int) == 116) = false := byte_ne d2
          by_cases d3 : s[p + o + 1] = 34
          · have HN : Hid (stTo (suf s p) (j + 1) = some (o + 2, acc ++ [34])) := by show stTo _ _ = _; rw [HE.out, d3]; rfl
            have qd : ((s[p + o + 1].toNat : Int) == 34) = true := by rw [d3]; rfl
            clear d1 d2 d3
            go_wp2_with (first
              | (at_builtin; refine app_own _ rfl _ _ 22 rfl w.heap.size 5 (.int .u8 0) 1 Tryz.underlying22 info5 rfl _ _ _ rfl (hown.alloc _) ⟨wr.heap.size, 0, none⟩ 1 1 (byteCells [34]) rfl rfl ?c1 (byteCells_oneCell _) ?c3 ?c4 ?c5 ?_)
              | go_in)
            case c1 => first | exact one_new _ _ _ | exact fun j u h => h
            case c3 => unfold maxLen; omega
            case c4 => omega
            case c5 => first | omega | (simp; omega)
            intro v' w' hown' hg
            have hb' := below_grown (hbel.alloc hsz _) (hown.alloc _) hg (by simp; omega)
            rw [← byteCells_append] at hown'
            obtain ⟨a', cap', rfl⟩ := own_shape hown'
            go_wp2
            go_roundw
            case rel => exact ⟨j + 1, o + 2, acc ++ [34], a', cap', HN.out, by omega, by omega, by go_num, by simp, by rw [List.length_append]; exact hown', hb'⟩
            case measure => simp [intOf]; omega
          have q3 : ((s[p + o + 1].toNat : Int) == 34) = false := byte_ne d3
          by_cases d4 : s[p + o + 1] = 92
          · have HN : Hid (stTo (suf s p) (j + 1) = some (o + 2, acc ++ [s[p + o]])) := by show stTo _ _ = _; rw [HE.out, d4, E92.out]; rfl
            have qd : ((s[p + o + 1].toNat : Int) == 92) = true := by rw [d4]; rfl
            clear d1 d2 d3 d4
            go_wp2_with (first
              | (at_builtin; refine app_own _ rfl _ _ 22 rfl w.heap.size 5 (.int .u8 0) 1 Tryz.underlying22 info5 rfl _ _ _ rfl (hown.alloc _) ⟨wr.heap.size, 0, none⟩ 1 1 (byteCells [s[p + o]]) rfl rfl ?c1 (byteCells_oneCell _) ?c3 ?c4 ?c5 ?_)
              | go_in)
            case c1 => first | exact one_new _ _ _ | exact fun j u h => h
            case c3 => unfold maxLen; omega
            case c4 => omega
            case c5 => first | omega | (simp; omega)
            intro v' w' hown' hg
            have hb' := below_grown (hbel.alloc hsz _) (hown.alloc _) hg (by simp; omega)
            rw [← byteCells_append] at hown'
            obtain ⟨a', cap', rfl⟩ := own_shape hown'
            go_wp2
            go_roundw
            case rel => exact ⟨j + 1, o + 2, acc ++ [s[p + o]], a', cap', HN.out, by omega, by omega, by go_num, by simp, by rw [List.length_append]; exact hown', hb'⟩
            case measure => simp [intOf]; omega
          have q5 : ((s[p + o + 1].toNat : Int) == 92) = false := byte_ne d4
          have HT : Hid (txt (suf s p) = none) := txt_fail hjl (by rw [HE.out]; simp [esc, d1, d2, d3, d4])
          clear d1 d2 d3 d4
          go_wp2
          go_ret2
          exact ⟨tx_no HT.out, hbel⟩
        · have HT : Hid (txt (suf s p) = none) := txt_fail hjl (by
            rw [HN0.out, HD.out, suf_end (by omega)]
            simp [pc, e92])
          have ql : (((p : Int) + (o : Int) + 1) == (s.size : Int)) = true := by simp; omega
          clear e92 h4 h32
          go_wp2
          go_ret2
          exact ⟨tx_no HT.out, hbel⟩
      have q92 : ((s[p + o].toNat : Int) == 92) = false := byte_ne e92
      have HN : Hid (stTo (suf s p) (j + 1) = some (o + 1, acc ++ [s[p + o]])) := by
        show stTo _ _ = _
        rw [HN0.out, HD.out]
        simp [pc, h32, e92, h4]
      clear e92 h4 h32
      go_wp2_with (first
        | (at_builtin; refine app_own _ rfl _ _ 22 rfl w.heap.size 5 (.int .u8 0) 1 Tryz.underlying22 info5 rfl _ _ _ rfl (hown.alloc _) ⟨wr.heap.size, 0, none⟩ 1 1 (byteCells [s[p + o]]) rfl rfl ?c1 (byteCells_oneCell _) ?c3 ?c4 ?c5 ?_)
        | go_in)
      case c1 => first | exact one_new _ _ _ | exact fun j u h => h
      case c3 => unfold maxLen; omega
      case c4 => omega
      case c5 => first | omega | (simp; omega)
      intro v' w' hown' hg
      have hb' := below_grown (hbel.alloc hsz _) (hown.alloc _) hg (by simp; omega)
      rw [← byteCells_append] at hown'
      obtain ⟨a', cap', rfl⟩ := own_shape hown'
      go_wp2
      go_roundw
      case rel => exact ⟨j + 1, o + 1, acc ++ [s[p + o]], a', cap', HN.out, by omega, by omega, by go_num, by simp, by rw [List.length_append]; exact hown', hb'⟩
      case measure => simp [intOf]; omega
    · have HT : Hid (txt (suf s p) = none) := txt_open (by omega) HS.out (by omega)
      have hlti : ¬ ((p + o : Nat) : Int) < (s.size : Int) := by omega
      go_wp2
      go_ret2
      exact ⟨tx_no HT.out, hbel⟩

end Go.Proofs.YtifgaaemdojmpaaGreatDoor.lx

namespace Go.Proofs.YtifgaaemdojmpaaGreatDoor.lx
open Go.ChangeShapes Go.WideShapes Go.ChangeAt Go.RowKit Go.Deep
set_option linter.unusedVariables false
set_option linter.unusedSimpArgs false

def lxV (x : Lx) (p : Nat) : Value := .agg #[.int .i64 x.kind, .string ⟨x.text.toArray⟩, .int .i64 x.num, .int .i64 (p : Int)]

/-- What l2One answers at a place. -/
def OneIs (l : List UInt8) (p : Nat) (e : Ending) : Prop :=
  (∃ x, one l = some x ∧ e = .returned (.tuple #[lxV x p, .int .i64 ((p + x.size : Nat) : Int)])) ∨
  (one l = none ∧ ∃ a b c d, e = .returned (.tuple #[.agg #[.int .i64 a, .string b, .int .i64 c, .int .i64 d], .int .i64 (-1)]))

theorem one_first {s : ByteArray} {p : Nat} (hp : p < s.size) (h : isFirst s[p] = true) : one (suf s p) = word (suf s p) := by
  rw [suf_cons hp]; simp [one, h]
theorem one_digit {s : ByteArray} {p : Nat} (hp : p < s.size) (h : isFirst s[p] = false) (h2 : isDig s[p] = true) : one (suf s p) = int (suf s p) := by
  rw [suf_cons hp]; simp [one, h, h2]
theorem one_text {s : ByteArray} {p : Nat} (hp : p < s.size) (h : isFirst s[p] = false) (h2 : isDig s[p] = false) (h3 : isB 34 s[p] = true) : one (suf s p) = text (suf s p) := by
  rw [suf_cons hp]; simp [one, h, h2, h3]
theorem one_sign {s : ByteArray} {p : Nat} (hp : p < s.size) (h : isFirst s[p] = false) (h2 : isDig s[p] = false) (h3 : isB 34 s[p] = false) : one (suf s p) = sign (suf s p) := by
  rw [suf_cons hp]; simp [one, h, h2, h3]

theorem two_bel (w : World) (x y : Obj) : Below w.heap.size w ((w.alloc x).alloc y) := ((Below.refl _ _).alloc (Nat.le_refl _) _).alloc (by simp) _

theorem word_no {s : ByteArray} {p k : Nat} {a : Int} {b : ByteArray} {c d : Int} (h1 : one (suf s p) = word (suf s p)) (hk : k = run isWord (suf s p)) (hb : 60 < k) :
    OneIs (suf s p) p (.returned (.tuple #[.agg #[.int .i64 a, .string b, .int .i64 c, .int .i64 d], .int .i64 (-1)])) :=
  .inr ⟨by rw [h1, word, ← hk, if_pos hb], _, _, _, _, rfl⟩

theorem word_yes {s : ByteArray} {p k : Nat} (h1 : one (suf s p) = word (suf s p)) (hk : k = run isWord (suf s p)) (hb : ¬ 60 < k) (hl : p + k ≤ s.size) :
    OneIs (suf s p) p (.returned (.tuple #[.agg #[.int .i64 1, .string (s.extract p (p + k)), .int .i64 0, .int .i64 (p : Int)], .int .i64 ((p : Int) + (k : Int))])) := by
  refine .inl ⟨⟨1, (suf s p).take k, 0, k⟩, by rw [h1, word, ← hk, if_neg hb], ?_⟩
  unfold lxV
  rw [← ext_take hl]
  rfl

set_option maxHeartbeats 1000000 in
theorem one_word (s : ByteArray) (hs : s.size ≤ 20000) (p : Nat) (hp : p < s.size) (hf : isFirst s[p] = true) (w : World) :
    Calls Tryz.prog 78 #[.string s, .int .i64 (p : Int)] w fun e w' => OneIs (suf s p) p e ∧ Below w.heap.size w w' := by
  have hsl := suf_len s p
  have H1 : Hid (one (suf s p) = word (suf s p)) := one_first hp hf
  have hrl := run_le isWord (suf s p)
  have hpi : (p : Int) < (s.size : Int) := by omega
  have HF : Hid (isWord s[p] = true) := isWord_first hf
  have hF2 : (isLet s[p] || ((s[p].toNat : Int) == 95)) = true := hf
  have hcase : isLet s[p] = true ∨ (isLet s[p] = false ∧ ((s[p].toNat : Int) == 95) = true) := by
    cases h : isLet s[p]
    · right; rw [h] at hF2; exact ⟨rfl, by simpa using hF2⟩
    · left; rfl
  clear hF2 hf
  rcases hcase with hL | ⟨hL, hU⟩
  all_goals
    go_enter Tryz.func78, Tryz.ntmps78
    go_wp2_with (go_at_call 91; refine (letter_any _ _).mono ?_; rintro e w' ⟨rfl, rfl⟩)
    go_loop [8] (fun i => ∃ k : Nat, k ≤ run isWord (suf s p) ∧ i = .int .i64 ((p + k : Nat) : Int)) (fun i => s.size - (intOf i).toNat)
    case atStart => exact ⟨0, Nat.zero_le _, rfl⟩
    case round =>
      obtain ⟨k, hk, rfl⟩ := hrel
      by_cases hlt : p + k < s.size
      · have HG : Hid ((suf s p)[k]? = some s[p + k]) := suf_get hlt
        have hlti : ((p + k : Nat) : Int) < (s.size : Int) := by omega
        cases hw : isWord s[p + k] with
        | true =>
          have hk2 := run_lt hk HG.out hw
          go_wp2_with (go_at_call 93; refine (wordByte_any _ _).mono ?_; rintro e w' ⟨rfl, rfl⟩)
          go_round
          case rel => exact ⟨k + 1, by omega, by go_num⟩
          case measure => simp [intOf]; omega
        | false =>
          have HK : Hid (k = run isWord (suf s p)) := run_stop hk HG.out hw
          by_cases hb : 60 < k
          · go_wp2_with (go_at_call 93; refine (wordByte_any _ _).mono ?_; rintro e w' ⟨rfl, rfl⟩)
            exact bodyPost_ret (v := .tuple #[.agg #[.int .i64 0, .string ⟨#[]⟩, .int .i64 0, .int .i64 (p : Int)], .int .i64 (-1)]) (by simp [results, Tryz.results78, go_sem]) rfl ⟨word_no H1.out HK.out hb, two_bel _ _ _⟩
          · go_wp2_with (go_at_call 93; refine (wordByte_any _ _).mono ?_; rintro e w' ⟨rfl, rfl⟩)
            exact bodyPost_ret (v := .tuple #[.agg #[.int .i64 1, .string (s.extract p (p + k)), .int .i64 0, .int .i64 (p : Int)], .int .i64 ((p : Int) + (k : Int))]) (by simp [results, Tryz.results78, go_sem]) rfl ⟨word_yes H1.out HK.out hb (by omega), two_bel _ _ _⟩
      · have HK : Hid (k = run isWord (suf s p)) := run_all hk (by omega)
        have hlti : ¬ ((p + k : Nat) : Int) < (s.size : Int) := by omega
        by_cases hb : 60 < k
        · go_wp2
          exact bodyPost_ret (v := .tuple #[.agg #[.int .i64 0, .string ⟨#[]⟩, .int .i64 0, .int .i64 (p : Int)], .int .i64 (-1)]) (by simp [results, Tryz.results78, go_sem]) rfl ⟨word_no H1.out HK.out hb, two_bel _ _ _⟩
        · go_wp2
          exact bodyPost_ret (v := .tuple #[.agg #[.int .i64 1, .string (s.extract p (p + k)), .int .i64 0, .int .i64 (p : Int)], .int .i64 ((p : Int) + (k : Int))]) (by simp [results, Tryz.results78, go_sem]) rfl ⟨word_yes H1.out HK.out hb (by omega), two_bel _ _ _⟩

end Go.Proofs.YtifgaaemdojmpaaGreatDoor.lx

namespace Go.Proofs.YtifgaaemdojmpaaGreatDoor.lx
open Go.ChangeShapes Go.WideShapes Go.ChangeAt Go.RowKit Go.Deep
set_option linter.unusedVariables false
set_option linter.unusedSimpArgs false

/-- The world while a number is read: the answer's block, and x. -/
def numW (w : World) (p v : Nat) (q : Nat) : World :=
  ((w.alloc (.cells #[.int .i64 0, .string ⟨#[]⟩, .int .i64 0, .int .i64 0] 141)).alloc (.cells #[.int .i64 0, .string ⟨#[]⟩, .int .i64 (v : Int), .int .i64 (p : Int)] 141)).drewN q

theorem dig_nat {b : UInt8} (h : isDig b = true) : 48 ≤ b.toNat ∧ b.toNat ≤ 57 := by
  simp only [isDig, decide_eq_true_eq] at h
  omega

theorem val_wrap {l : List UInt8} {k : Nat} {b : UInt8} (h : val l k ≤ 9007199254740992) (hb : l[k]? = some b) (hd : isDig b = true) :
    wrap64 (wrap64 (((val l k : Nat) : Int) * 10) + ((b.toNat : Int) - 48) % 256) = ((val l (k + 1) : Nat) : Int) := by
  have := dig_nat hd
  have e : val l (k + 1) = val l k * 10 + (b.toNat - 48) := by simp [val, hb]
  rw [e]
  simp only [wrap64, IntKind.wrap, IntKind.bits, IntKind.signed]
  simp
  omega

theorem int_no {s : ByteArray} {p k : Nat} {a : Int} {b : ByteArray} {c d : Int} (h1 : one (suf s p) = int (suf s p)) (hk : k < run isDig (suf s p)) (hb : 9007199254740992 < val (suf s p) (k + 1)) :
    OneIs (suf s p) p (.returned (.tuple #[.agg #[.int .i64 a, .string b, .int .i64 c, .int .i64 d], .int .i64 (-1)])) := by
  refine .inr ⟨?_, _, _, _, _, rfl⟩
  have := val_mono (suf s p) (k + 1) (run isDig (suf s p) - (k + 1))
  rw [show k + 1 + (run isDig (suf s p) - (k + 1)) = run isDig (suf s p) by omega] at this
  rw [h1, int, if_pos (by omega)]

theorem int_yes {s : ByteArray} {p k : Nat} (h1 : one (suf s p) = int (suf s p)) (hk : k = run isDig (suf s p)) (hv : val (suf s p) k ≤ 9007199254740992) :
    OneIs (suf s p) p (.returned (.tuple #[.agg #[.int .i64 2, .string ⟨#[]⟩, .int .i64 ((val (suf s p) k : Nat) : Int), .int .i64 (p : Int)], .int .i64 ((p : Int) + (k : Int))])) := by
  refine .inl ⟨⟨2, [], ((val (suf s p) k : Nat) : Int), k⟩, by rw [h1, int, ← hk, if_neg (by omega)], ?_⟩
  rfl

set_option maxHeartbeats 1000000 in
theorem one_int (s : ByteArray) (hs : s.size ≤ 20000) (p : Nat) (hp : p < s.size) (hf : isFirst s[p] = false) (hd : isDig s[p] = true) (w : World) :
    Calls Tryz.prog 78 #[.string s, .int .i64 (p : Int)] w fun e w' => OneIs (suf s p) p e ∧ Below w.heap.size w w' := by
  have hsl := suf_len s p
  have H1 : Hid (one (suf s p) = int (suf s p)) := one_digit hp hf hd
  have hrl := run_le isDig (suf s p)
  have hpi : (p : Int) < (s.size : Int) := by omega
  have hL : isLet s[p] = false := by simp only [isFirst, Bool.or_eq_false_iff] at hf; exact hf.1
  have hU : ((s[p].toNat : Int) == 95) = false := by simp only [isFirst, Bool.or_eq_false_iff] at hf; exact hf.2
  clear hf
  have hsd : ∀ (W : World) (q : Nat) (a : Addr) (v : Value), (W.drewN q).setCell a v = (W.setCell a v).drewN q := fun _ _ _ _ => rfl
  go_enter Tryz.func78, Tryz.ntmps78
  go_wp2_with (first
    | (go_at_call 91; refine (letter_any _ _).mono ?_; rintro e w' ⟨rfl, rfl⟩)
    | (go_at_call 103; refine (digit_any _ _).mono ?_; rintro e w' ⟨rfl, rfl⟩))
  go_loopw [8] (fun i wr => ∃ k q : Nat, k ≤ run isDig (suf s p) ∧ i = .int .i64 ((p + k : Nat) : Int) ∧ val (suf s p) k ≤ 9007199254740992 ∧ wr = numW w p (val (suf s p) k) q) (fun i _ => s.size - (intOf i).toNat)
  case atStart => exact ⟨0, 0, Nat.zero_le _, rfl, by simp [val], rfl⟩
  case round =>
    obtain ⟨k, q, hk, rfl, hv, rfl⟩ := hrel
    have HV : Hid (val (suf s p) k ≤ 9007199254740992) := hv
    clear hv
    by_cases hlt : p + k < s.size
    · have HG : Hid ((suf s p)[k]? = some s[p + k]) := suf_get hlt
      have hlti : ((p + k : Nat) : Int) < (s.size : Int) := by omega
      cases hw : isDig s[p + k] with
      | true =>
        have hk2 := run_lt hk HG.out hw
        have hval : wrap64 (wrap64 (((val (suf s p) k : Nat) : Int) * 10) + ((s[p + k].toNat : Int) - 48) % 256) = ((val (suf s p) (k + 1) : Nat) : Int) := val_wrap HV.out HG.out hw
        unfold numW
        by_cases hc : val (suf s p) (k + 1) ≤ 9007199254740992
        · have HC : Hid (val (suf s p) (k + 1) ≤ 9007199254740992) := hc
          have hci : ¬ (9007199254740992 : Int) < ((val (suf s p) (k + 1) : Nat) : Int) := by omega
          clear hc
          go_wp2_with (go_at_call 103; refine (digit_any _ _).mono ?_; rintro e w' ⟨rfl, rfl⟩)
          go_region
          go_wp2
          go_roundw
          case rel => exact ⟨k + 1, _, by omega, by go_num, HC.out, rfl⟩
          case measure => simp [intOf]; omega
        · have HC : Hid (9007199254740992 < val (suf s p) (k + 1)) := by show _ < _; omega
          have hci : (9007199254740992 : Int) < ((val (suf s p) (k + 1) : Nat) : Int) := by omega
          clear hc
          go_wp2_with (go_at_call 103; refine (digit_any _ _).mono ?_; rintro e w' ⟨rfl, rfl⟩)
          go_region
          go_wp2
          exact bodyPost_ret (v := .tuple #[.agg #[.int .i64 0, .string ⟨#[]⟩, .int .i64 ((val (suf s p) (k + 1) : Nat) : Int), .int .i64 (p : Int)], .int .i64 (-1)]) (by simp [results, Tryz.results78, go_sem]) rfl ⟨int_no H1.out hk2 HC.out, below_drewN (two_bel _ _ _) _⟩
      | false =>
        have HK : Hid (k = run isDig (suf s p)) := run_stop hk HG.out hw
        unfold numW
        go_wp2_with (go_at_call 103; refine (digit_any _ _).mono ?_; rintro e w' ⟨rfl, rfl⟩)
        exact bodyPost_ret (v := .tuple #[.agg #[.int .i64 2, .string ⟨#[]⟩, .int .i64 ((val (suf s p) k : Nat) : Int), .int .i64 (p : Int)], .int .i64 ((p : Int) + (k : Int))]) (by simp [results, Tryz.results78, go_sem]) rfl ⟨int_yes H1.out HK.out HV.out, below_drewN (two_bel _ _ _) _⟩
    · have HK : Hid (k = run isDig (suf s p)) := run_all hk (by omega)
      have hlti : ¬ ((p + k : Nat) : Int) < (s.size : Int) := by omega
      unfold numW
      go_wp2
      exact bodyPost_ret (v := .tuple #[.agg #[.int .i64 2, .string ⟨#[]⟩, .int .i64 ((val (suf s p) k : Nat) : Int), .int .i64 (p : Int)], .int .i64 ((p : Int) + (k : Int))]) (by simp [results, Tryz.results78, go_sem]) rfl ⟨int_yes H1.out HK.out HV.out, below_drewN (two_bel _ _ _) _⟩

end Go.Proofs.YtifgaaemdojmpaaGreatDoor.lx
