import Derived.Test.YtccnepenfglfoaaGreatPRP
import Derived.Test.YtccnepenfglfoaaGreatPRD
namespace Go.Proofs.YtccnepenfglfoaaGreat.hp
open Go.ChangeShapes Go.WideShapes Go.ChangeAt Go.RowKit Go.Deep Go.Maps
open fa (Us uNo nmL nAt uNo_le TR.src own_at big_any DP dp_any same_any lunit_any us_nil)
open fw (Ua ua_of soA)
open ac (apS apL apA apX iapp_any)
set_option linter.unusedVariables false
set_option linter.unusedSimpArgs false

/-! ### FnPlanReaches: the law's walk -/

theorem own_srcS {W : World} {g : Nat} {L : List (List UInt8)} (h : ∀ i x, L[i]? = some x → W.cell? ⟨g, i, none⟩ = some (sr.strL x)) : ty.SrcS none W (some ⟨g, 0, none⟩) (bAs L) :=
  .inr ⟨g, 0, rfl, (fun lo e => by cases e), fun i x hx => by
    unfold bAs at hx
    rw [List.getElem?_map, Option.map_eq_some_iff] at hx
    obtain ⟨m, hm, rfl⟩ := hx
    show W.cell? ⟨g, 0 + i, none⟩ = _
    rw [Nat.zero_add]
    exact h i m hm⟩
theorem src_take {W : World} {a : Option Addr} {l : List ty.Ac} (h : ty.SrcAc none W a l) (k : Nat) : ty.SrcAc none W a (l.take k) := by
  rcases h with ⟨e, h⟩ | ⟨b, o, e, h1, h2⟩
  · exact .inl ⟨e, by rw [h]; simp⟩
  · refine .inr ⟨b, o, e, h1, fun i x hx => h2 i x ?_⟩
    rcases Nat.lt_or_ge i k with hk | hk
    · rw [List.getElem?_take_of_lt hk] at hx; exact hx
    · rw [List.getElem?_eq_none (by rw [List.length_take]; omega)] at hx; cases hx
theorem wtAc_le {l : List ty.Ac} (h : ∀ x ∈ l, x.fName.size ≤ 64) (hl : l.length ≤ 2000) : ty.wtAc l ≤ 1048576 := by
  unfold ty.wtAc ty.wtkAc
  rw [List.take_length]
  have := sum_le (f := ty.wt1Ac) (B := 64) (l := l) fun x hx => h x hx
  omega
theorem str_tr {W : World} {g c : Nat} {l : List ByteArray} {lo : Nat} (h : ty.SrcS (some lo) W (some ⟨g, 0, none⟩) l) (h1 : l.length ≤ c) (h2 : c ≤ maxLen) : sr.StrR W (.slice (some ⟨g, 0, none⟩) l.length c) (l.map fun b => b.data.toList) := by
  rcases h with h | ⟨b, o, e, _, hc⟩
  · cases h.1
  · refine ⟨b, o, c, by rw [e, List.length_map], by rw [List.length_map]; exact h1, h2, fun i x hx => ?_⟩
    rw [List.getElem?_map, Option.map_eq_some_iff] at hx
    obtain ⟨y, hy, rfl⟩ := hx
    rw [hc i y hy, sr.strL_of]

set_option maxRecDepth 100000 in
set_option maxHeartbeats 16000000 in
theorem pr_law (a a' : Option Addr) (n cap n' cap' : Nat) (w : World) (hb : dr.CodeB w a n) (hlt : ∀ x, a = some x → 0 < n → x.block < w.heap.size) :
    Calls Tryz.prog 3 #[.slice a n cap, .slice a' n' cap'] w fun e w' => e = .returned (.bool true) ∧ Below w.heap.size w w' := by
  have HBG : Hid (∀ (a : Option Addr) (n cap : Nat) (W : World), Calls Tryz.prog 4 #[.slice a n cap] W fun e w' => e = .returned (.bool (decide (1048576 < (n : Int)))) ∧ w' = W) := fun a n cap W => big_any a n cap W
  by_cases hn : n ≤ 1048576
  rotate_left
  · have hn' : (1048576 : Int) < (n : Int) := by omega
    have hd' : decide (1048576 < (n : Int)) = true := by simpa using hn'
    go_enter Tryz.func3, Tryz.ntmps3
    go_wp2_with (go_at_call 4; refine (HBG.out _ _ _ _).mono ?_; rintro e w' ⟨rfl, hw⟩; have hw2 := hw.symm; subst hw2; clear hw; rw [hd'])
    go_ret
    exact ⟨rfl, Below.refl _ _⟩
  have hn' : ¬ (1048576 : Int) < (n : Int) := by omega
  have hd' : decide (1048576 < (n : Int)) = false := by simpa using hn'
  have HB1a := Lib.hid (HBG.out a n cap w)
  have HB1b := Lib.hid (HBG.out a' n' cap' w)
  rw [hd'] at HB1a
  by_cases hm : n' ≤ 1048576
  rotate_left
  · have hm' : (1048576 : Int) < (n' : Int) := by omega
    have hd2 : decide (1048576 < (n' : Int)) = true := by simpa using hm'
    rw [hd2] at HB1b
    go_enter Tryz.func3, Tryz.ntmps3
    go_wp2_with (go_at_call 4; refine HB1a.out.mono ?_; rintro e w' ⟨rfl, hw⟩; have hw2 := hw.symm; subst hw2; clear hw; refine Hid.out ?_)
    refine Lib.hid ?_
    go_wp2_with (go_at_call 4; refine HB1b.out.mono ?_; rintro e w' ⟨rfl, hw⟩; have hw2 := hw.symm; subst hw2; clear hw)
    go_ret
    exact ⟨rfl, Below.refl _ _⟩
  have hm' : ¬ (1048576 : Int) < (n' : Int) := by omega
  have hd2 : decide (1048576 < (n' : Int)) = false := by simpa using hm'
  rw [hd2] at HB1b
  have HDW := Lib.hid (dp_any a n cap w hb hn hlt)
  have HOK0 : Hid (∀ (W : World) (b : Nat), Calls Tryz.prog 8 #[.slice (some ⟨b, 0, none⟩) 0 0] W fun e w' => e = .returned (.bool true) ∧ Below W.heap.size W w') := fun W b =>
    (un.iunits_any (some ⟨b, 0, none⟩) 0 [] W (.inl ⟨rfl, rfl⟩) (by decide)).mono fun e w' ⟨he, hb⟩ => ⟨by rw [he, us_nil], hb⟩
  clear hb hlt hn' hd' hm' hd2 hn HBG
  go_enter Tryz.func3, Tryz.ntmps3
  go_wp2_with (go_at_call 4; refine HB1a.out.mono ?_; rintro e w' ⟨rfl, hw⟩; have hw2 := hw.symm; subst hw2; clear hw; refine Hid.out ?_)
  refine Lib.hid ?_
  go_wp2_with (go_at_call 4; refine HB1b.out.mono ?_; rintro e w' ⟨rfl, hw⟩; have hw2 := hw.symm; subst hw2; clear hw; refine Hid.out ?_)
  refine Lib.hid ?_
  clear HB1a HB1b
  go_wp2_with (go_at_call 5; refine HDW.out.mono ?_; rintro e w1 ⟨⟨g0, c0, old, g1, c1, new, g2, c2, rn, rfl, hdp⟩, hb1⟩; refine Hid.out ?_)
  refine Lib.hid ?_
  have HB1 : Hid (Below w.heap.size w w1) := hb1
  obtain ⟨hu0, hw0, hf0, hu1, hw1, hf1, ⟨lo, htr⟩, hsm, hbl⟩ := hdp
  have HU0 : Hid (∀ W, Below w1.heap.size w1 W → ty.SrcUn none W (some ⟨g0, 0, none⟩) old) := fun W h => hu0.below h
  have HU1 : Hid (∀ W, Below w1.heap.size w1 W → ty.SrcUn none W (some ⟨g1, 0, none⟩) new) := fun W h => hu1.below h
  have HTR := Lib.hid (TR.src htr)
  have HRS : Hid (∀ W, Below w1.heap.size w1 W → ty.SrcS (some lo) W (some ⟨g2, 0, none⟩) rn) := fun W h => (TR.src (htr.below h)).1
  have HSM := Lib.hid hsm
  have hwr : ty.wtS rn ≤ 1048576 := by have := du.wtS_le hsm; omega
  have HPL : Hid (∀ (g c : Nat) (l : List ByteArray) (W : World), Below w1.heap.size w1 W → ty.SrcS none W (some ⟨g, 0, none⟩) l → ty.wtS l ≤ 1048576 → Calls Tryz.prog 6 #[.slice (some ⟨g0, 0, none⟩) old.length c0, .slice (some ⟨g1, 0, none⟩) new.length c1, .slice (some ⟨g, 0, none⟩) l.length c] W fun e w' => (∃ v, e = .returned v ∧ OwA W.heap.size w' v (plA old new l)) ∧ Below W.heap.size W w') := fun g c l W h hs hw => ipl_any none none none _ _ _ c0 c1 c old new l W (HU0.out W h) hw0 (HU1.out W h) hw1 hs hw
  have HSPL : Hid (∀ W, Below w1.heap.size w1 W → Calls Tryz.prog 13 #[.slice (some ⟨g0, 0, none⟩) old.length c0, .slice (some ⟨g1, 0, none⟩) new.length c1, .slice (some ⟨g2, 0, none⟩) rn.length c2] W fun e w' => (∃ v, e = .returned v ∧ CpA w' v (plA old new rn)) ∧ Below W.heap.size W w') := fun W h => spl_any none none _ _ _ c0 c1 c2 old new rn W (HU0.out W h) hw0 (HU1.out W h) hw1 (str_tr (HRS.out W h) HTR.out.2.1 HTR.out.2.2) hwr
  have HOK : Hid (∀ W, Below w1.heap.size w1 W → Calls Tryz.prog 7 #[.slice (some ⟨g0, 0, none⟩) old.length c0] W fun e w' => e = .returned (.bool (un.usB old)) ∧ Below W.heap.size W w') := fun W h => un.sunits_any _ c0 old W (HU0.out W h) hw0
  have HOK1 : Hid (∀ W, Below w1.heap.size w1 W → Calls Tryz.prog 7 #[.slice (some ⟨g1, 0, none⟩) new.length c1] W fun e w' => e = .returned (.bool (un.usB new)) ∧ Below W.heap.size W w') := fun W h => un.sunits_any _ c1 new W (HU1.out W h) hw1
  have HSO : Hid (∀ W, Below w1.heap.size w1 W → Calls Tryz.prog 10 #[.slice (some ⟨g1, 0, none⟩) new.length c1] W fun e w' => (∃ v, e = .returned (.tuple #[v, .bool (fw.soB new)]) ∧ sr.OwnS W.heap.size w' v (soA new)) ∧ Below W.heap.size W w') := fun W h => fw.sso_any none _ c1 new W (HU1.out W h) hw1
  have HUN0 : Hid (∀ (s : ByteArray) W, Below w1.heap.size w1 W → Calls Tryz.prog 12 #[.slice (some ⟨g0, 0, none⟩) old.length c0, .string s] W fun e w' => (∃ r : Int, e = .returned (.int .i64 r) ∧ decide (r < 0) = decide (uNo old s.data.toList = old.length)) ∧ w' = W) := fun s W h => lunit_any _ c0 old s W (HU0.out W h) (by omega)
  have HUN1 : Hid (∀ (s : ByteArray) W, Below w1.heap.size w1 W → Calls Tryz.prog 12 #[.slice (some ⟨g1, 0, none⟩) new.length c1, .string s] W fun e w' => (∃ r : Int, e = .returned (.int .i64 r) ∧ decide (r < 0) = decide (uNo new s.data.toList = new.length)) ∧ w' = W) := fun s W h => lunit_any _ c1 new s W (HU1.out W h) (by omega)
  have HAP : Hid (∀ (g g' c c' : Nat) (l : List ByteArray) (qs : List ty.Ac) (W : World), ty.SrcS none W (some ⟨g, 0, none⟩) l → ty.SrcAc none W (some ⟨g', 0, none⟩) qs → ty.wtS l ≤ 1048576 → ty.wtAc qs ≤ 1048576 → Calls Tryz.prog 9 #[.slice (some ⟨g, 0, none⟩) l.length c, .slice (some ⟨g', 0, none⟩) qs.length c'] W fun e w' => (∃ v, e = .returned v ∧ sr.OwnS W.heap.size w' v (apA l qs)) ∧ Below W.heap.size W w') := fun g g' c c' l qs W h1 h2 h3 h4 => iapp_any _ c l _ c' qs W h1 h2 h3 h4
  clear hb1 hu0 hu1 htr hsm HDW hw0 hw1
  have HC1 := Lib.hid (HPL.out g2 c2 rn w1 (Below.refl _ _) (HRS.out _ (Below.refl _ _)).any hwr)
  go_wp2_with (go_at_call 6; refine HC1.out.mono ?_; rintro e w2 ⟨⟨v2, rfl, ho2⟩, hb2⟩; obtain ⟨pg, pc, hv2, hcp⟩ := ho2.cp; subst hv2; refine Hid.out ?_)
  refine Lib.hid ?_
  have hpl2 : (plA old new rn).length ≤ pc := by
    obtain ⟨_, _, _, e, _, _, _, h, _⟩ := ho2.row
    have := (Value.slice.inj e).2.2
    omega
  have HB2 : Hid (Below w1.heap.size w1 w2) := hb2
  have HCP : Hid (∀ W, Below w2.heap.size w2 W → ty.SrcAc none W (some ⟨pg, 0, none⟩) (plA old new rn)) := fun W h => hcp.below h
  have HC2 := Lib.hid (HOK.out w2 HB2.out)
  have HPS := Lib.hid (pl_small old new rn)
  clear hb2 ho2 hcp HC1
  have HNL : Hid (un.usB old = false ∨ un.usB new = false → (plA old new rn).length = 0) := fun h => by rw [pl_nil h]; rfl
  obtain ⟨pl, hpl⟩ : ∃ q, (plA old new rn).length = q := ⟨_, rfl⟩
  have HPLN : Hid ((plA old new rn).length = pl) := hpl
  rw [hpl] at hpl2 HNL ⊢
  clear hpl
  cases e0 : un.usB old with
  | false =>
    rw [e0] at HC2
    have hp0 : pl = 0 := HNL.out (.inl e0)
    subst hp0
    go_wp2_with (go_at_call 7; refine HC2.out.mono ?_; rintro e w3 ⟨rfl, hb3⟩; refine Hid.out ?_)
    refine Lib.hid ?_
    have HBW := Lib.hid ((HB1.out.trans (HB2.out.mono HB1.out.size)).trans (hb3.mono (HB1.out.trans (HB2.out.mono HB1.out.size)).size))
    clear hb3
    go_wp2_with (go_at_call 8; refine (HOK0.out _ _).mono ?_; rintro e w4 ⟨rfl, hb4⟩)
    go_ret
    exact ⟨rfl, (HBW.out.alloc HBW.out.size _).trans (hb4.mono (HBW.out.alloc HBW.out.size _).size)⟩
  | true =>
    rw [e0] at HC2
    go_wp2_with (go_at_call 7; refine HC2.out.mono ?_; rintro e w3 ⟨rfl, hb3⟩; refine Hid.out ?_)
    refine Lib.hid ?_
    have HB3 := Lib.hid (HB2.out.trans (hb3.mono HB2.out.size))
    have HB3' := Lib.hid hb3
    have HC3 := Lib.hid (HOK1.out w3 HB3.out)
    clear hb3 HC2
    cases e1 : un.usB new with
    | false =>
      rw [e1] at HC3
      have hp0 : pl = 0 := HNL.out (.inr e1)
      subst hp0
      go_wp2_with (go_at_call 7; refine HC3.out.mono ?_; rintro e w4 ⟨rfl, hb4⟩; refine Hid.out ?_)
      refine Lib.hid ?_
      have HBW := Lib.hid (HB1.out.trans ((HB3.out.trans (hb4.mono HB3.out.size)).mono HB1.out.size))
      clear hb4
      go_wp2_with (go_at_call 8; refine (HOK0.out _ _).mono ?_; rintro e w5 ⟨rfl, hb5⟩)
      go_ret
      exact ⟨rfl, (HBW.out.alloc HBW.out.size _).trans (hb5.mono (HBW.out.alloc HBW.out.size _).size)⟩
    | true =>
      rw [e1] at HC3
      go_wp2_with (go_at_call 7; refine HC3.out.mono ?_; rintro e w4 ⟨rfl, hb4⟩; refine Hid.out ?_)
      refine Lib.hid ?_
      have HB4 := Lib.hid (HB3.out.trans (hb4.mono HB3.out.size))
      have HB4' := Lib.hid (HB3'.out.trans (hb4.mono HB3'.out.size))
      have HPE : Hid (plA old new rn = plL old new (apX rn)) := pl_is e0 e1 rn (by omega)
      have HPN : Hid (∀ a ∈ plA old new rn, a.fName.size ≤ 64) := by show ∀ a ∈ _, _; rw [HPE.out]; exact pl_name e0 e1 _
      have hpl4 : pl ≤ 400 := by rw [← HPLN.out, HPE.out]; exact pl_len e0 e1 _
      have HC4 := Lib.hid (HAP.out g2 pg c2 pc rn _ w4 (HRS.out _ HB4.out).any (HCP.out _ HB4'.out) hwr HPS.out)
      rw [HPLN.out] at HC4
      have HEE : Hid (apA rn (plA old new rn) = apL rn (plL old new (apX rn))) := by show _ = _; rw [ap_is (by omega) (by rw [HPLN.out]; omega), HPE.out]
      rw [HEE.out] at HC4
      clear hb4 HC3 HB3 HB3'
      go_wp2_with (go_at_call 9; refine HC4.out.mono ?_; rintro e w5 ⟨⟨v5, rfl, ho5⟩, hb5⟩; obtain ⟨eg, ec, hv5, hce⟩ := own_at ho5; subst hv5; refine Hid.out ?_)
      refine Lib.hid ?_
      have HB5 := Lib.hid (HB4.out.trans (hb5.mono HB4.out.size))
      have HB5' := Lib.hid (HB4'.out.trans (hb5.mono HB4'.out.size))
      obtain ⟨E, hE⟩ : ∃ E, apL rn (plL old new (apX rn)) = E := ⟨_, rfl⟩
      have HE := Lib.hid hE
      rw [hE] at hce
      have HCE : Hid (∀ W, Below w5.heap.size w5 W → ∀ i x, E[i]? = some x → W.cell? ⟨eg, i, none⟩ = some (sr.strL x)) := fun W h i x hx => (h.cell (p := ⟨eg, i, none⟩) (World.block_lt_of_cell? _ _ (hce i x hx))).trans (hce i x hx)
      have hel : E.length ≤ 2000 := by
        have h1 := ap_len rn (plL old new (apX rn))
        have h2 := pl_len e0 e1 (apX rn)
        rw [hE] at h1
        omega
      have HEM : Hid (∀ m, m ∈ E ↔ En old new (apX rn) m) := fun m => by rw [← hE]; exact end_mem e1 rn m
      have HOS : Hid (∀ m, uNo old m < old.length → m ∈ stp old) := fun m h => stp_old e0 h
      have HUL0 : Hid (∀ m, uNo old m ≤ old.length) := fun m => uNo_le old m
      have HUL1 : Hid (∀ m, uNo new m ≤ new.length) := fun m => uNo_le new m
      have HNE1 : Hid (∀ m ∈ soA new, uNo new m < new.length) := fun m h => (soA_no e1 h).1
      have HPT : Hid (∀ k, apL (bAs (apL rn ((plL old new (apX rn)).take k))) (plL old new (apL rn ((plL old new (apX rn)).take k))) = E) := fun k => by rw [← hE]; exact part_end e1 rn k
      have HAG : Hid (∀ a ∈ plL old new E, a.fKind = 3) := by show ∀ a ∈ _, _; rw [← hE]; exact again_kind e0 e1 rn
      have HIS : Hid (∀ l : List ByteArray, l.length ≤ 2000 → plA old new l = plL old new (apX l)) := fun l h => pl_is e0 e1 l h
      have HLN : Hid (∀ R, (plL old new R).length ≤ 400 ∧ ∀ a ∈ plL old new R, a.fName.size ≤ 64) := fun R => ⟨pl_len e0 e1 R, pl_name e0 e1 R⟩
      rw [hE]
      have HC5 := Lib.hid (HSO.out w5 HB5.out)
      clear hb5 ho5 hce hE HC4 e0 e1 HNL HOK HOK1
      go_wp2_with (go_at_call 10; refine HC5.out.mono ?_; rintro e w6 ⟨⟨v6, rfl, ho6⟩, hb6⟩; obtain ⟨cg, cc, hv6, hcc⟩ := own_at ho6; subst hv6; refine Hid.out ?_)
      refine Lib.hid ?_
      have HB6 := Lib.hid (HB5.out.trans (hb6.mono HB5.out.size))
      have HB6' := Lib.hid (HB5'.out.trans (hb6.mono HB5'.out.size))
      have HB56 := Lib.hid hb6
      obtain ⟨S, hS⟩ : ∃ S, soA new = S := ⟨_, rfl⟩
      have HS := Lib.hid hS
      rw [hS] at hcc HNE1
      have HCC : Hid (∀ i x, S[i]? = some x → w6.cell? ⟨cg, i, none⟩ = some (sr.strL x)) := hcc
      have hsl : S.length ≤ 1000 := by have := soA_len new; rw [hS] at this; omega
      rw [hS]
      have HHE : Hid (∀ s : ByteArray, Calls Tryz.prog 11 #[.slice (some ⟨eg, 0, none⟩) E.length ec, .string s] w6 fun e w' => e = .returned (.bool (decide (s.data.toList ∈ E))) ∧ w' = w6) := fun s => sr.lhas_any E eg ec s w6 (by omega) (HCE.out w6 HB56.out)
      have HHC : Hid (∀ s : ByteArray, Calls Tryz.prog 11 #[.slice (some ⟨cg, 0, none⟩) S.length cc, .string s] w6 fun e w' => e = .returned (.bool (decide (s.data.toList ∈ S))) ∧ w' = w6) := fun s => sr.lhas_any S cg cc s w6 (by omega) HCC.out
      have HHR : Hid (∀ s : ByteArray, Calls Tryz.prog 11 #[.slice (some ⟨g2, 0, none⟩) rn.length c2, .string s] w6 fun e w' => e = .returned (.bool (decide (s.data.toList ∈ apX rn))) ∧ w' = w6) := fun s => by
        have h := sr.lhas_any (apX rn) g2 c2 s w6 (by rw [ac.apX_len]; omega) (fun i x hx => by
          unfold apX at hx
          rw [List.getElem?_map, Option.map_eq_some_iff] at hx
          obtain ⟨y, hy, rfl⟩ := hx
          rcases HRS.out w6 HB6.out with h | ⟨b, o, e, _, hc⟩
          · cases h.1
          · cases e
            have := hc i y hy
            rw [Nat.zero_add] at this
            rw [this, sr.strL_of])
        rw [ac.apX_len] at h
        exact h
      clear hb6 ho6 hcc hS HC5 HSO
      obtain ⟨el, hee⟩ : ∃ q, E.length = q := ⟨_, rfl⟩
      obtain ⟨sl, hse⟩ : ∃ q, S.length = q := ⟨_, rfl⟩
      have HEL : Hid (E.length = el) := hee
      have HSL : Hid (S.length = sl) := hse
      rw [hee] at hel HHE
      rw [hse] at hsl HHC
      rw [hee, hse]
      clear hee hse
      go_wp2
      go_loopw [12] (fun y wr => ∃ i : Nat, i ≤ sl ∧ y = .int .i64 (i : Int) ∧ wr = w6) (fun y _ => sl - (intOf y).toNat)
      case atStart => exact ⟨0, Nat.zero_le _, rfl, rfl⟩
      case round =>
        obtain ⟨i, hi, rfl, rfl⟩ := hrel
        by_cases hil : i < sl
        · have hil' : (i : Int) < (sl : Int) := by omega
          have hi0 : (0 : Int) ≤ (i : Int) := by omega
          have hwi : IntKind.i64.wrap ((i : Int) + 1) = (i : Int) + 1 := by rw [IntKind.wrap_i64]; omega
          obtain ⟨x, hx⟩ : ∃ x, S[i]? = some x := ⟨_, List.getElem?_eq_getElem (by rw [HSL.out]; exact hil)⟩
          have cx : wr.cell? ⟨cg, i, none⟩ = some (.string (bA x)) := HCC.out i x hx
          have HH := Lib.hid (HHE.out (bA x))
          rw [bA_list, decide_eq_true ((HEM.out x).2 (.inr (by rw [HS.out]; exact List.mem_of_getElem? hx)))] at HH
          clear hx
          go_wp2_with (go_at_call 11; refine HH.out.mono ?_; rintro e w7 ⟨rfl, hw7⟩; obtain rfl := hw7.symm; clear hw7)
          go_roundw
          case rel => exact ⟨i + 1, by omega, by go_num, by first | trivial | rfl⟩
          case measure => (simp [intOf] <;> omega)
        · have hil' : ¬ (i : Int) < (sl : Int) := by omega
          clear HHE
          go_wp2
          go_loopw [13] (fun y wx => ∃ j : Nat, j ≤ el ∧ y = .int .i64 (j : Int) ∧ wx = wr) (fun y _ => el - (intOf y).toNat)
          case atStart => exact ⟨0, Nat.zero_le _, rfl, rfl⟩
          case round =>
            obtain ⟨j, hj, rfl, hwj⟩ := hrel
            have hwj2 := hwj.symm
            subst hwj2
            clear hwj
            by_cases hjl : j < el
            · have hjl' : (j : Int) < (el : Int) := by omega
              have hj0 : (0 : Int) ≤ (j : Int) := by omega
              have hwj : IntKind.i64.wrap ((j : Int) + 1) = (j : Int) + 1 := by rw [IntKind.wrap_i64]; omega
              obtain ⟨x, hx⟩ : ∃ x, E[j]? = some x := ⟨_, List.getElem?_eq_getElem (by rw [HEL.out]; exact hjl)⟩
              have cx : wr.cell? ⟨eg, j, none⟩ = some (.string (bA x)) := HCE.out _ HB56.out j x hx
              have hen := (HEM.out x).1 (List.mem_of_getElem? hx)
              have HN1 := Lib.hid (HUN1.out (bA x) _ HB6.out)
              have HN0 := Lib.hid (HUN0.out (bA x) _ HB6.out)
              have HK1 := Lib.hid (HHC.out (bA x))
              have HK2 := Lib.hid (HHR.out (bA x))
              rw [bA_list] at HN1 HN0 HK1 HK2
              have hi1 : decide (uNo new x = new.length) = true → decide (uNo old x = old.length) = true := fun h => by
                have h := of_decide_eq_true h
                refine decide_eq_true ?_
                rcases Nat.lt_or_ge (uNo old x) old.length with k | k
                · rcases hen with ⟨_, h2⟩ | h2
                  · exact absurd ⟨HOS.out x k, by omega⟩ h2
                  · rw [HS.out] at h2
                    have := HNE1.out x h2
                    omega
                · have := HUL0.out x; omega
              have hi2 : decide (x ∈ S) = false → decide (x ∈ apX rn) = true := fun h => by
                have h := of_decide_eq_false h
                refine decide_eq_true ?_
                rcases hen with ⟨h2, _⟩ | h2
                · exact h2
                · rw [HS.out] at h2; exact absurd h2 h
              have HI1 := Lib.hid hi1
              have HI2 := Lib.hid hi2
              clear hx hen hi1 hi2
              cases n1 : decide (uNo new x = new.length) with
              | false =>
                cases k1 : decide (x ∈ S) with
                | true =>
                  rw [k1] at HK1
                  clear k1
                  go_wp2_with (go_at_call 12; refine HN1.out.mono ?_; rintro e w7 ⟨⟨r, rfl, hr⟩, hw7⟩; have hw9 := hw7.symm; subst hw9; clear hw7; rw [n1] at hr; have hr2 := of_decide_eq_false hr; refine Hid.out ?_)
                  refine Lib.hid ?_
                  go_wp2_with (go_at_call 11; refine HK1.out.mono ?_; rintro e w8 ⟨rfl, hw8⟩; have hw9 := hw8.symm; subst hw9; clear hw8)
                  go_roundw
                  case rel => exact ⟨j + 1, by omega, by go_num, by first | trivial | rfl⟩
                  case measure => (simp [intOf] <;> omega)
                | false =>
                  rw [k1] at HK1
                  rw [HI2.out k1] at HK2
                  clear k1
                  go_wp2_with (go_at_call 12; refine HN1.out.mono ?_; rintro e w7 ⟨⟨r, rfl, hr⟩, hw7⟩; have hw9 := hw7.symm; subst hw9; clear hw7; rw [n1] at hr; have hr2 := of_decide_eq_false hr; refine Hid.out ?_)
                  refine Lib.hid ?_
                  go_wp2_with (go_at_call 11; refine HK1.out.mono ?_; rintro e w8 ⟨rfl, hw8⟩; have hw9 := hw8.symm; subst hw9; clear hw8; refine Hid.out ?_)
                  refine Lib.hid ?_
                  go_wp2_with (go_at_call 11; refine HK2.out.mono ?_; rintro e w8 ⟨rfl, hw8⟩; have hw9 := hw8.symm; subst hw9; clear hw8)
                  go_roundw
                  case rel => exact ⟨j + 1, by omega, by go_num, by first | trivial | rfl⟩
                  case measure => (simp [intOf] <;> omega)
              | true =>
                have n0 := HI1.out n1
                cases k1 : decide (x ∈ S) with
                | true =>
                  rw [k1] at HK1
                  clear k1
                  go_wp2_with (go_at_call 12; refine HN1.out.mono ?_; rintro e w7 ⟨⟨r, rfl, hr⟩, hw7⟩; have hw9 := hw7.symm; subst hw9; clear hw7; rw [n1] at hr; have hr2 := of_decide_eq_true hr; refine Hid.out ?_)
                  refine Lib.hid ?_
                  go_wp2_with (go_at_call 12; refine HN0.out.mono ?_; rintro e w7 ⟨⟨r', rfl, hr'⟩, hw7⟩; have hw9 := hw7.symm; subst hw9; clear hw7; rw [n0] at hr'; have hr3 := of_decide_eq_true hr'; have hr4 : ¬ (0 : Int) ≤ r' := (by omega); refine Hid.out ?_)
                  refine Lib.hid ?_
                  go_wp2_with (go_at_call 11; refine HK1.out.mono ?_; rintro e w8 ⟨rfl, hw8⟩; have hw9 := hw8.symm; subst hw9; clear hw8)
                  go_roundw
                  case rel => exact ⟨j + 1, by omega, by go_num, by first | trivial | rfl⟩
                  case measure => (simp [intOf] <;> omega)
                | false =>
                  rw [k1] at HK1
                  rw [HI2.out k1] at HK2
                  clear k1
                  go_wp2_with (go_at_call 12; refine HN1.out.mono ?_; rintro e w7 ⟨⟨r, rfl, hr⟩, hw7⟩; have hw9 := hw7.symm; subst hw9; clear hw7; rw [n1] at hr; have hr2 := of_decide_eq_true hr; refine Hid.out ?_)
                  refine Lib.hid ?_
                  go_wp2_with (go_at_call 12; refine HN0.out.mono ?_; rintro e w7 ⟨⟨r', rfl, hr'⟩, hw7⟩; have hw9 := hw7.symm; subst hw9; clear hw7; rw [n0] at hr'; have hr3 := of_decide_eq_true hr'; have hr4 : ¬ (0 : Int) ≤ r' := (by omega); refine Hid.out ?_)
                  refine Lib.hid ?_
                  go_wp2_with (go_at_call 11; refine HK1.out.mono ?_; rintro e w8 ⟨rfl, hw8⟩; have hw9 := hw8.symm; subst hw9; clear hw8; refine Hid.out ?_)
                  refine Lib.hid ?_
                  go_wp2_with (go_at_call 11; refine HK2.out.mono ?_; rintro e w8 ⟨rfl, hw8⟩; have hw9 := hw8.symm; subst hw9; clear hw8)
                  go_roundw
                  case rel => exact ⟨j + 1, by omega, by go_num, by first | trivial | rfl⟩
                  case measure => (simp [intOf] <;> omega)
            · have hjl' : ¬ (j : Int) < (el : Int) := by omega
              have HC7 := Lib.hid (HSPL.out _ HB6.out)
              go_wp2_with (go_at_call 13; refine HC7.out.mono ?_; rintro e w7 ⟨⟨v7, rfl, hcp7⟩, hb7⟩; obtain ⟨sg, sc, hv7, _⟩ := hcp7; subst hv7; rw [HPLN.out]; refine Hid.out ?_)
              refine Lib.hid ?_
              have HB7 := Lib.hid (HB6.out.trans (hb7.mono HB6.out.size))
              have HB7' := Lib.hid (HB6'.out.trans (hb7.mono HB6'.out.size))
              have HB57 := Lib.hid (HB56.out.trans (hb7.mono HB56.out.size))
              clear hb7 HC7 HHC HHR HCC
              --REST
              rcases Nat.eq_zero_or_pos pl with hp | hp
              · subst hp
                have HTK : Hid (((plA old new rn).take 0).length = 0) := by show _ = _; rw [List.length_take, HPLN.out]; omega
                have HTN : Hid (∀ a ∈ (plA old new rn).take 0, a.fName.size ≤ 64) := fun a h => HPN.out a (List.mem_of_mem_take h)
                have HC8 := Lib.hid (HAP.out g2 pg c2 pc rn ((plA old new rn).take 0) w7 (HRS.out _ HB7.out).any (src_take (HCP.out _ HB7'.out) 0) hwr (wtAc_le HTN.out (by rw [HTK.out]; omega)))
                rw [ap_is (by omega) (by rw [HTK.out]; omega), HTK.out] at HC8
                have HTP : Hid ((plA old new rn).take 0 = (plL old new (apX rn)).take 0) := by show _ = _; rw [HPE.out]
                have hpsm := ap_small (l := rn) (qs := (plA old new rn).take 0) HSM.out HTN.out
                have hpln := ap_len rn ((plA old new rn).take 0)
                rw [HTK.out] at hpln
                have HPT1 := Lib.hid (HPT.out 0)
                rw [← HTP.out] at HPT1
                obtain ⟨R, hR⟩ : ∃ R, apL rn ((plA old new rn).take 0) = R := ⟨_, rfl⟩
                rw [hR] at HC8 hpsm hpln HPT1
                have HRL : Hid ((bAs R).length = R.length) := by show _ = _; unfold bAs; rw [List.length_map]
                have hwR : ty.wtS (bAs R) ≤ 1048576 := by have := du.wtS_le hpsm; rw [HRL.out] at this; omega
                clear hR HTK HTN HTP hpsm
                go_wp2_with (go_at_call 9; refine HC8.out.mono ?_; rintro e w8 ⟨⟨v8, rfl, ho8⟩, hb8⟩; obtain ⟨rg, rc, hv8, hcr⟩ := own_at ho8; subst hv8; refine Hid.out ?_)
                refine Lib.hid ?_
                have HB8 := Lib.hid (HB7.out.trans (hb8.mono HB7.out.size))
                have HB58 := Lib.hid (HB57.out.trans (hb8.mono HB57.out.size))
                have HCR : Hid (∀ W, Below w8.heap.size w8 W → ty.SrcS none W (some ⟨rg, 0, none⟩) (bAs R)) := fun W h => own_srcS fun i x hx => (h.cell (p := ⟨rg, i, none⟩) (World.block_lt_of_cell? _ _ (hcr i x hx))).trans (hcr i x hx)
                have HC9 := Lib.hid (HPL.out rg rc (bAs R) w8 HB8.out (HCR.out _ (Below.refl _ _)) hwR)
                have HPR : Hid (plA old new (bAs R) = plL old new R) := by show _ = _; rw [HIS.out _ (by rw [HRL.out]; omega), apX_bAs]
                rw [HPR.out, HRL.out] at HC9
                clear hb8 ho8 hcr HC8
                go_wp2_with (go_at_call 6; refine HC9.out.mono ?_; rintro e w9 ⟨⟨v9, rfl, ho9⟩, hb9⟩; obtain ⟨qg, qc, hv9, hcq⟩ := ho9.cp; subst hv9; refine Hid.out ?_)
                refine Lib.hid ?_
                have HB9 := Lib.hid (HB8.out.trans (hb9.mono HB8.out.size))
                have HB59 := Lib.hid (HB58.out.trans (hb9.mono HB58.out.size))
                have HC10 := Lib.hid (HAP.out rg qg rc qc (bAs R) (plL old new R) w9 (HCR.out _ hb9) hcq hwR (wtAc_le (HLN.out R).2 (by have := (HLN.out R).1; omega)))
                rw [ap_is (by rw [HRL.out]; omega) (by have := (HLN.out R).1; omega), HPT1.out, HRL.out] at HC10
                clear hb9 ho9 hcq HC9
                go_wp2_with (go_at_call 9; refine HC10.out.mono ?_; rintro e w10 ⟨⟨v10, rfl, ho10⟩, hb10⟩; obtain ⟨tg, tc, hv10, hct⟩ := own_at ho10; subst hv10; refine Hid.out ?_)
                refine Lib.hid ?_
                have HB10 := Lib.hid (HB9.out.trans (hb10.mono HB9.out.size))
                have HB510 := Lib.hid (HB59.out.trans (hb10.mono HB59.out.size))
                have HC11 := Lib.hid (same_any E tg tc eg ec w10 (by have := HEL.out; omega) hct (HCE.out w10 HB510.out))
                rw [HEL.out] at HC11
                rw [HEL.out]
                clear hb10 ho10 hct HC10
                go_wp2_with (go_at_call 14; refine HC11.out.mono ?_; rintro e w11 ⟨rfl, hb11⟩; refine Hid.out ?_)
                refine Lib.hid ?_
                have HB11 := Lib.hid (HB10.out.trans (hb11.mono HB10.out.size))
                have HB511 := Lib.hid (HB510.out.trans (hb11.mono HB510.out.size))
                have HELB : Hid ((bAs E).length = el) := by show _ = _; unfold bAs; rw [List.length_map]; exact HEL.out
                have hwE : ty.wtS (bAs E) ≤ 1048576 := by
                  have h1 : ∀ x ∈ bAs E, x.size ≤ 64 := by
                    rw [← HE.out]
                    exact ap_small (l := rn) HSM.out (HLN.out _).2
                  have := du.wtS_le h1
                  rw [HELB.out] at this
                  omega
                have HC12 := Lib.hid (HPL.out eg ec (bAs E) w11 HB11.out (own_srcS (HCE.out w11 HB511.out)) hwE)
                rw [HIS.out _ (by rw [HELB.out]; omega), apX_bAs, HELB.out] at HC12
                clear hb11 HC11
                go_wp2_with (go_at_call 6; refine HC12.out.mono ?_; rintro e w12 ⟨⟨v12, rfl, ho12⟩, hb12⟩; obtain ⟨ag, acp, hv12, hca⟩ := ho12.cp; subst hv12; refine Hid.out ?_)
                refine Lib.hid ?_
                have HB12 := Lib.hid (HB1.out.trans ((HB11.out.trans (hb12.mono HB11.out.size)).mono HB1.out.size))
                have HCA := Lib.hid hca
                have hal := (HLN.out E).1
                obtain ⟨al, hale⟩ : ∃ q, (plL old new E).length = q := ⟨_, rfl⟩
                have HAL : Hid ((plL old new E).length = al) := hale
                rw [hale] at hal ⊢
                clear hb12 ho12 hca HC12 hale
                go_wp2
                go_loopw [17] (fun y wx => ∃ q : Nat, q ≤ al ∧ y = .int .i64 (q : Int) ∧ wx = w12) (fun y _ => al - (intOf y).toNat)
                case atStart => exact ⟨0, Nat.zero_le _, rfl, rfl⟩
                case round =>
                  obtain ⟨q, hq, rfl, hwq⟩ := hrel
                  subst hwq
                  by_cases hql : q < al
                  · have hql' : (q : Int) < (al : Int) := by omega
                    have hq0 : (0 : Int) ≤ (q : Int) := by omega
                    have hwq : IntKind.i64.wrap ((q : Int) + 1) = (q : Int) + 1 := by rw [IntKind.wrap_i64]; omega
                    obtain ⟨x, hx⟩ : ∃ x, (plL old new E)[q]? = some x := ⟨_, List.getElem?_eq_getElem (by rw [HAL.out]; exact hql)⟩
                    have hk3 := HAG.out x (List.mem_of_getElem? hx)
                    rcases HCA.out with h | ⟨b, o, e, _, hc⟩
                    · rw [h.2] at hx; simp at hx
                    cases e
                    have cx := (hc q x hx).1
                    rw [hk3] at cx
                    try rw [Nat.zero_add] at cx
                    clear hx hk3 hc
                    go_wp2
                    go_roundw
                    case rel => exact ⟨q + 1, by omega, by go_num, by first | trivial | rfl⟩
                    case measure => (simp [intOf] <;> omega)
                  · have hql' : ¬ (q : Int) < (al : Int) := by omega
                    go_wp2_with (go_at_call 8; refine (HOK0.out _ _).mono ?_; rintro e w13 ⟨rfl, hb13⟩)
                    go_ret
                    exact ⟨rfl, (HB12.out.alloc HB12.out.size _).trans (hb13.mono (HB12.out.alloc HB12.out.size _).size)⟩
              · have hp1 : (0 : Int) < (pl : Int) := by omega
                have hwp : IntKind.i64.wrap ((pl : Int) + 1) = (pl : Int) + 1 := by rw [IntKind.wrap_i64]; omega
                have hp2 : ¬ (pl : Int) + 1 = 0 := by omega
                obtain ⟨k, hk⟩ : ∃ k, n' % (pl + 1) = k := ⟨_, rfl⟩
                have hkl : k ≤ pl := by have := Nat.mod_lt n' (show 0 < pl + 1 by omega); omega
                have hkt : (n' : Int).tmod ((pl : Int) + 1) = (k : Int) := by rw [← hk, show ((pl : Int) + 1) = ((pl + 1 : Nat) : Int) by simp, ← Int.ofNat_tmod]
                have hkw : IntKind.i64.wrap (k : Int) = (k : Int) := by rw [IntKind.wrap_i64]; omega
                have hkp : k ≤ pc := by omega
                have hkp' : (k : Int) ≤ (pc : Int) := by omega
                have hk0 : (0 : Int) ≤ (k : Int) := by omega
                clear hk
                have HTK : Hid (((plA old new rn).take k).length = k) := by show _ = _; rw [List.length_take, HPLN.out]; omega
                have HTN : Hid (∀ a ∈ (plA old new rn).take k, a.fName.size ≤ 64) := fun a h => HPN.out a (List.mem_of_mem_take h)
                have HC8 := Lib.hid (HAP.out g2 pg c2 pc rn ((plA old new rn).take k) w7 (HRS.out _ HB7.out).any (src_take (HCP.out _ HB7'.out) k) hwr (wtAc_le HTN.out (by rw [HTK.out]; omega)))
                rw [ap_is (by omega) (by rw [HTK.out]; omega), HTK.out] at HC8
                have HTP : Hid ((plA old new rn).take k = (plL old new (apX rn)).take k) := by show _ = _; rw [HPE.out]
                have hpsm := ap_small (l := rn) (qs := (plA old new rn).take k) HSM.out HTN.out
                have hpln := ap_len rn ((plA old new rn).take k)
                rw [HTK.out] at hpln
                have HPT1 := Lib.hid (HPT.out k)
                rw [← HTP.out] at HPT1
                obtain ⟨R, hR⟩ : ∃ R, apL rn ((plA old new rn).take k) = R := ⟨_, rfl⟩
                rw [hR] at HC8 hpsm hpln HPT1
                have HRL : Hid ((bAs R).length = R.length) := by show _ = _; unfold bAs; rw [List.length_map]
                have hwR : ty.wtS (bAs R) ≤ 1048576 := by have := du.wtS_le hpsm; rw [HRL.out] at this; omega
                clear hR HTK HTN HTP hpsm
                go_wp2_with (go_at_call 9; refine HC8.out.mono ?_; rintro e w8 ⟨⟨v8, rfl, ho8⟩, hb8⟩; obtain ⟨rg, rc, hv8, hcr⟩ := own_at ho8; subst hv8; refine Hid.out ?_)
                refine Lib.hid ?_
                have HB8 := Lib.hid (HB7.out.trans (hb8.mono HB7.out.size))
                have HB58 := Lib.hid (HB57.out.trans (hb8.mono HB57.out.size))
                have HCR : Hid (∀ W, Below w8.heap.size w8 W → ty.SrcS none W (some ⟨rg, 0, none⟩) (bAs R)) := fun W h => own_srcS fun i x hx => (h.cell (p := ⟨rg, i, none⟩) (World.block_lt_of_cell? _ _ (hcr i x hx))).trans (hcr i x hx)
                have HC9 := Lib.hid (HPL.out rg rc (bAs R) w8 HB8.out (HCR.out _ (Below.refl _ _)) hwR)
                have HPR : Hid (plA old new (bAs R) = plL old new R) := by show _ = _; rw [HIS.out _ (by rw [HRL.out]; omega), apX_bAs]
                rw [HPR.out, HRL.out] at HC9
                clear hb8 ho8 hcr HC8
                go_wp2_with (go_at_call 6; refine HC9.out.mono ?_; rintro e w9 ⟨⟨v9, rfl, ho9⟩, hb9⟩; obtain ⟨qg, qc, hv9, hcq⟩ := ho9.cp; subst hv9; refine Hid.out ?_)
                refine Lib.hid ?_
                have HB9 := Lib.hid (HB8.out.trans (hb9.mono HB8.out.size))
                have HB59 := Lib.hid (HB58.out.trans (hb9.mono HB58.out.size))
                have HC10 := Lib.hid (HAP.out rg qg rc qc (bAs R) (plL old new R) w9 (HCR.out _ hb9) hcq hwR (wtAc_le (HLN.out R).2 (by have := (HLN.out R).1; omega)))
                rw [ap_is (by rw [HRL.out]; omega) (by have := (HLN.out R).1; omega), HPT1.out, HRL.out] at HC10
                clear hb9 ho9 hcq HC9
                go_wp2_with (go_at_call 9; refine HC10.out.mono ?_; rintro e w10 ⟨⟨v10, rfl, ho10⟩, hb10⟩; obtain ⟨tg, tc, hv10, hct⟩ := own_at ho10; subst hv10; refine Hid.out ?_)
                refine Lib.hid ?_
                have HB10 := Lib.hid (HB9.out.trans (hb10.mono HB9.out.size))
                have HB510 := Lib.hid (HB59.out.trans (hb10.mono HB59.out.size))
                have HC11 := Lib.hid (same_any E tg tc eg ec w10 (by have := HEL.out; omega) hct (HCE.out w10 HB510.out))
                rw [HEL.out] at HC11
                rw [HEL.out]
                clear hb10 ho10 hct HC10
                go_wp2_with (go_at_call 14; refine HC11.out.mono ?_; rintro e w11 ⟨rfl, hb11⟩; refine Hid.out ?_)
                refine Lib.hid ?_
                have HB11 := Lib.hid (HB10.out.trans (hb11.mono HB10.out.size))
                have HB511 := Lib.hid (HB510.out.trans (hb11.mono HB510.out.size))
                have HELB : Hid ((bAs E).length = el) := by show _ = _; unfold bAs; rw [List.length_map]; exact HEL.out
                have hwE : ty.wtS (bAs E) ≤ 1048576 := by
                  have h1 : ∀ x ∈ bAs E, x.size ≤ 64 := by
                    rw [← HE.out]
                    exact ap_small (l := rn) HSM.out (HLN.out _).2
                  have := du.wtS_le h1
                  rw [HELB.out] at this
                  omega
                have HC12 := Lib.hid (HPL.out eg ec (bAs E) w11 HB11.out (own_srcS (HCE.out w11 HB511.out)) hwE)
                rw [HIS.out _ (by rw [HELB.out]; omega), apX_bAs, HELB.out] at HC12
                clear hb11 HC11
                go_wp2_with (go_at_call 6; refine HC12.out.mono ?_; rintro e w12 ⟨⟨v12, rfl, ho12⟩, hb12⟩; obtain ⟨ag, acp, hv12, hca⟩ := ho12.cp; subst hv12; refine Hid.out ?_)
                refine Lib.hid ?_
                have HB12 := Lib.hid (HB1.out.trans ((HB11.out.trans (hb12.mono HB11.out.size)).mono HB1.out.size))
                have HCA := Lib.hid hca
                have hal := (HLN.out E).1
                obtain ⟨al, hale⟩ : ∃ q, (plL old new E).length = q := ⟨_, rfl⟩
                have HAL : Hid ((plL old new E).length = al) := hale
                rw [hale] at hal ⊢
                clear hb12 ho12 hca HC12 hale
                go_wp2
                go_loopw [17] (fun y wx => ∃ q : Nat, q ≤ al ∧ y = .int .i64 (q : Int) ∧ wx = w12) (fun y _ => al - (intOf y).toNat)
                case atStart => exact ⟨0, Nat.zero_le _, rfl, rfl⟩
                case round =>
                  obtain ⟨q, hq, rfl, hwq⟩ := hrel
                  subst hwq
                  by_cases hql : q < al
                  · have hql' : (q : Int) < (al : Int) := by omega
                    have hq0 : (0 : Int) ≤ (q : Int) := by omega
                    have hwq : IntKind.i64.wrap ((q : Int) + 1) = (q : Int) + 1 := by rw [IntKind.wrap_i64]; omega
                    obtain ⟨x, hx⟩ : ∃ x, (plL old new E)[q]? = some x := ⟨_, List.getElem?_eq_getElem (by rw [HAL.out]; exact hql)⟩
                    have hk3 := HAG.out x (List.mem_of_getElem? hx)
                    rcases HCA.out with h | ⟨b, o, e, _, hc⟩
                    · rw [h.2] at hx; simp at hx
                    cases e
                    have cx := (hc q x hx).1
                    rw [hk3] at cx
                    try rw [Nat.zero_add] at cx
                    clear hx hk3 hc
                    go_wp2
                    go_roundw
                    case rel => exact ⟨q + 1, by omega, by go_num, by first | trivial | rfl⟩
                    case measure => (simp [intOf] <;> omega)
                  · have hql' : ¬ (q : Int) < (al : Int) := by omega
                    go_wp2_with (go_at_call 8; refine (HOK0.out _ _).mono ?_; rintro e w13 ⟨rfl, hb13⟩)
                    go_ret
                    exact ⟨rfl, (HB12.out.alloc HB12.out.size _).trans (hb13.mono (HB12.out.alloc HB12.out.size _).size)⟩

end Go.Proofs.YtccnepenfglfoaaGreat.hp
