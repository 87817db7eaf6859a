import Derived.Test.YtajpfidgepebgaaG08
import Derived.Test.YtajpfidgepebgaaG12
import Derived.Test.YtajpfidgepebgaaG18
namespace Go.Proofs.Ytajpfidgepebgaa.cy
open Go.ChangeShapes Go.WideShapes Go.ChangeAt Go.RowKit Go.Deep Go.Maps
open fa (Us uNo nmL nds aw aws aw_mem nAt nAt_some uNo_yes uNo_get uNo_le)
open fw (Ua ua_of soA soB)
open hp (fno fno_yes fno_no iso_any)
set_option linter.unusedVariables false
set_option linter.unusedSimpArgs false

/-! ### FnOrderHolds: the law's walk -/

theorem own_at {base : Nat} {w : World} {v : Value} {xs : List (List UInt8)} (h : sr.OwnS base w v xs) : ∃ g c, v = .slice (some ⟨g, 0, none⟩) xs.length c ∧ ∀ i x, xs[i]? = some x → w.cell? ⟨g, i, none⟩ = some (sr.strL x) := by
  obtain ⟨h, hn⟩ := h
  rcases h.2 with ⟨h1, _⟩ | ⟨g, c, cur, h1, _⟩
  · exact absurd h1 hn
  · refine ⟨g, c, h1, fun i x hx => ?_⟩
    have := World.ownsRow.cells h (g := g) (by rw [h1]; rfl) i (sr.strL x) (by rw [List.getElem?_map, hx]; rfl)
    rw [addr_add, Nat.zero_add] at this
    exact this
theorem big_any (a : Option Addr) (n cap : Nat) (w : World) : Calls Try.prog 4 #[.slice a n cap] w fun e w' => e = .returned (.bool (decide (1048576 < (n : Int)))) ∧ w' = w := by
  go_enter Try.func4, Try.ntmps4
  go_wp2
  go_ret
  exact ⟨rfl, rfl⟩
def uA : ty.Un := ⟨⟨#[97]⟩, [], [], ⟨#[]⟩, false⟩
theorem one_ok : un.usB [uA] = true := by decide
theorem one_so : (soA [uA]).length = 1 ∧ soB [uA] = true := by
  have h := so_is one_ok
  have hc : (soA [uA]).length = 1 := by
    have e : soA [uA] = fw.soN [uA] 1 := by unfold soA; rw [if_pos one_ok]; rfl
    rw [e]
    rfl
  refine ⟨hc, ?_⟩
  unfold soA at hc
  unfold soB
  rw [if_pos one_ok] at hc ⊢
  rw [hc]
  rfl
theorem frN_step {O : List (List UInt8)} {n : List UInt8} {l : List ByteArray} {k : Nat} {m : ByteArray} (h : l[k]? = some m) : frN O n (l.take (k + 1)) = (frN O n (l.take k) && (decide (m.data.toList ∈ O) && !decide (m.data.toList = n))) := by
  unfold frN
  rw [List.take_add_one, h, Option.toList_some, List.all_append, List.all_cons, List.all_nil, Bool.and_true]
theorem frA_step {us : List ty.Un} {O : List (List UInt8)} {n : List UInt8} {l : List ByteArray} {k : Nat} {m : ByteArray} (h : l[k]? = some m) : frA us O n (l.take (k + 1)) = (frA us O n (l.take k) && (decide (uNo us m.data.toList = us.length) || (decide (m.data.toList ∈ O) && !decide (m.data.toList = n)))) := by
  unfold frA
  rw [List.take_add_one, h, Option.toList_some, List.all_append, List.all_cons, List.all_nil, Bool.and_true]
/-- Where a unit's cells lie. -/
structure UC (W : World) (g i : Nat) (u : ty.Un) (d1 : Option Addr) (e1 : Nat) (d2 : Option Addr) (e2 : Nat) : Prop where
  c0 : W.cell? ⟨g, i * 5, none⟩ = some (.string u.fName)
  c1 : W.cell? ⟨g, i * 5 + 1, none⟩ = some (.slice d1 u.fAfter.length e1)
  c2 : W.cell? ⟨g, i * 5 + 2, none⟩ = some (.slice d2 u.fNeeds.length e2)
  t1 : ∀ (k : Nat) (m : ByteArray), u.fAfter[k]? = some m → ∃ nb no, d1 = some ⟨nb, no, none⟩ ∧ W.cell? ⟨nb, no + k, none⟩ = some (.string m)
  t2 : ∀ (k : Nat) (m : ByteArray), u.fNeeds[k]? = some m → ∃ nb no, d2 = some ⟨nb, no, none⟩ ∧ W.cell? ⟨nb, no + k, none⟩ = some (.string m)
theorem UC.below {W W' : World} {g i : Nat} {u : ty.Un} {d1 : Option Addr} {e1 : Nat} {d2 : Option Addr} {e2 : Nat} (h : UC W g i u d1 e1 d2 e2) (hb : Below W.heap.size W W') : UC W' g i u d1 e1 d2 e2 := by
  have k : ∀ {q r v}, W.cell? ⟨q, r, none⟩ = some v → W'.cell? ⟨q, r, none⟩ = some v := fun {q r v} h' => (hb.cell (p := ⟨q, r, none⟩) (World.block_lt_of_cell? _ _ h')).trans h'
  exact ⟨k h.c0, k h.c1, k h.c2, fun j m hm => by obtain ⟨nb, no, e, hc⟩ := h.t1 j m hm; exact ⟨nb, no, e, k hc⟩, fun j m hm => by obtain ⟨nb, no, e, hc⟩ := h.t2 j m hm; exact ⟨nb, no, e, k hc⟩⟩
theorem uc_of {W : World} {g i : Nat} {us : List ty.Un} {u : ty.Un} (h : ty.SrcUn none W (some ⟨g, 0, none⟩) us) (hu : us[i]? = some u) : ∃ d1 e1 d2 e2, UC W g i u d1 e1 d2 e2 := by
  rcases h with h | ⟨b, o, e, _, hc⟩
  · rw [h.2] at hu; simp at hu
  cases e
  obtain ⟨d1, e1, d2, e2, q0, q1, q2, q3, q4, s1, s2, _⟩ := hc i u hu
  rw [Nat.zero_add] at q0 q1 q2
  refine ⟨d1, e1, d2, e2, q0, q1, q2, fun k m hm => ?_, fun k m hm => ?_⟩
  · rcases s1 with h' | ⟨nb, no, e2', _, hc2⟩
    · rw [h'.2] at hm; simp at hm
    · exact ⟨nb, no, e2', hc2 k m hm⟩
  · rcases s2 with h' | ⟨nb, no, e2', _, hc2⟩
    · rw [h'.2] at hm; simp at hm
    · exact ⟨nb, no, e2', hc2 k m hm⟩
theorem beq_dec (x y : ByteArray) : (x.toList == y.toList) = decide (x.data.toList = y.data.toList) := by rw [Bool.eq_iff_iff, beq_iff_eq, decide_eq_true_eq, ByteArray.toList_eq, ByteArray.toList_eq]

set_option maxRecDepth 100000 in
set_option maxHeartbeats 16000000 in
theorem oh_law (a : Option Addr) (n cap : Nat) (w : World) (hb : dr.CodeB w a n) (hlt : ∀ x, a = some x → 0 < n → x.block < w.heap.size) :
    Calls Try.prog 3 #[.slice a n cap] w fun e w' => e = .returned (.bool true) ∧ Below w.heap.size w w' := by
  by_cases hn : n ≤ 1048576
  rotate_left
  · have hn' : (1048576 : Int) < (n : Int) := by omega
    have hd' : decide (1048576 < (n : Int)) = true := by simpa using hn'
    go_enter Try.func3, Try.ntmps3
    go_wp2_with (go_at_call 4; refine (big_any _ _ _ _).mono ?_; rintro e w' ⟨rfl, hw⟩; have hw2 := hw.symm; subst hw2; clear hw; rw [hd'])
    go_ret
    exact ⟨rfl, Below.refl _ _⟩
  have hn' : ¬ (1048576 : Int) < (n : Int) := by omega
  have hd' : decide (1048576 < (n : Int)) = false := by simpa using hn'
  have HBG := Lib.hid (big_any a n cap w)
  rw [hd'] at HBG
  have HDW := Lib.hid (du.dc_any a n cap w hb hn hlt)
  clear hb hlt hn' hd' hn
  go_enter Try.func3, Try.ntmps3
  go_wp2_with (go_at_call 4; refine HBG.out.mono ?_; rintro e w' ⟨rfl, hw⟩; have hw2 := hw.symm; subst hw2; clear hw; refine Hid.out ?_)
  refine Lib.hid ?_
  go_wp2_with (go_at_call 5; refine HDW.out.mono ?_; rintro e w1 ⟨⟨g, cp, us, rfl, hdc⟩, hb1⟩; refine Hid.out ?_)
  refine Lib.hid ?_
  have HB1 : Hid (Below w.heap.size w w1) := hb1
  obtain ⟨hu, hwt, hf⟩ := hdc
  have HU : Hid (∀ W, Below w1.heap.size w1 W → ty.SrcUn none W (some ⟨g, 0, none⟩) us) := fun W h => hu.below h
  have HSO := Lib.hid (iso_any none (some ⟨g, 0, none⟩) cp us w1 hu hwt)
  have HCY : Hid (∀ W, Below w1.heap.size w1 W → Calls Try.prog 7 #[.slice (some ⟨g, 0, none⟩) us.length cp] W fun e w' => (∃ v, e = .returned v ∧ sr.OwnS W.heap.size w' v (cyA us)) ∧ Below W.heap.size W w') := fun W h => icy_any none _ cp us W (HU.out W h) hwt
  have HSC : Hid (∀ W, Below w1.heap.size w1 W → Calls Try.prog 9 #[.slice (some ⟨g, 0, none⟩) us.length cp] W fun e w' => (∃ v, e = .returned v ∧ sr.OwnS W.heap.size w' v (cyA us)) ∧ Below W.heap.size W w') := fun W h => scy_any _ cp us W (HU.out W h) hwt
  have HOK : Hid (∀ W, Below w1.heap.size w1 W → Calls Try.prog 8 #[.slice (some ⟨g, 0, none⟩) us.length cp] W fun e w' => e = .returned (.bool (un.usB us)) ∧ Below W.heap.size W w') := fun W h => un.sunits_any _ cp us W (HU.out W h) hwt
  have HS1 : Hid (∀ W : World, Calls Try.prog 6 #[.slice (some ⟨W.heap.size, 0, none⟩) 1 1] (W.alloc (.cells #[.string ⟨#[97]⟩, .slice none 0 0, .slice none 0 0, .string ⟨#[]⟩, .bool false] 31)) fun e w' => (∃ g c, e = .returned (.tuple #[.slice (some ⟨g, 0, none⟩) 1 c, .bool true])) ∧ Below (W.heap.size + 1) (W.alloc (.cells #[.string ⟨#[97]⟩, .slice none 0 0, .slice none 0 0, .string ⟨#[]⟩, .bool false] 31)) w') := fun W => by
    have h := iso_any none (some ⟨W.heap.size, 0, none⟩) 1 [uA] (W.alloc (.cells #[.string ⟨#[97]⟩, .slice none 0 0, .slice none 0 0, .string ⟨#[]⟩, .bool false] 31)) (.inr ⟨W.heap.size, 0, rfl, ty.Okb.free _ _, fun i u hu => by
      match i, hu with
      | 0, hu =>
        have hu : uA = u := by simpa using hu
        subst hu
        exact ⟨none, 0, none, 0, by simp [uA], by simp [uA], by simp [uA], by simp [uA], by simp [uA], .inl ⟨rfl, rfl⟩, .inl ⟨rfl, rfl⟩, (fun lo e => by cases e), (fun lo e => by cases e)⟩
      | i + 1, hu => simp at hu⟩) (by decide)
    refine h.mono fun e w' ⟨⟨v, e1, h1⟩, h2⟩ => ?_
    obtain ⟨g, c, rfl, _⟩ := own_at h1
    rw [one_so.1, one_so.2] at e1
    exact ⟨⟨g, c, e1⟩, by rw [World.size_alloc] at h2; exact h2⟩
  have HSM := Lib.hid (hp.soA_small us)
  have HCM := Lib.hid (cyA_small us)
  clear hb1 hu HDW HBG
  go_wp2_with (go_at_call 6; refine HSO.out.mono ?_; rintro e w2 ⟨⟨v2, rfl, ho2⟩, hb2⟩; obtain ⟨og, oc, hv2, hco⟩ := own_at ho2; subst hv2; refine Hid.out ?_)
  refine Lib.hid ?_
  have HB2 := Lib.hid hb2
  have HC2 := Lib.hid (HCY.out w2 hb2)
  have HOC2 := Lib.hid hco
  clear HSO hb2 ho2 hco
  go_wp2_with (go_at_call 7; refine HC2.out.mono ?_; rintro e w3 ⟨⟨v3, rfl, ho3⟩, hb3⟩; obtain ⟨cg, cc, hv3, hcc⟩ := own_at ho3; subst hv3; refine Hid.out ?_)
  refine Lib.hid ?_
  have HB23 := Lib.hid hb3
  have HB3 := Lib.hid (HB2.out.trans (hb3.mono HB2.out.size))
  have HCC3 := Lib.hid hcc
  have HS3 := Lib.hid (HS1.out w3)
  clear HC2 hb3 ho3 hcc HCY HS1
  go_wp2_with (go_at_call 6; refine HS3.out.mono ?_; rintro e w4 ⟨⟨g4, c4, rfl⟩, hb4⟩; refine Hid.out ?_)
  refine Lib.hid ?_
  have HB34 : Hid (Below w3.heap.size w3 w4) := ((Below.refl _ _).alloc (Nat.le_refl _) _).trans (hb4.mono (by omega))
  have HB4 := Lib.hid (HB3.out.trans (HB34.out.mono HB3.out.size))
  have HB24 := Lib.hid (HB23.out.trans (HB34.out.mono HB23.out.size))
  have HK4 := Lib.hid (HOK.out w4 HB4.out)
  clear hb4 HS3 HOK
  cases hok : un.usB us with
  | false =>
    rw [hok] at HK4
    have e1 : soA us = [] := by unfold soA; rw [if_neg (by rw [hok]; decide)]
    have e2 : soB us = false := by unfold soB; rw [if_neg (by rw [hok]; decide)]
    have e3 : cyA us = [] := by unfold cyA; rw [if_neg (by rw [hok]; decide)]
    rw [e1, e2, e3]
    clear e1 e2 e3 HOC2 HCC3 HSM HCM HSC
    go_wp2_with (go_at_call 8; refine HK4.out.mono ?_; rintro e w5 ⟨rfl, hb5⟩)
    go_ret
    exact ⟨rfl, HB1.out.trans ((HB4.out.trans (hb5.mono HB4.out.size)).mono HB1.out.size)⟩
  | true =>
    rw [hok] at HK4
    have HU1 := Lib.hid (ua_of hok)
    have HOR := Lib.hid (so_is hok)
    have HSB : Hid (soB us = decide ((soA us).length = us.length)) := by show _ = _; unfold soB soA; rw [if_pos hok, if_pos hok]
    have HAN : Hid (soB us = true → (cyA us).length = 0) := fun h => by unfold cyA; rw [if_pos hok, all_none (ua_of hok).toUs hok h]; rfl
    have HCY : Hid (cyA us = (cyN us us.length).map (nAt us)) := by show _ = _; unfold cyA; rw [if_pos hok]
    go_wp2_with (go_at_call 8; refine HK4.out.mono ?_; rintro e w5 ⟨rfl, hb5⟩; refine Hid.out ?_)
    refine Lib.hid ?_
    have HB5 := Lib.hid (HB4.out.trans (hb5.mono HB4.out.size))
    have HB25 := Lib.hid (HB24.out.trans (hb5.mono HB24.out.size))
    have HB35 := Lib.hid (HB34.out.trans (hb5.mono HB34.out.size))
    have HC5 := Lib.hid (HSC.out w5 HB5.out)
    clear hb5 HK4 HSC hok
    go_wp2_with (go_at_call 9; refine HC5.out.mono ?_; rintro e w6 ⟨⟨v6, rfl, ho6⟩, hb6⟩; obtain ⟨sg, sc6, hv6, hx6⟩ := own_at ho6; subst hv6; clear hx6; refine Hid.out ?_)
    refine Lib.hid ?_
    have HB6 := Lib.hid (HB5.out.trans (hb6.mono HB5.out.size))
    have HB26 := Lib.hid (HB25.out.trans (hb6.mono HB25.out.size))
    have HB36 := Lib.hid (HB35.out.trans (hb6.mono HB35.out.size))
    have HBW := Lib.hid (HB1.out.trans (HB6.out.mono HB1.out.size))
    clear hb6 ho6 HC5 HB5 HB25 HB35 HB4 HB24 HB34 HB3 HB23
    obtain ⟨O, hO⟩ : ∃ O, soA us = O := ⟨_, rfl⟩
    obtain ⟨C, hC⟩ : ∃ C, cyA us = C := ⟨_, rfl⟩
    rw [hO] at HOC2 HSM HOR HSB
    rw [hC] at HCC3 HCM HAN HCY
    have HUW : Hid (∀ W, Below w6.heap.size w6 W → ty.SrcUn none W (some ⟨g, 0, none⟩) us) := fun W h => HU.out W (HB6.out.trans (h.mono HB6.out.size))
    have HOC : Hid (∀ W, Below w6.heap.size w6 W → ∀ i x, O[i]? = some x → W.cell? ⟨og, i, none⟩ = some (.string ⟨x.toArray⟩)) := fun W h i x hx => ((HB26.out.trans (h.mono HB26.out.size)).cell (p := ⟨og, i, none⟩) (World.block_lt_of_cell? _ _ (HOC2.out i x hx))).trans (HOC2.out i x hx)
    have HCC : Hid (∀ W, Below w6.heap.size w6 W → ∀ i x, C[i]? = some x → W.cell? ⟨cg, i, none⟩ = some (.string ⟨x.toArray⟩)) := fun W h i x hx => ((HB36.out.trans (h.mono HB36.out.size)).cell (p := ⟨cg, i, none⟩) (World.block_lt_of_cell? _ _ (HCC3.out i x hx))).trans (HCC3.out i x hx)
    have HHAS : Hid (∀ (s : ByteArray) (W : World), Below w6.heap.size w6 W → Calls Try.prog 10 #[.slice (some ⟨og, 0, none⟩) O.length oc, .string s] W fun e w' => e = .returned (.bool (decide (s.data.toList ∈ O))) ∧ w' = W) := fun s W h => sr.lhas_any O og oc s W HSM.out (HOC.out W h)
    have HUNI : Hid (∀ (s : ByteArray) (W : World), Below w6.heap.size w6 W → Calls Try.prog 11 #[.slice (some ⟨g, 0, none⟩) us.length cp, .string s] W fun e w' => e = .returned (.int .i64 (fno us s.data.toList)) ∧ w' = W) := fun s W h => lunitN_any _ cp us s W (HUW.out W h) (by omega) HU1.out.toUs
    have HWAI : Hid (∀ (x : Nat) (u : ty.Un) (s t : ByteArray) (W : World), us[x]? = some u → nmL u = s.data.toList → Below w6.heap.size w6 W → Calls Try.prog 12 #[.slice (some ⟨g, 0, none⟩) us.length cp, .string s, .string t] W fun e w' => e = .returned (.bool (wtB us u t.data.toList)) ∧ Below W.heap.size W w') := fun x u s t W hx hs h => lwaits_any _ cp us x u s t W (HUW.out W h) HU1.out.toUs hx hs (HU1.out.aft u (List.mem_of_getElem? hx)) (HU1.out.nds u (List.mem_of_getElem? hx))
    have HIT : Hid (∀ (i : Nat) (u : ty.Un), us[i]? = some u → ∃ d1 e1 d2 e2, ∀ W, Below w6.heap.size w6 W → UC W g i u d1 e1 d2 e2) := fun i u hu => by
      obtain ⟨d1, e1, d2, e2, h⟩ := uc_of (HUW.out w6 (Below.refl _ _)) hu
      exact ⟨d1, e1, d2, e2, fun W hW => h.below hW⟩
    have HFNO : Hid (∀ m, (uNo us m = us.length ∧ fno us m = -1) ∨ (uNo us m ≠ us.length ∧ ∃ y : Nat, fno us m = (y : Int))) := fun m => by
      rcases Nat.lt_or_ge (uNo us m) us.length with h | h
      · exact .inr ⟨by omega, _, fno_yes h⟩
      · have := uNo_le us m
        exact .inl ⟨by omega, fno_no (by omega)⟩
    obtain ⟨mm, hmm⟩ : ∃ q, us.length = q := ⟨_, rfl⟩
    obtain ⟨ol, hol⟩ : ∃ q, O.length = q := ⟨_, rfl⟩
    obtain ⟨cl, hcl⟩ : ∃ q, C.length = q := ⟨_, rfl⟩
    have HMM : Hid (us.length = mm) := hmm
    have HOL : Hid (O.length = ol) := hol
    have HCL : Hid (C.length = cl) := hcl
    have hol6 : ol ≤ 1000000 := by have := HSM.out; omega
    have hcl6 : cl ≤ 1000000 := by have := HCM.out; omega
    rw [hO, hC, hmm, hol, hcl]
    rw [hmm] at hf HUNI HWAI
    rw [hol] at HHAS
    clear hO hC hmm hol hcl HOC2 HCC3 HU HUW HB2 HB6 HB26 HB36
    go_wp2
    go_loopw [9, 10, 11, 12, 13] (fun v9 _ _ _ _ wr => ∃ i : Nat, i ≤ mm ∧ v9 = .int .i64 (i : Int) ∧ Below w6.heap.size w6 wr) (fun v9 _ _ _ _ _ => mm - (intOf v9).toNat)
    case atStart => exact ⟨0, Nat.zero_le _, rfl, Below.refl _ _⟩
    case round =>
      obtain ⟨i, hi, rfl, hbe⟩ := hrel
      have HBE := Lib.hid hbe
      clear hbe
      by_cases hil : i < mm
      · have hil' : (i : Int) < (mm : Int) := by omega
        have hi0 : (0 : Int) ≤ (i : Int) := by omega
        obtain ⟨u, hu⟩ : ∃ u, us[i]? = some u := ⟨_, List.getElem?_eq_getElem (by rw [HMM.out]; exact hil)⟩
        obtain ⟨d1, e1, d2, e2, huc⟩ := HIT.out i u hu
        have hC := huc wr HBE.out
        have HFR := Lib.hid (HOR.out.free HU1.out.toUs (List.mem_of_getElem? hu))
        have c0 := hC.c0
        have c1 := hC.c1
        have c2 := hC.c2
        have HT1 := Lib.hid hC.t1
        have HT2 := Lib.hid hC.t2
        have hl1 : u.fAfter.length ≤ 20 := HU1.out.aft u (List.mem_of_getElem? hu)
        have hl2 : u.fNeeds.length ≤ 20 := HU1.out.nds u (List.mem_of_getElem? hu)
        have hnm : nmL u = u.fName.data.toList := rfl
        rw [hnm] at HFR
        have HHS : Hid (∀ s : ByteArray, Calls Try.prog 10 #[.slice (some ⟨og, 0, none⟩) ol oc, .string s] wr fun e w' => e = .returned (.bool (decide (s.data.toList ∈ O))) ∧ w' = wr) := fun s => HHAS.out s wr HBE.out
        have HUN : Hid (∀ s : ByteArray, Calls Try.prog 11 #[.slice (some ⟨g, 0, none⟩) mm cp, .string s] wr fun e w' => e = .returned (.int .i64 (fno us s.data.toList)) ∧ w' = wr) := fun s => HUNI.out s wr HBE.out
        obtain ⟨P, hP⟩ : ∃ P, u.fName = P := ⟨_, rfl⟩
        obtain ⟨Ln, hLn⟩ : ∃ q, u.fNeeds = q := ⟨_, rfl⟩
        obtain ⟨La, hLa⟩ : ∃ q, u.fAfter = q := ⟨_, rfl⟩
        rw [hP] at c0 HFR
        rw [hLn] at c2 HT2 HFR hl2
        rw [hLa] at c1 HT1 HFR hl1
        obtain ⟨nl, hnl⟩ : ∃ q, Ln.length = q := ⟨_, rfl⟩
        obtain ⟨al, hal⟩ : ∃ q, La.length = q := ⟨_, rfl⟩
        have HNL : Hid (Ln.length = nl) := hnl
        have HAL : Hid (La.length = al) := hal
        rw [hnl] at c2 hl2
        rw [hal] at c1 hl1
        clear hC huc hu hnm hP hLn hLa hnl hal
        go_wp2
        go_loopw [11, 12] (fun v11 v12 wx => ∃ k : Nat, k ≤ nl ∧ v12 = .int .i64 (k : Int) ∧ v11 = .bool (frN O P.data.toList (Ln.take k)) ∧ wx = wr) (fun _ v12 _ => nl - (intOf v12).toNat)
        case atStart => exact ⟨0, Nat.zero_le _, rfl, rfl, rfl⟩
        case round =>
          obtain ⟨k, hk, rfl, rfl, hwx⟩ := hrel
          subst hwx
          by_cases hkl : k < nl
          · have hkl' : (k : Int) < (nl : Int) := by omega
            have hk0 : (0 : Int) ≤ (k : Int) := by omega
            obtain ⟨m, hm⟩ : ∃ m, Ln[k]? = some m := ⟨_, List.getElem?_eq_getElem (by rw [HNL.out]; exact hkl)⟩
            obtain ⟨nb, no, rfl, hcm⟩ := HT2.out k m hm
            have HST := Lib.hid (frN_step (O := O) (n := P.data.toList) hm)
            have HH := Lib.hid (HHS.out m)
            have heq := beq_dec m P
            clear hm
            cases hfr : frN O P.data.toList (Ln.take k) with
            | false =>
              have HX : Hid (false = frN O P.data.toList (Ln.take (k + 1))) := by show _ = _; rw [HST.out, hfr]; rfl
              clear hfr HST
              go_wp2
              go_roundw
              case rel => exact ⟨k + 1, by omega, by go_num, congrArg Value.bool HX.out, by first | trivial | rfl⟩
              case measure => (simp [intOf] <;> omega)
            | true =>
              cases hd : decide (m.data.toList ∈ O) with
              | false =>
                have HX : Hid (false = frN O P.data.toList (Ln.take (k + 1))) := by show _ = _; rw [HST.out, hfr, hd]; rfl
                rw [hd] at HH
                clear hfr HST hd
                go_wp2_with (go_at_call 10; refine HH.out.mono ?_; rintro e w7 ⟨rfl, hw7⟩; have hw8 := hw7.symm; subst hw8; clear hw7)
                go_roundw
                case rel => exact ⟨k + 1, by omega, by go_num, congrArg Value.bool HX.out, by first | trivial | rfl⟩
                case measure => (simp [intOf] <;> omega)
              | true =>
                rw [hd] at HH
                cases hq : decide (m.data.toList = P.data.toList) with
                | false =>
                  have HX : Hid (true = frN O P.data.toList (Ln.take (k + 1))) := by show _ = _; rw [HST.out, hfr, hd, hq]; rfl
                  rw [hq] at heq
                  clear hfr HST hd hq
                  go_wp2_with (go_at_call 10; refine HH.out.mono ?_; rintro e w7 ⟨rfl, hw7⟩; have hw8 := hw7.symm; subst hw8; clear hw7)
                  go_roundw
                  case rel => exact ⟨k + 1, by omega, by go_num, congrArg Value.bool HX.out, by first | trivial | rfl⟩
                  case measure => (simp [intOf] <;> omega)
                | true =>
                  have HX : Hid (false = frN O P.data.toList (Ln.take (k + 1))) := by show _ = _; rw [HST.out, hfr, hd, hq]; rfl
                  rw [hq] at heq
                  clear hfr HST hd hq
                  go_wp2_with (go_at_call 10; refine HH.out.mono ?_; rintro e w7 ⟨rfl, hw7⟩; have hw8 := hw7.symm; subst hw8; clear hw7)
                  go_roundw
                  case rel => exact ⟨k + 1, by omega, by go_num, congrArg Value.bool HX.out, by first | trivial | rfl⟩
                  case measure => (simp [intOf] <;> omega)
          · have hkl' : ¬ (k : Int) < (nl : Int) := by omega
            obtain rfl : k = nl := by omega
            rw [List.take_of_length_le (by rw [HNL.out]; exact Nat.le_refl _)]
            obtain ⟨fN, hfN⟩ : ∃ q, frN O P.data.toList Ln = q := ⟨_, rfl⟩
            rw [hfN] at HFR ⊢
            clear hfN HT2 HNL
            go_wp2
            clear c2
            go_loopw [11, 13] (fun v11 v13 wx => ∃ k : Nat, k ≤ al ∧ v13 = .int .i64 (k : Int) ∧ v11 = .bool (fN && frA us O P.data.toList (La.take k)) ∧ wx = wr) (fun _ v13 _ => al - (intOf v13).toNat)
            case atStart => exact ⟨0, Nat.zero_le _, rfl, by rw [show frA us O P.data.toList (La.take 0) = true from rfl, Bool.and_true], rfl⟩
            case round =>
              obtain ⟨k, hk, rfl, rfl, hwx⟩ := hrel
              subst hwx
              by_cases hkl : k < al
              · have hkl' : (k : Int) < (al : Int) := by omega
                have hk0 : (0 : Int) ≤ (k : Int) := by omega
                obtain ⟨m, hm⟩ : ∃ m, La[k]? = some m := ⟨_, List.getElem?_eq_getElem (by rw [HAL.out]; exact hkl)⟩
                obtain ⟨nb, no, rfl, hcm⟩ := HT1.out k m hm
                have HST := Lib.hid (frA_step (us := us) (O := O) (n := P.data.toList) hm)
                have HH := Lib.hid (HHS.out m)
                have HV := Lib.hid (HUN.out m)
                have HFM := HFNO.out m.data.toList
                have heq := beq_dec m P
                clear hm
                cases hfr : (fN && frA us O P.data.toList (La.take k)) with
                | false =>
                  have HX : Hid (false = (fN && frA us O P.data.toList (La.take (k + 1)))) := by show _ = _; rw [HST.out, ← Bool.and_assoc, hfr]; rfl
                  clear hfr HST HFM
                  go_wp2
                  go_roundw
                  case rel => exact ⟨k + 1, by omega, by go_num, congrArg Value.bool HX.out, by first | trivial | rfl⟩
                  case measure => (simp [intOf] <;> omega)
                | true =>
                  rcases HFM with ⟨hq1, hq2⟩ | ⟨hq1, y, hq2⟩
                  · have HX : Hid (true = (fN && frA us O P.data.toList (La.take (k + 1)))) := by show _ = _; rw [HST.out, ← Bool.and_assoc, hfr, decide_eq_true hq1]; rfl
                    rw [hq2] at HV
                    clear hfr HST hq1 hq2
                    go_wp2_with (go_at_call 11; refine HV.out.mono ?_; rintro e w7 ⟨rfl, hw7⟩; have hw8 := hw7.symm; subst hw8; clear hw7)
                    go_roundw
                    case rel => exact ⟨k + 1, by omega, by go_num, congrArg Value.bool HX.out, by first | trivial | rfl⟩
                    case measure => (simp [intOf] <;> omega)
                  · rw [hq2] at HV
                    have hy0 : ¬ (y : Int) < 0 := by omega
                    cases hd : decide (m.data.toList ∈ O) with
                    | false =>
                      have HX : Hid (false = (fN && frA us O P.data.toList (La.take (k + 1)))) := by show _ = _; rw [HST.out, ← Bool.and_assoc, hfr, decide_eq_false hq1, hd]; rfl
                      rw [hd] at HH
                      clear hfr HST hd hq1 hq2
                      go_wp2_with (go_at_call 11; refine HV.out.mono ?_; rintro e w7 ⟨rfl, hw7⟩; have hw8 := hw7.symm; subst hw8; clear hw7; refine Hid.out ?_)
                      refine Lib.hid ?_
                      go_wp2_with (go_at_call 10; refine HH.out.mono ?_; rintro e w7 ⟨rfl, hw7⟩; have hw8 := hw7.symm; subst hw8; clear hw7)
                      go_roundw
                      case rel => exact ⟨k + 1, by omega, by go_num, congrArg Value.bool HX.out, by first | trivial | rfl⟩
                      case measure => (simp [intOf] <;> omega)
                    | true =>
                      rw [hd] at HH
                      cases hq : decide (m.data.toList = P.data.toList) with
                      | false =>
                        have HX : Hid (true = (fN && frA us O P.data.toList (La.take (k + 1)))) := by show _ = _; rw [HST.out, ← Bool.and_assoc, hfr, decide_eq_false hq1, hd, hq]; rfl
                        rw [hq] at heq
                        clear hfr HST hd hq1 hq2 hq
                        go_wp2_with (go_at_call 11; refine HV.out.mono ?_; rintro e w7 ⟨rfl, hw7⟩; have hw8 := hw7.symm; subst hw8; clear hw7; refine Hid.out ?_)
                        refine Lib.hid ?_
                        go_wp2_with (go_at_call 10; refine HH.out.mono ?_; rintro e w7 ⟨rfl, hw7⟩; have hw8 := hw7.symm; subst hw8; clear hw7)
                        go_roundw
                        case rel => exact ⟨k + 1, by omega, by go_num, congrArg Value.bool HX.out, by first | trivial | rfl⟩
                        case measure => (simp [intOf] <;> omega)
                      | true =>
                        have HX : Hid (false = (fN && frA us O P.data.toList (La.take (k + 1)))) := by show _ = _; rw [HST.out, ← Bool.and_assoc, hfr, decide_eq_false hq1, hd, hq]; rfl
                        rw [hq] at heq
                        clear hfr HST hd hq1 hq2 hq
                        go_wp2_with (go_at_call 11; refine HV.out.mono ?_; rintro e w7 ⟨rfl, hw7⟩; have hw8 := hw7.symm; subst hw8; clear hw7; refine Hid.out ?_)
                        refine Lib.hid ?_
                        go_wp2_with (go_at_call 10; refine HH.out.mono ?_; rintro e w7 ⟨rfl, hw7⟩; have hw8 := hw7.symm; subst hw8; clear hw7)
                        go_roundw
                        case rel => exact ⟨k + 1, by omega, by go_num, congrArg Value.bool HX.out, by first | trivial | rfl⟩
                        case measure => (simp [intOf] <;> omega)
              · have hkl' : ¬ (k : Int) < (al : Int) := by omega
                obtain rfl : k = al := by omega
                rw [List.take_of_length_le (by rw [HAL.out]; exact Nat.le_refl _)]
                have HH := Lib.hid (HHS.out P)
                rw [HFR.out] at HH
                generalize (fN && frA us O P.data.toList La) = ff at *
                clear HFR
                cases ff <;>
                · go_wp2_with (go_at_call 10; refine HH.out.mono ?_; rintro e w7 ⟨rfl, hw7⟩; have hw8 := hw7.symm; subst hw8; clear hw7)
                  go_roundw
                  case rel => exact ⟨i + 1, by omega, by go_num, HBE.out⟩
                  case measure => (simp [intOf] <;> omega)
      · have hil' : ¬ (i : Int) < (mm : Int) := by omega
        go_wp2
        go_loopw [14, 15] (fun v14 _ wx => ∃ i : Nat, i ≤ ol ∧ v14 = .int .i64 (i : Int) ∧ Below w6.heap.size w6 wx) (fun v14 _ _ => ol - (intOf v14).toNat)
        case atStart => exact ⟨0, Nat.zero_le _, rfl, HBE.out⟩
        case round =>
          clear HBE hil hil' hi
          obtain ⟨i, hi, rfl, hbe⟩ := hrel
          have HBE := Lib.hid hbe
          clear hbe
          by_cases hil : i < ol
          · have hil' : (i : Int) < (ol : Int) := by omega
            have hi0 : (0 : Int) ≤ (i : Int) := by omega
            obtain ⟨X, hX⟩ : ∃ X, O[i]? = some X := ⟨_, List.getElem?_eq_getElem (by rw [HOL.out]; exact hil)⟩
            obtain ⟨u, hu, hun, _⟩ := HOR.out.at_ i X hX
            obtain ⟨x, hx⟩ := List.getElem?_of_mem hu
            have HXX : Hid (O[i]? = some X) := hX
            have HUX : Hid (us[x]? = some u ∧ nmL u = X) := ⟨hx, hun⟩
            clear hX hu hun hx
            go_wp2
            go_loopw [15] (fun v15 wx => ∃ k : Nat, i ≤ k ∧ k ≤ ol ∧ v15 = .int .i64 (k : Int) ∧ Below w6.heap.size w6 wx) (fun v15 _ => ol - (intOf v15).toNat)
            case atStart => exact ⟨i, Nat.le_refl _, hi, rfl, HBE.out⟩
            case round =>
              clear HBE
              obtain ⟨k, hik, hk, rfl, hbe⟩ := hrel
              have HBE := Lib.hid hbe
              clear hbe
              by_cases hkl : k < ol
              · have hkl' : (k : Int) < (ol : Int) := by omega
                have hk0 : (0 : Int) ≤ (k : Int) := by omega
                obtain ⟨Y, hY⟩ : ∃ Y, O[k]? = some Y := ⟨_, List.getElem?_eq_getElem (by rw [HOL.out]; exact hkl)⟩
                have HBd : Hid (Below w6.heap.size w6 wr.drew) := HBE.out.drew
                have k1 := HOC.out _ HBd.out i X HXX.out
                have k2 := HOC.out _ HBd.out k Y hY
                have HW := Lib.hid (HWAI.out x u ⟨X.toArray⟩ ⟨Y.toArray⟩ wr.drew HUX.out.1 (by rw [HUX.out.2]) HBd.out)
                have hwf := HOR.out.order HU1.out.toUs hik HXX.out hY (List.mem_of_getElem? HUX.out.1) HUX.out.2
                rw [show (⟨Y.toArray⟩ : ByteArray).data.toList = Y by simp, hwf] at HW
                have HKP : Hid (∀ W, Below w6.heap.size w6 W → W.cell? ⟨og, i, none⟩ = some (.string ⟨X.toArray⟩) ∧ W.cell? ⟨og, k, none⟩ = some (.string ⟨Y.toArray⟩)) := fun W h => ⟨HOC.out W h i X HXX.out, HOC.out W h k Y hY⟩
                clear hY hwf
                go_upto_region 34 with fail
                refine wq 10 (S := fun W => W.cell? ⟨og, i, none⟩ = some (.string ⟨X.toArray⟩) ∧ W.cell? ⟨og, k, none⟩ = some (.string ⟨Y.toArray⟩)) (by kernel_rfl) ⟨k1, k2⟩ fun hHeld => ?_
                iterate 9 (refine un 10 rfl ?_; try simp only [aP])
                refine rq 9 rfl fun K hK => ?_
                go_simp
                (go_at_call 12; refine HW.out.mono ?_; rintro e w7 ⟨rfl, hb7⟩)
                try go_wp2_with fail
                have HB7 := Lib.hid (HBd.out.trans (hb7.mono HBd.out.size))
                refine hK.out _ _ (HKP.out w7 HB7.out) (fun hHeld2 => ?_)
                clear hK K hb7 hHeld hHeld2 k1 k2
                try simp only [aP]
                refine dq ?_
                go_wp2
                go_roundw
                case rel => exact ⟨k + 1, by omega, by omega, by go_num, HB7.out⟩
                case measure => (simp [intOf] <;> omega)
              · have hkl' : ¬ (k : Int) < (ol : Int) := by omega
                go_wp2
                go_roundw
                case rel => exact ⟨i + 1, by omega, by go_num, HBE.out⟩
                case measure => (simp [intOf] <;> omega)
          · have hil' : ¬ (i : Int) < (ol : Int) := by omega
            go_wp2
            go_loopw [16] (fun v16 wx => ∃ i : Nat, i ≤ cl ∧ v16 = .int .i64 (i : Int) ∧ Below w6.heap.size w6 wx) (fun v16 _ => cl - (intOf v16).toNat)
            case atStart => exact ⟨0, Nat.zero_le _, rfl, HBE.out⟩
            case round =>
              clear HBE hil hil' hi
              obtain ⟨i, hi, rfl, hbe⟩ := hrel
              have HBE := Lib.hid hbe
              clear hbe
              by_cases hil : i < cl
              · have hil' : (i : Int) < (cl : Int) := by omega
                have hi0 : (0 : Int) ≤ (i : Int) := by omega
                have hc0 : ¬ cl = 0 := by omega
                obtain ⟨j, hj⟩ : ∃ j, (i + 1) % cl = j := ⟨_, rfl⟩
                have hjl : j < cl := by rw [← hj]; exact Nat.mod_lt _ (by omega)
                have hj0 : (0 : Int) ≤ (j : Int) := by omega
                have hjl' : (j : Int) < (cl : Int) := by omega
                have hjm : ((i : Int) + 1) % (cl : Int) = (j : Int) := by rw [← hj, Int.natCast_emod]; simp
                have hjt : ((i : Int) + 1).tmod (cl : Int) = (j : Int) := by rw [← hj, show ((i : Int) + 1) = ((i + 1 : Nat) : Int) by simp, ← Int.ofNat_tmod]
                have hwi : IntKind.i64.wrap ((i : Int) + 1) = (i : Int) + 1 := by rw [IntKind.wrap_i64]; omega
                have hwj : IntKind.i64.wrap (j : Int) = (j : Int) := by rw [IntKind.wrap_i64]; omega
                have hCl : (cyN us us.length).length = cl := by rw [← HCL.out, HCY.out, List.length_map]
                obtain ⟨x, hx⟩ : ∃ x, (cyN us us.length)[i]? = some x := ⟨_, List.getElem?_eq_getElem (by rw [hCl]; exact hil)⟩
                obtain ⟨y, hy⟩ : ∃ y, (cyN us us.length)[j]? = some y := ⟨_, List.getElem?_eq_getElem (by rw [hCl]; exact hjl)⟩
                have hxl := cyN_lt us.length (Nat.le_refl _) x (List.mem_of_getElem? hx)
                have hyl := cyN_lt us.length (Nat.le_refl _) y (List.mem_of_getElem? hy)
                obtain ⟨u, hu, hw⟩ := ed_wt HU1.out.toUs (cyc_next us.length hx (by rw [hCl, hj]; exact hy)) hyl
                have hnx : nAt us x = nmL u := nAt_some hu
                have hX : C[i]? = some (nAt us x) := by rw [HCY.out, List.getElem?_map, hx]; rfl
                have hY : C[j]? = some (nAt us y) := by rw [HCY.out, List.getElem?_map, hy]; rfl
                have hno : ¬ nAt us x ∈ O := fun h => by
                  obtain ⟨q, hq⟩ := List.getElem?_of_mem h
                  exact cyc_out HU1.out.toUs HOR.out q i x hx hq
                have hfx : fno us (nAt us x) = (x : Int) := by
                  have e : uNo us (nAt us x) = x := uNo_yes HU1.out.toUs hu hnx.symm
                  rw [fno_yes (by rw [e]; exact hxl), e]
                obtain ⟨X, hXe⟩ : ∃ X, nAt us x = X := ⟨_, rfl⟩
                obtain ⟨Y, hYe⟩ : ∃ Y, nAt us y = Y := ⟨_, rfl⟩
                rw [hXe] at hX hno hfx hnx
                rw [hYe] at hY hw
                have HBd : Hid (Below w6.heap.size w6 wr.drew) := HBE.out.drew
                have HKP : Hid (∀ W, Below w6.heap.size w6 W → W.cell? ⟨cg, i, none⟩ = some (.string ⟨X.toArray⟩) ∧ W.cell? ⟨cg, j, none⟩ = some (.string ⟨Y.toArray⟩)) := fun W h => ⟨HCC.out W h i X hX, HCC.out W h j Y hY⟩
                have HV := Lib.hid (HUNI.out ⟨X.toArray⟩ wr.drew HBd.out)
                have HH := Lib.hid (HHAS.out ⟨X.toArray⟩ wr.drew HBd.out)
                have HW := Lib.hid (HWAI.out x u ⟨X.toArray⟩ ⟨Y.toArray⟩ wr.drew hu (by rw [hnx]) HBd.out)
                rw [show (⟨X.toArray⟩ : ByteArray).data.toList = X by simp, hfx] at HV
                rw [show (⟨X.toArray⟩ : ByteArray).data.toList = X by simp, decide_eq_false hno] at HH
                rw [show (⟨Y.toArray⟩ : ByteArray).data.toList = Y by simp, hw] at HW
                obtain ⟨k1, k2⟩ := HKP.out _ HBd.out
                have hx0 : ¬ (x : Int) < 0 := by omega
                clear hx hy hxl hyl hu hw hnx hX hY hno hfx hXe hYe hCl hj
                go_upto_region 39 with fail
                refine wq 32 (S := fun W => W.cell? ⟨cg, i, none⟩ = some (.string ⟨X.toArray⟩) ∧ W.cell? ⟨cg, j, none⟩ = some (.string ⟨Y.toArray⟩)) (by kernel_rfl) ⟨k1, k2⟩ fun hHeld => ?_
                iterate 5 (refine un 32 rfl ?_; try simp only [aP])
                refine rq 5 rfl fun K hK => ?_
                go_simp
                (go_at_call 11; refine HV.out.mono ?_; rintro e w7 ⟨rfl, hw7⟩; have hw8 := hw7.symm; subst hw8; clear hw7)
                try go_wp2_with fail
                refine hK.out _ _ ⟨k1, k2⟩ (fun hHeld => ?_)
                clear hK K
                try simp only [aP]
                iterate 7 (refine un 32 rfl ?_; try simp only [aP])
                refine rq 13 rfl fun K hK => ?_
                go_simp
                (go_at_call 10; refine HH.out.mono ?_; rintro e w7 ⟨rfl, hw7⟩; have hw8 := hw7.symm; subst hw8; clear hw7)
                try go_wp2_with fail
                refine hK.out _ _ ⟨k1, k2⟩ (fun hHeld => ?_)
                clear hK K
                try simp only [aP]
                iterate 15 (refine un 32 rfl ?_; try simp only [aP])
                refine rq 29 rfl fun K hK => ?_
                go_simp
                (go_at_call 12; refine HW.out.mono ?_; rintro e w7 ⟨rfl, hb7⟩)
                try go_wp2_with fail
                have HB7 := Lib.hid (HBd.out.trans (hb7.mono HBd.out.size))
                refine hK.out _ _ (HKP.out w7 HB7.out) (fun hHeld2 => ?_)
                clear hK K hb7 hHeld k1 k2
                try simp only [aP]
                iterate 2 (refine un 32 rfl ?_; try simp only [aP])
                refine dq ?_
                clear hHeld2
                go_wp2
                go_roundw
                case rel => exact ⟨i + 1, by omega, by go_num, HB7.out⟩
                case measure => (simp [intOf] <;> omega)
              · have hil' : ¬ (i : Int) < (cl : Int) := by omega
                have HFE := Lib.hid (HBW.out.trans (HBE.out.mono HBW.out.size))
                have hsb := HSB.out
                rw [HOL.out, HMM.out] at hsb
                by_cases hom : ol = mm
                · rw [decide_eq_true hom] at hsb
                  have hcz : cl = 0 := by have := HAN.out hsb; rw [HCL.out] at this; exact this
                  have hcz' : (cl : Int) = 0 := by omega
                  have hoe : ((ol : Int) == (mm : Int)) = true := by rw [beq_iff_eq]; omega
                  rw [hsb]
                  clear hsb hcz hom
                  go_wp2
                  go_ret
                  exact ⟨rfl, HFE.out⟩
                · rw [decide_eq_false hom] at hsb
                  have hoe : ((ol : Int) == (mm : Int)) = false := by rw [beq_eq_false_iff_ne]; omega
                  rw [hsb]
                  clear hsb hom
                  go_wp2
                  go_ret
                  exact ⟨rfl, HFE.out⟩
end Go.Proofs.Ytajpfidgepebgaa.cy
