import Derived.Test.YtccnepenfglfoaaGreatPLE
import Derived.BigQuiet
namespace Go.Proofs.YtccnepenfglfoaaGreat.hp
open Go.ChangeShapes Go.WideShapes Go.ChangeAt Go.RowKit Go.Deep Go.Maps
open fa (Us uNo nmL nds aw aws nAt nAt_some uNo_yes uNo_get uNo_no uNo_no' uNo_le)
open fw (Ua ua_of soA)
set_option linter.unusedVariables false
set_option linter.unusedSimpArgs false

/-! ### spec.PlanUnits, where all is as it should be -/

set_option maxRecDepth 100000 in
set_option maxHeartbeats 16000000 in
theorem spl_yes (md0 md1 : Option Nat) (a0 a1 a2 : Option Addr) (c0 c1 c2 : Nat) (old new : List ty.Un) (rn : List ByteArray) (w : World) (h0 : ty.SrcUn md0 w a0 old) (hw0 : ty.wtUn old ≤ 1048576) (h1 : ty.SrcUn md1 w a1 new) (hw1 : ty.wtUn new ≤ 1048576) (h2 : sr.StrR w (.slice a2 rn.length c2) (rn.map fun b => b.data.toList)) (hok : plP old new rn) :
    Calls Tryz.prog 13 #[.slice a0 old.length c0, .slice a1 new.length c1, .slice a2 rn.length c2] w fun e w' => (∃ v, e = .returned v ∧ OwA w.heap.size w' v (plL old new (rn.map fun b => b.data.toList))) ∧ Below w.heap.size w w' := by
  obtain ⟨⟨hu0, hu1⟩, hr⟩ := hok
  have hU0 := ua_of hu0
  have hU1 := ua_of hu1
  have hf0 := hU0.few
  have hf1 := hU1.few
  obtain ⟨RN, hRN⟩ : ∃ R, (rn.map fun b => b.data.toList) = R := ⟨_, rfl⟩
  rw [hRN] at h2 ⊢
  obtain ⟨W0, hW0⟩ : ∃ W0, W0 = w.alloc (.cells #[] 38) := ⟨_, rfl⟩
  have HW0 := Lib.hid hW0
  have HB0 : Hid (Below w.heap.size w W0) := by show Below _ _ _; rw [hW0]; exact (Below.refl _ _).alloc (Nat.le_refl _) _
  have HO0 : Hid (OwA w.heap.size W0 (.slice (some ⟨w.heap.size, 0, none⟩) 0 0) []) := by show OwA _ _ _ _; rw [hW0]; exact OwA.zero w
  have HU0 := Lib.hid (un.sunits_any a0 c0 old W0 (h0.any.below HB0.out) hw0)
  have HU1 : Hid (∀ W, Below w.heap.size w W → Calls Tryz.prog 7 #[.slice a1 new.length c1] W fun e w' => e = .returned (.bool (un.usB new)) ∧ Below W.heap.size W w') := fun W h => un.sunits_any a1 c1 new W (h1.any.below h) hw1
  rw [hu0, hW0] at HU0
  rw [hu1] at HU1
  have HS0 : Hid (∀ W, Below w.heap.size w W → Calls Tryz.prog 10 #[.slice a0 old.length c0] W fun e w' => (∃ v, e = .returned (.tuple #[v, .bool (fw.soB old)]) ∧ sr.OwnS W.heap.size w' v (soA old)) ∧ Below W.heap.size W w') := fun W h => fw.sso_any md0 a0 c0 old W (h0.below h) hw0
  have HS1 : Hid (∀ W, Below w.heap.size w W → Calls Tryz.prog 10 #[.slice a1 new.length c1] W fun e w' => (∃ v, e = .returned (.tuple #[v, .bool (fw.soB new)]) ∧ sr.OwnS W.heap.size w' v (soA new)) ∧ Below W.heap.size W w') := fun W h => fw.sso_any md1 a1 c1 new W (h1.below h) hw1
  have HF0 : Hid (∀ (q : ByteArray) W, Below w.heap.size w W → Calls Tryz.prog 40 #[.slice a0 old.length c0, .string q] W fun e w' => e = .returned (.int .i64 (fno old q.data.toList)) ∧ w' = W) := fun q W h => sfindN_any a0 c0 old q W (h0.any.below h) (by omega) hU0.toUs
  have HF1 : Hid (∀ (q : ByteArray) W, Below w.heap.size w W → Calls Tryz.prog 40 #[.slice a1 new.length c1, .string q] W fun e w' => e = .returned (.int .i64 (fno new q.data.toList)) ∧ w' = W) := fun q W h => sfindN_any a1 c1 new q W (h1.any.below h) (by omega) hU1.toUs
  have HHR : Hid (∀ (q : ByteArray) W, Below w.heap.size w W → Calls Tryz.prog 38 #[.slice a2 rn.length c2, .string q] W fun e w' => e = .returned (.bool (decide (q.data.toList ∈ RN))) ∧ w' = W) := fun q W h => sr.l3has_any RN _ q W (h2.below h)
  have HI0 : Hid (∀ (x : Nat) (u : ty.Un), old[x]? = some u → ∃ b o, a0 = some ⟨b, o, none⟩ ∧ ∀ W, Below w.heap.size w W → (W.cell? ⟨b, o + x * 5, none⟩ = some (.string u.fName) ∧ W.cell? ⟨b, o + x * 5 + 3, none⟩ = some (.string u.fExec))) := fun x u hu => by
    rcases h0 with h | ⟨b, o, e, _, hc⟩
    · rw [h.2] at hu; simp at hu
    obtain ⟨d1, e1, d2, e2, q0, q1, q2, q3, q4, _⟩ := hc x u hu
    refine ⟨b, o, e, fun W h => ?_⟩
    have k : ∀ {q r v}, w.cell? ⟨q, r, none⟩ = some v → W.cell? ⟨q, r, none⟩ = some v := fun {q r v} h' => (h.cell (p := ⟨q, r, none⟩) (World.block_lt_of_cell? _ _ h')).trans h'
    exact ⟨k q0, k q3⟩
  have HI1 : Hid (∀ (x : Nat) (u : ty.Un), new[x]? = some u → ∃ b o d1 e1 d2 e2, a1 = some ⟨b, o, none⟩ ∧ ∀ W, Below w.heap.size w W → (W.cell? ⟨b, o + x * 5, none⟩ = some (.string u.fName) ∧ W.cell? ⟨b, o + x * 5 + 1, none⟩ = some (.slice d1 u.fAfter.length e1) ∧ W.cell? ⟨b, o + x * 5 + 2, none⟩ = some (.slice d2 u.fNeeds.length e2) ∧ W.cell? ⟨b, o + x * 5 + 3, none⟩ = some (.string u.fExec) ∧ W.cell? ⟨b, o + x * 5 + 4, none⟩ = some (.bool u.fKeep))) := fun x u hu => by
    rcases h1 with h | ⟨b, o, e, _, hc⟩
    · rw [h.2] at hu; simp at hu
    obtain ⟨d1, e1, d2, e2, q0, q1, q2, q3, q4, _⟩ := hc x u hu
    refine ⟨b, o, d1, e1, d2, e2, e, fun W h => ?_⟩
    have k : ∀ {q r v}, w.cell? ⟨q, r, none⟩ = some v → W.cell? ⟨q, r, none⟩ = some v := fun {q r v} h' => (h.cell (p := ⟨q, r, none⟩) (World.block_lt_of_cell? _ _ h')).trans h'
    exact ⟨k q0, k q1, k q2, k q3, k q4⟩
  have HS1L : Hid (∀ k, (sw1 old k).length ≤ 1000) := fun k => by have := sw1_len old k; omega
  have HS2L : Hid (∀ k, (sw2 old k).length ≤ 1000) := fun k => by have := sw2_len old k; have := soA_len old; omega
  have hol : (soA old).length ≤ 1000 := by have := soA_len old; omega
  have hml : (soA new).length ≤ 1000 := by have := soA_len new; omega
  have HX1 : Hid (∀ k, k < old.length → decide (nAt old (old.length - 1 - k) ∈ soA old) = true → sw1 old k = sw1 old (k + 1)) := fun k h hm => (sw1_yes h hm).symm
  have HX0 : Hid (∀ k, k < old.length → decide (nAt old (old.length - 1 - k) ∈ soA old) = false → sw1 old k ++ [nAt old (old.length - 1 - k)] = sw1 old (k + 1)) := fun k h hm => (sw1_no h hm).symm
  have HX2 : Hid (sw1 old old.length = sw2 old 0) := (sw2_zero old).symm
  have HX3 : Hid (∀ k m, k < (soA old).length → (soA old)[(soA old).length - 1 - k]? = some m → sw2 old k ++ [m] = sw2 old (k + 1)) := fun k m h hm => (sw2_step h hm).symm
  have HX4 : Hid (sw2 old (soA old).length = stp old) := sw2_all old
  have HSL : Hid ((stp old).length ≤ 1000) := by show _ ≤ _; have := stp_len old; have := soA_len old; omega
  have HML : Hid (∀ k, (((stp old).take k).flatMap (sa1 new RN)).length ≤ 1000) := fun k => by
    have e1 := fm_len (f := sa1 new RN) sa1_len ((stp old).take k)
    have e2 := HSL.out
    rw [List.length_take] at e1
    omega
  have HML2 : Hid (∀ k, ((stp old).flatMap (sa1 new RN) ++ ((soA new).take k).flatMap (sa2 old new RN)).length ≤ 10000) := fun k => by
    have e1 := fm_len (f := sa1 new RN) sa1_len (stp old)
    have e2 := HSL.out
    have e3 := fm_len (f := sa2 old new RN) sa2_len ((soA new).take k)
    have e4 := soA_len new
    rw [List.length_take] at e3
    rw [List.length_append]
    omega
  have HSA : Hid (∀ m ∈ soA new, ∃ x u, x < new.length ∧ fno new m = (x : Int) ∧ new[x]? = some u ∧ nmL u = m ∧ kpAt new m = u.fKeep ∧ exAt new m = u.fExec) := fun m hm => by
    obtain ⟨hl, u, hu, e⟩ := soA_no hu1 hm
    exact ⟨uNo new m, u, hl, fno_yes hl, hu, e, by unfold kpAt; rw [hu]; rfl, by unfold exAt; rw [hu]; rfl⟩
  have HSF : Hid (∀ m, decide (fno new m < 0) = !decide (uNo new m < new.length)) := fun m => by
    unfold fno
    split
    · rename_i h; rw [decide_eq_true h, decide_eq_false (by omega)]; rfl
    · rename_i h; rw [decide_eq_false h]; rfl
  have HSO : Hid (∀ m, (fno old m = -1 ∧ decide (uNo old m < old.length) = false) ∨ ∃ (x : Nat) (u : ty.Un), x < old.length ∧ fno old m = (x : Int) ∧ old[x]? = some u ∧ decide (uNo old m < old.length) = true ∧ exAt old m = u.fExec) := fun m => by
    by_cases h : uNo old m < old.length
    · obtain ⟨u, hu, _⟩ := uNo_get h
      exact .inr ⟨_, u, h, fno_yes h, hu, decide_eq_true h, by unfold exAt; rw [hu]; rfl⟩
    · exact .inl ⟨fno_no (by have := uNo_le old m; omega), decide_eq_false h⟩
  unfold plL
  obtain ⟨SP, hSP⟩ : ∃ S, stp old = S := ⟨_, rfl⟩
  rw [hSP] at HSL HML HML2 HX4 ⊢
  obtain ⟨n0, hn0⟩ : ∃ n, old.length = n := ⟨_, rfl⟩
  obtain ⟨n1, hn1⟩ : ∃ n, new.length = n := ⟨_, rfl⟩
  obtain ⟨rl, hrl⟩ : ∃ n, rn.length = n := ⟨_, rfl⟩
  obtain ⟨OL, hOL⟩ : ∃ q, soA old = q := ⟨_, rfl⟩
  obtain ⟨NL, hNL⟩ : ∃ q, soA new = q := ⟨_, rfl⟩
  rw [hOL] at HS0 hol HX0 HX1 HX3 HX4
  rw [hNL] at HS1 hml HSA HML2 ⊢
  have HN0 : Hid (old.length = n0) := hn0
  have HN1 : Hid (new.length = n1) := hn1
  rw [hn0] at HU0 HS0 HF0 HX0 HX1 HX2 HSO hf0
  rw [hn1] at HU1 HS1 HF1 HSA HSF hf1
  rw [hrl] at HHR hr
  rw [hn0, hn1, hrl]
  obtain ⟨ol, hoe⟩ : ∃ q, OL.length = q := ⟨_, rfl⟩
  have HOE : Hid (OL.length = ol) := hoe
  rw [hoe] at hol HX3 HX4
  clear h0 hw0 h1 hw1 h2 hu0 hu1 hU0 hU1 hRN hSP hn0 hn1 hrl hOL hNL hoe hW0
  have hr' : ¬ (2000 : Int) < (rl : Int) := by omega
  have hw01 : IntKind.i64.wrap ((n0 : Int) - 1) = (n0 : Int) - 1 := by rw [IntKind.wrap_i64]; omega
  have hw02 : IntKind.i64.wrap ((ol : Int) - 1) = (ol : Int) - 1 := by rw [IntKind.wrap_i64]; omega
  go_enter Tryz.func13, Tryz.ntmps13
  go_wp2_with (go_at_call 7; refine HU0.out.mono ?_; rintro e w1 ⟨rfl, hl1⟩; rw [← HW0.out] at hl1; refine Hid.out ?_)
  refine Lib.hid ?_
  have HB1 := Lib.hid (HB0.out.trans (hl1.mono HB0.out.size))
  have HO1 := Lib.hid (HO0.out.below hl1)
  have HC1 := Lib.hid (HU1.out w1 HB1.out)
  clear hl1 HU0 HO0 HB0 HW0 HU1
  go_wp2_with (go_at_call 7; refine HC1.out.mono ?_; rintro e w2 ⟨rfl, hl2⟩; refine Hid.out ?_)
  refine Lib.hid ?_
  have HB2 := Lib.hid (HB1.out.trans (hl2.mono HB1.out.size))
  have HO2 := Lib.hid (HO1.out.below hl2)
  have HC2 := Lib.hid (HS0.out w2 HB2.out)
  clear hl2 HO1 HC1
  go_wp2_with (go_at_call 10; refine HC2.out.mono ?_; rintro e w3 ⟨⟨v3, rfl, hown⟩, hl3⟩; obtain ⟨go, co, rfl, hgo, hgl, hrd⟩ := own_str hown; refine Hid.out ?_)
  refine Lib.hid ?_
  have HB3 := Lib.hid (HB2.out.trans (hl3.mono HB2.out.size))
  have HO3 := Lib.hid (HO2.out.below hl3)
  have HHO : Hid (∀ (q : ByteArray) W, Below w3.heap.size w3 W → Calls Tryz.prog 38 #[.slice (some ⟨go, 0, none⟩) OL.length co, .string q] W fun e w' => e = .returned (.bool (decide (q.data.toList ∈ OL))) ∧ w' = W) := fun q W h => sr.l3has_any OL _ q W (hown.row.below h)
  rw [HOE.out] at HHO ⊢
  have HRD := Lib.hid hrd
  clear hown hrd hl3 HO2 HC2 HS0
  obtain ⟨W4, hW4⟩ : ∃ W, W = w3.alloc (.cells #[] 9) := ⟨_, rfl⟩
  have HW4 := Lib.hid hW4
  have HA4 : Hid (Below w3.heap.size w3 W4) := by show Below _ _ _; rw [hW4]; exact (Below.refl _ _).alloc (Nat.le_refl _) _
  have HZ4 : Hid (sr.OwnS w3.heap.size W4 (.slice (some ⟨w3.heap.size, 0, none⟩) 0 0) (sw1 old 0)) := by show sr.OwnS _ _ _ _; rw [hW4]; exact ⟨sr.own_zero w3, sr.not_nil _ _ _⟩
  clear hW4
  go_wp2
  go_loopw [10, 11] (fun v y wr => ∃ k : Nat, k ≤ n0 ∧ y = .int .i64 ((n0 : Int) - 1 - (k : Int)) ∧ sr.OwnS w3.heap.size wr v (sw1 old k) ∧ Below w3.heap.size w3 wr) (fun _ y _ => (intOf y + 1).toNat)
  case atStart => exact ⟨0, Nat.zero_le _, by go_num, by rw [← HW4.out]; exact HZ4.out, by rw [← HW4.out]; exact HA4.out⟩
  case round =>
    obtain ⟨k, hk, rfl, hown, hbel⟩ := hrel
    have HOW := Lib.hid hown
    have HBE := Lib.hid hbel
    clear hown hbel HZ4 HA4
    by_cases hkl : k < n0
    · obtain ⟨i, hi⟩ : ∃ i, n0 - 1 - k = i := ⟨_, rfl⟩
      have hin : i < n0 := by omega
      have hie : (n0 : Int) - 1 - (k : Int) = (i : Int) := by omega
      have hwi : IntKind.i64.wrap ((i : Int) - 1) = (i : Int) - 1 := by rw [IntKind.wrap_i64]; omega
      have hi0 : (0 : Int) ≤ (i : Int) := by omega
      have hin' : (i : Int) < (n0 : Int) := by omega
      have hnx : (n0 : Int) - 1 - ((k : Int) + 1) = (i : Int) - 1 := by omega
      obtain ⟨u, hu⟩ : ∃ u, old[i]? = some u := ⟨_, List.getElem?_eq_getElem (by rw [HN0.out]; exact hin)⟩
      obtain ⟨b, o, rfl, hcu⟩ := HI0.out i u hu
      have HBW := Lib.hid (HB3.out.trans (HBE.out.mono HB3.out.size))
      have c0 := (hcu wr HBW.out).1
      have hna : nAt old i = u.fName.data.toList := nAt_some hu
      have HH := Lib.hid (HHO.out u.fName wr HBE.out)
      have H1 := Lib.hid (HX1.out k hkl)
      have H0 := Lib.hid (HX0.out k hkl)
      rw [hi, hna] at H1 H0
      obtain ⟨P, hP⟩ : ∃ P, u.fName = P := ⟨_, rfl⟩
      rw [hP] at c0 HH H1 H0
      rw [hie]
      clear hu hcu hna hP hi hie
      cases m1 : decide (P.data.toList ∈ OL) with
      | true =>
        rw [m1] at HH
        have HE := Lib.hid (H1.out m1)
        clear m1 H1 H0
        go_wp2_with (go_at_call 38; refine HH.out.mono ?_; rintro e w5 ⟨rfl, rfl⟩)
        go_roundw
        case rel => exact ⟨k + 1, by omega, by go_num, by rw [← HE.out]; exact HOW.out, HBE.out⟩
        case measure => (simp [intOf] <;> omega)
      | false =>
        rw [m1] at HH
        have HE := Lib.hid (H0.out m1)
        clear m1 H1 H0
        have HOA : Hid ((wr.alloc (.cells #[.string P] 9)).ownsRow w3.heap.size 9 1 u10 (sw1 old k).length ((sw1 old k).map sr.strL)) := HOW.out.1.alloc _
        have HNW : Hid (∀ j z, ([P.data.toList].map sr.strL)[j]? = some z → (wr.alloc (.cells #[.string P] 9)).cell? ((⟨wr.heap.size, 0, none⟩ : Addr).add j) = some z) := by
          show ∀ j z, _ → _
          rw [List.map_singleton, sr.strL_of]
          exact one_new wr _ 9
        have hbs : w3.heap.size ≤ (wr.alloc (.cells #[.string P] 9)).heap.size := by have := HBE.out.size; simp; omega
        have hlk : (sw1 old k).length + 1 ≤ 1000000 := by have := HS1L.out k; omega
        go_wp2_with (first
          | (go_at_call 38; refine HH.out.mono ?_; rintro e w5 ⟨rfl, hw5⟩; obtain rfl := hw5.symm; clear hw5)
          | (at_builtin; refine sr.app_str _ rfl _ _ rfl w3.heap.size _ (sw1 old k) rfl HOA.out HOW.out.2 ⟨wr.heap.size, 0, none⟩ 1 1 [P.data.toList] rfl rfl HNW.out hlk hbs ?_; intro v6 w6 hown6 hv6 hg6; refine Hid.out ?_))
        refine Lib.hid ?_
        have HO6 : Hid (sr.OwnS w3.heap.size w6 v6 (sw1 old (k + 1))) := by show sr.OwnS _ _ _ _; rw [← HE.out]; exact ⟨hown6, hv6⟩
        have HB6 : Hid (Below w3.heap.size w3 w6) := (HBE.out.alloc HBE.out.size _).grown hg6 hbs (fun q hq => (HOA.out.lt q hq).1)
        clear hown6 hv6 hg6 hbs HOA HNW
        go_wp2
        go_roundw
        case rel => exact ⟨k + 1, by omega, by go_num, HO6.out, HB6.out⟩
        case measure => (simp [intOf] <;> omega)
    · obtain rfl : n0 = k := by omega
      have hke : (n0 : Int) - 1 - (n0 : Int) = -1 := by omega
      rw [HX2.out] at HOW
      rw [hke]
      go_wp2
      go_loopw [10, 12] (fun v y wr => ∃ j : Nat, j ≤ ol ∧ y = .int .i64 ((ol : Int) - 1 - (j : Int)) ∧ sr.OwnS w3.heap.size wr v (sw2 old j) ∧ Below w3.heap.size w3 wr) (fun _ y _ => (intOf y + 1).toNat)
      case atStart => exact ⟨0, Nat.zero_le _, by go_num, HOW.out, HBE.out⟩
      case round =>
        obtain ⟨j, hj, rfl, hown, hbel⟩ := hrel
        have HO5 := Lib.hid hown
        have HB5 := Lib.hid hbel
        clear hown hbel HOW HBE hke
        by_cases hjl : j < ol
        · obtain ⟨i, hi⟩ : ∃ i, ol - 1 - j = i := ⟨_, rfl⟩
          have hin : i < ol := by omega
          have hie : (ol : Int) - 1 - (j : Int) = (i : Int) := by omega
          have hwi : IntKind.i64.wrap ((i : Int) - 1) = (i : Int) - 1 := by rw [IntKind.wrap_i64]; omega
          have hi0 : (0 : Int) ≤ (i : Int) := by omega
          have hin' : (i : Int) < (ol : Int) := by omega
          have hnx : (ol : Int) - 1 - ((j : Int) + 1) = (i : Int) - 1 := by omega
          obtain ⟨m, hm⟩ : ∃ m, OL[i]? = some m := ⟨_, List.getElem?_eq_getElem (by rw [HOE.out]; exact hin)⟩
          have cm := HRD.out wr (HB5.out.block go hgl) i m hm
          have HE := Lib.hid (HX3.out j m hjl (by rw [hi]; exact hm))
          rw [hie]
          clear hm hi hie
          have HOA : Hid ((wr.alloc (.cells #[.string (bA m)] 9)).ownsRow w3.heap.size 9 1 u10 (sw2 old j).length ((sw2 old j).map sr.strL)) := HO5.out.1.alloc _
          have HNW : Hid (∀ q z, ([m].map sr.strL)[q]? = some z → (wr.alloc (.cells #[.string (bA m)] 9)).cell? ((⟨wr.heap.size, 0, none⟩ : Addr).add q) = some z) := by
            show ∀ q z, _ → _
            rw [List.map_singleton]
            exact one_new wr _ 9
          have hbs : w3.heap.size ≤ (wr.alloc (.cells #[.string (bA m)] 9)).heap.size := by have := HB5.out.size; simp; omega
          have hlk : (sw2 old j).length + 1 ≤ 1000000 := by have := HS2L.out j; omega
          go_wp2_with (at_builtin; refine sr.app_str _ rfl _ _ rfl w3.heap.size _ (sw2 old j) rfl HOA.out HO5.out.2 ⟨wr.heap.size, 0, none⟩ 1 1 [m] rfl rfl HNW.out hlk hbs ?_; intro v6 w6 hown6 hv6 hg6; refine Hid.out ?_)
          refine Lib.hid ?_
          have HO6 : Hid (sr.OwnS w3.heap.size w6 v6 (sw2 old (j + 1))) := by show sr.OwnS _ _ _ _; rw [← HE.out]; exact ⟨hown6, hv6⟩
          have HB6 : Hid (Below w3.heap.size w3 w6) := (HB5.out.alloc HB5.out.size _).grown hg6 hbs (fun q hq => (HOA.out.lt q hq).1)
          clear hown6 hv6 hg6 hbs HOA HNW cm
          go_wp2
          go_roundw
          case rel => exact ⟨j + 1, by omega, by go_num, HO6.out, HB6.out⟩
          case measure => (simp [intOf] <;> omega)
        · obtain rfl : ol = j := by omega
          have hje : (ol : Int) - 1 - (ol : Int) = -1 := by omega
          rw [HX4.out] at HO5
          rw [hje]
          obtain ⟨gx, cx, hvx, hgx, hgxl, hrx⟩ := own_str HO5.out
          subst hvx
          have HRX := Lib.hid hrx
          have HP5 : Hid (Pk gx wr (.slice (some ⟨w.heap.size, 0, none⟩) 0 0) ((SP.take 0).flatMap (sa1 new RN)) w wr) := ⟨HO3.out.below HB5.out, rfl, hgxl, fun e => by have h : w.heap.size = gx := Option.some.inj e; have := HO3.out.1.lt _ rfl; omega, HB3.out.trans (HB5.out.mono HB3.out.size)⟩
          clear hrx hgx hgxl HO5 HB5 HO3 hje
          obtain ⟨sl, hsl⟩ : ∃ n, SP.length = n := ⟨_, rfl⟩
          have HSLE : Hid (SP.length = sl) := hsl
          rw [hsl] at HSL ⊢
          have hsl9 := HSL.out
          obtain ⟨wx, hwx⟩ : ∃ q, wr = q := ⟨_, rfl⟩
          rw [hwx] at HP5 HRX ⊢
          clear hsl hwx
          go_wp2
          go_loopw [7, 13] (fun v y wr => ∃ k : Nat, k ≤ sl ∧ y = .int .i64 (k : Int) ∧ Pk gx wx v ((SP.take k).flatMap (sa1 new RN)) w wr) (fun _ y _ => sl - (intOf y).toNat)
          case atStart => exact ⟨0, Nat.zero_le _, rfl, HP5.out⟩
          case round =>
            obtain ⟨q, hq, rfl, hpi⟩ := hrel
            have HPI := Lib.hid hpi
            clear hpi HP5
            by_cases hql : q < sl
            · have hql' : (q : Int) < (sl : Int) := by omega
              have hq0 : (0 : Int) ≤ (q : Int) := by omega
              have hwq : IntKind.i64.wrap ((q : Int) + 1) = (q : Int) + 1 := by rw [IntKind.wrap_i64]; omega
              obtain ⟨m, hm⟩ : ∃ m, SP[q]? = some m := ⟨_, List.getElem?_eq_getElem (by rw [HSLE.out]; exact hql)⟩
              have cm := HRX.out _ HPI.out.keep q m hm
              have HFS := Lib.hid (fm_step (sa1 new RN) hm)
              have HHS := Lib.hid (HHR.out (bA m) _ HPI.out.bel)
              have HHF := Lib.hid (HF1.out (bA m) _ HPI.out.bel)
              rw [bA_list] at HHS HHF
              have HN2 : Hid (decide (fno new m < 0) = !decide (uNo new m < new.length)) := by show _ = _; rw [HSF.out, HN1.out]
              have HKL := Lib.hid (HML.out q)
              obtain ⟨F, hF⟩ : ∃ F, fno new m = F := ⟨_, rfl⟩
              rw [hF] at HHF HN2
              clear hm hF
              cases e1 : decide (m ∈ RN) with
              | false =>
                rw [e1] at HHS
                have HE : Hid ((SP.take q).flatMap (sa1 new RN) = (SP.take (q + 1)).flatMap (sa1 new RN)) := by show _ = _; rw [HFS.out, sa1_no1 e1, List.append_nil]
                rw [HE.out] at HPI
                clear e1
                go_wp2_with (go_at_call 38; refine HHS.out.mono ?_; rintro e w7 ⟨rfl, hw7⟩; obtain rfl := hw7.symm; clear hw7)
                go_roundw
                case rel => exact ⟨q + 1, by omega, by go_num, HPI.out⟩
                case measure => (simp [intOf] <;> omega)
              | true =>
                rw [e1] at HHS
                by_cases e2 : F < 0
                · have e3 : decide (F < 0) = true := decide_eq_true e2
                  have HE : Hid ((SP.take q).flatMap (sa1 new RN) ++ [act 1 m] = (SP.take (q + 1)).flatMap (sa1 new RN)) := by
                    show _ = _
                    have h := HN2.out
                    rw [e3] at h
                    rw [HFS.out, sa1_yes e1 (by cases hx : decide (uNo new m < new.length) with | false => rfl | true => rw [hx] at h; cases h)]
                  clear e1 e3
                  have HP8 := Lib.hid (HPI.out.below ((Below.refl _ _).alloc (Nat.le_refl _) (.cells #[.int .i64 1, .string (bA m)] 38)))
                  go_wp2_with (first
                    | (go_at_call 38; refine HHS.out.mono ?_; rintro e w7 ⟨rfl, hw7⟩; obtain rfl := hw7.symm; clear hw7)
                    | (go_at_call 40; refine HHF.out.mono ?_; rintro e w8 ⟨rfl, hw8⟩; obtain rfl := hw8.symm; clear hw8)
                    | (at_builtin; refine app_ac _ rfl _ _ rfl w.heap.size _ _ rfl HP8.out.ow ⟨wr.heap.size, 0, none⟩ 1 (act 1 m) rfl (two_news wr _ _ _) (by have := HKL.out; omega) HP8.out.bel.size ?_; intro v9 w9 ho9 hg9 hv9; refine Hid.out ?_))
                  refine Lib.hid ?_
                  have HP9 := Lib.hid (HP8.out.app ho9 hg9 hv9)
                  rw [HE.out] at HP9
                  clear ho9 hg9 hv9 cm
                  go_wp2
                  go_roundw
                  case rel => exact ⟨q + 1, by omega, by go_num, HP9.out⟩
                  case measure => (simp [intOf] <;> omega)
                · have e3 : decide (F < 0) = false := decide_eq_false e2
                  have HE : Hid ((SP.take q).flatMap (sa1 new RN) = (SP.take (q + 1)).flatMap (sa1 new RN)) := by
                    show _ = _
                    have h := HN2.out
                    rw [e3] at h
                    rw [HFS.out, sa1_no2 (by cases hx : decide (uNo new m < new.length) with | true => rfl | false => rw [hx] at h; cases h), List.append_nil]
                  rw [HE.out] at HPI
                  clear e1 e3
                  go_wp2_with (first
                    | (go_at_call 38; refine HHS.out.mono ?_; rintro e w7 ⟨rfl, hw7⟩; obtain rfl := hw7.symm; clear hw7)
                    | (go_at_call 40; refine HHF.out.mono ?_; rintro e w8 ⟨rfl, hw8⟩; obtain rfl := hw8.symm; clear hw8))
                  go_roundw
                  case rel => exact ⟨q + 1, by omega, by go_num, HPI.out⟩
                  case measure => (simp [intOf] <;> omega)
            · have hql' : ¬ (q : Int) < (sl : Int) := by omega
              obtain rfl : sl = q := by omega
              have HTK : Hid (SP.take sl = SP) := List.take_of_length_le (by rw [HSLE.out]; exact Nat.le_refl _)
              rw [HTK.out] at HPI
              have HC7 := Lib.hid (HS1.out _ HPI.out.bel)
              go_wp2_with (go_at_call 10; refine HC7.out.mono ?_; rintro e w7 ⟨⟨v7, rfl, hown⟩, hl7⟩; obtain ⟨gy, cy, rfl, hgy, hgyl, hry⟩ := own_str hown; clear hown; refine Hid.out ?_)
              refine Lib.hid ?_
              have HRY := Lib.hid hry
              have HP7 : Hid (Pk gy w7 u7 (SP.flatMap (sa1 new RN) ++ (NL.take 0).flatMap (sa2 old new RN)) w w7) := by
                have h := (HPI.out.below hl7).other (gY := gy) (wY := w7) rfl hgyl (fun e => by have := (HPI.out.ow.1.lt gy e).2; omega)
                show Pk _ _ _ _ _ _
                simpa using h
              obtain ⟨nl, hne⟩ : ∃ n, NL.length = n := ⟨_, rfl⟩
              have HNE : Hid (NL.length = nl) := hne
              rw [hne] at hml ⊢
              clear hry hgy hgyl hl7 hne HPI HC7 HS1 HRX
              go_wp2
              go_loopw [7, 16, 17, 18] (fun v y _ _ wr => ∃ k : Nat, k ≤ nl ∧ y = .int .i64 (k : Int) ∧ Pk gy w7 v (SP.flatMap (sa1 new RN) ++ (NL.take k).flatMap (sa2 old new RN)) w wr) (fun _ y _ _ _ => nl - (intOf y).toNat)
              case atStart => exact ⟨0, Nat.zero_le _, rfl, HP7.out⟩
              case round =>
                obtain ⟨k, hk, rfl, hpi⟩ := hrel
                have HPI := Lib.hid hpi
                clear hpi HP7
                by_cases hkl : k < nl
                · have hkl' : (k : Int) < (nl : Int) := by omega
                  have hk0 : (0 : Int) ≤ (k : Int) := by omega
                  have hwk : IntKind.i64.wrap ((k : Int) + 1) = (k : Int) + 1 := by rw [IntKind.wrap_i64]; omega
                  obtain ⟨m, hm⟩ : ∃ m, NL[k]? = some m := ⟨_, List.getElem?_eq_getElem (by rw [HNE.out]; exact hkl)⟩
                  have cm := HRY.out _ HPI.out.keep k m hm
                  obtain ⟨x, u, hxn, hfx, hux, hum, hkx, hex⟩ := HSA.out m (List.mem_of_getElem? hm)
                  obtain ⟨b, o1, d1, e1, d2, e2, rfl, hcu⟩ := HI1.out x u hux
                  obtain ⟨q0, q1, q2, q3, q4⟩ := hcu _ HPI.out.bel
                  have hx0 : (0 : Int) ≤ (x : Int) := by omega
                  have hxn' : (x : Int) < (n1 : Int) := by omega
                  have HFS := Lib.hid (fm_step (sa2 old new RN) hm)
                  have HKL := Lib.hid (HML2.out k)
                  obtain ⟨P, hP⟩ : ∃ P, u.fName = P := ⟨_, rfl⟩
                  obtain ⟨al, hal⟩ : ∃ q, u.fAfter.length = q := ⟨_, rfl⟩
                  obtain ⟨nn, hnl⟩ : ∃ q, u.fNeeds.length = q := ⟨_, rfl⟩
                  obtain ⟨xe, hxe⟩ : ∃ q, u.fExec = q := ⟨_, rfl⟩
                  obtain ⟨kp, hkp⟩ : ∃ q, u.fKeep = q := ⟨_, rfl⟩
                  rw [hP] at q0
                  rw [hal] at q1
                  rw [hnl] at q2
                  rw [hxe] at q3 hex
                  rw [hkp] at q4 hkx
                  have HHF := Lib.hid (HF1.out (bA m) _ HPI.out.bel)
                  rw [bA_list, hfx] at HHF
                  obtain ⟨W1, hW1⟩ : ∃ W, W = wr.alloc (.cells #[.string P, .slice d1 al e1, .slice d2 nn e2, .string xe, .bool kp] 53) := ⟨_, rfl⟩
                  have HA1 : Hid (Below wr.heap.size wr W1) := by show Below _ _ _; rw [hW1]; exact (Below.refl _ _).alloc (Nat.le_refl _) _
                  have HP1 := Lib.hid (HPI.out.below HA1.out)
                  have cm1 := HRY.out _ HP1.out.keep k m hm
                  have cb3 : W1.cell? ⟨wr.heap.size, 3, none⟩ = some (.string xe) := by rw [hW1]; simp [go_sem]
                  have cb4 : W1.cell? ⟨wr.heap.size, 4, none⟩ = some (.bool kp) := by rw [hW1]; simp [go_sem]
                  have HHO := Lib.hid (HF0.out (bA m) _ HP1.out.bel)
                  have HHS := Lib.hid (HHR.out (bA m) _ HP1.out.bel)
                  rw [bA_list] at HHO HHS
                  have HSO1 := Lib.hid (HSO.out m)
                  have HIX := Lib.hid (fun x u h => HI0.out x u h)
                  have HRS : Hid (rst old new m = (!kp && (decide (uNo old m < n0) && !decide (exAt old m = xe)))) := by show _ = _; unfold rst; rw [hkx, hex, HN0.out]
                  clear hm hux hum hkx hex hfx hP hal hnl hxe hkp hcu
                  have cmx := cm1
                  rw [hW1] at HHO cmx
                  have HW1 := Lib.hid hW1
                  clear hW1
                  go_wp2_with (first
                    | (go_at_call 40; refine HHF.out.mono ?_; rintro e w7 ⟨rfl, hw7⟩; obtain rfl := hw7.symm; clear hw7 HHF)
                    | (go_at_call 40; refine HHO.out.mono ?_; rintro e w8 ⟨rfl, hw8⟩; rw [← HW1.out] at hw8; obtain rfl := hw8.symm; clear hw8; refine Hid.out ?_))
                  refine Lib.hid ?_
                  clear cm cmx q0 q1 q2 q3 q4 HHO
                  cases m1 : decide (m ∈ RN) with
                  | false =>
                    rw [m1] at HHS
                    have HE : Hid (SP.flatMap (sa1 new RN) ++ (NL.take k).flatMap (sa2 old new RN) ++ [act 2 m] = SP.flatMap (sa1 new RN) ++ (NL.take (k + 1)).flatMap (sa2 old new RN)) := by show _ = _; rw [HFS.out, List.append_assoc]; unfold sa2; rw [m1]; rfl
                    clear m1 HSO1 HIX HRS cb3 cb4
                    have HP8 := Lib.hid (HP1.out.below ((Below.refl _ _).alloc (Nat.le_refl _) (.cells #[.int .i64 2, .string (bA m)] 38)))
                    go_wp2_with (first
                      | (go_at_call 38; refine HHS.out.mono ?_; rintro e w8 ⟨rfl, hw8⟩; obtain rfl := hw8.symm; clear hw8)
                      | (at_builtin; refine app_ac _ rfl _ _ rfl w.heap.size _ _ rfl HP8.out.ow ⟨W1.heap.size, 0, none⟩ 1 (act 2 m) rfl (two_news W1 _ _ _) (by have := HKL.out; omega) HP8.out.bel.size ?_; intro v9 w9 ho9 hg9 hv9; refine Hid.out ?_))
                    refine Lib.hid ?_
                    have HP9 := Lib.hid (HP8.out.app ho9 hg9 hv9)
                    rw [HE.out] at HP9
                    clear ho9 hg9 hv9 cm1
                    go_wp2
                    go_roundw
                    case rel => exact ⟨k + 1, by omega, by go_num, HP9.out⟩
                    case measure => (simp [intOf] <;> omega)
                  | true =>
                    rw [m1] at HHS
                    have HS2 : Hid (sa2 old new RN m = if rst old new m then [act 3 m] else []) := by show _ = _; unfold sa2; rw [m1]; rfl
                    rcases HSO1.out with ⟨hf, hd⟩ | ⟨y, v, hyn, hf, hvy, hd, hev⟩
                    · rw [hf]
                      have HE : Hid (SP.flatMap (sa1 new RN) ++ (NL.take k).flatMap (sa2 old new RN) = SP.flatMap (sa1 new RN) ++ (NL.take (k + 1)).flatMap (sa2 old new RN)) := by show _ = _; rw [HFS.out, HS2.out, HRS.out, hd]; simp
                      rw [HE.out] at HP1
                      have HPd : Hid (Pk gy w7 u7 (SP.flatMap (sa1 new RN) ++ (NL.take (k + 1)).flatMap (sa2 old new RN)) w W1.drew) := HP1.out.below (Below.refl _ _).drew
                      clear m1 hf hd HSO1 HIX HRS HS2
                      go_wp2_with (go_at_call 38; refine HHS.out.mono ?_; rintro e w8 ⟨rfl, hw8⟩; obtain rfl := hw8.symm; clear hw8; refine Hid.out ?_)
                      refine Lib.hid ?_
                      go_upto_region 28 with fail
                      refine wp_region_held_drew (S := fun _ => True) (by kernel_rfl) trivial (fun hHeld => ?_)
                      iterate 3 (refine un 17 rfl ?_; try simp only [aP])
                      iterate 8 (refine sn 17 rfl ?_; try simp only [aP])
                      iterate 2 (refine un 17 rfl ?_; try simp only [aP])
                      iterate 3 (refine sn 17 rfl ?_; try simp only [aP])
                      iterate 1 (refine un 17 rfl ?_; try simp only [aP])
                      refine dq ?_
                      go_wp2
                      go_roundw
                      case rel => exact ⟨k + 1, by omega, by go_num, HPd.out⟩
                      case measure => (simp [intOf] <;> omega)
                    · rw [hf]
                      obtain ⟨b0, o0, rfl, hc0⟩ := HIX.out y v hvy
                      have hy0 : (0 : Int) ≤ (y : Int) := by omega
                      have hyn' : (y : Int) < (n0 : Int) := by omega
                      have co3 := (hc0 W1 HP1.out.bel).2
                      rw [hd, hev] at HRS
                      obtain ⟨xo, hxo⟩ : ∃ q, v.fExec = q := ⟨_, rfl⟩
                      rw [hxo] at co3 HRS
                      have HPd : Hid (Pk gy w7 u7 (SP.flatMap (sa1 new RN) ++ (NL.take k).flatMap (sa2 old new RN)) w W1.drew) := HP1.out.below (Below.refl _ _).drew
                      have cm2 : W1.drew.cell? ⟨gy, k, none⟩ = some (.string (bA m)) := cm1
                      have HPI3 := Lib.hid (HPd.out.below ((Below.refl _ _).alloc (Nat.le_refl _) (.cells #[.int .i64 3, .string (bA m)] 38)))
                      have HNO : Hid (rst old new m = false → SP.flatMap (sa1 new RN) ++ (NL.take k).flatMap (sa2 old new RN) = SP.flatMap (sa1 new RN) ++ (NL.take (k + 1)).flatMap (sa2 old new RN)) := fun h => by rw [HFS.out, HS2.out, h]; simp
                      have HYE : Hid (rst old new m = true → SP.flatMap (sa1 new RN) ++ (NL.take k).flatMap (sa2 old new RN) ++ [act 3 m] = SP.flatMap (sa1 new RN) ++ (NL.take (k + 1)).flatMap (sa2 old new RN)) := fun h => by rw [HFS.out, HS2.out, h, List.append_assoc]; rfl
                      clear m1 hf hd hev hvy hxo hc0 HSO1 HIX HS2
                      go_wp2_with (go_at_call 38; refine HHS.out.mono ?_; rintro e w8 ⟨rfl, hw8⟩; obtain rfl := hw8.symm; clear hw8; refine Hid.out ?_)
                      refine Lib.hid ?_
                      go_upto_region 28 with fail
                      refine wp_region_held_drew (S := fun W => W.cell? ⟨b0, o0 + y * 5 + 3, none⟩ = some (.string xo) ∧ W.cell? ⟨wr.heap.size, 3, none⟩ = some (.string xe) ∧ W.cell? ⟨wr.heap.size, 4, none⟩ = some (.bool kp)) (by kernel_rfl) ⟨co3, cb3, cb4⟩ (fun hHeld => ?_)
                      cases he : (xo.toList == xe.toList) with
                      | true =>
                        have HE := Lib.hid (HNO.out (by rw [HRS.out, ← ba_ne, he]; simp))
                        iterate 13 (refine un 17 rfl ?_; try simp only [aP, he])
                        iterate 3 (refine sn 17 rfl ?_; try simp only [aP])
                        iterate 1 (refine un 17 rfl ?_; try simp only [aP])
                        refine dq ?_
                        rw [HE.out] at HPd
                        clear hHeld
                        go_wp2
                        go_roundw
                        case rel => exact ⟨k + 1, by omega, by go_num, HPd.out⟩
                        case measure => (simp [intOf] <;> omega)
                      | false =>
                        iterate 13 (refine un 17 rfl ?_; try simp only [aP, he])
                        iterate 4 (refine un 17 rfl ?_; try simp only [aP])
                        refine dq ?_
                        clear hHeld
                        cases kp with
                        | true =>
                          have HE := Lib.hid (HNO.out (by rw [HRS.out]; rfl))
                          rw [HE.out] at HPd
                          go_wp2
                          go_roundw
                          case rel => exact ⟨k + 1, by omega, by go_num, HPd.out⟩
                          case measure => (simp [intOf] <;> omega)
                        | false =>
                          have HE := Lib.hid (HYE.out (by rw [HRS.out, ← ba_ne, he]; simp))
                          clear he
                          go_wp2_with (at_builtin; refine app_ac _ rfl _ _ rfl w.heap.size _ _ rfl HPI3.out.ow ⟨W1.drew.heap.size, 0, none⟩ 1 (act 3 m) rfl (two_news W1.drew _ _ _) (by have := HKL.out; omega) HPI3.out.bel.size ?_; intro v9 w9 ho9 hg9 hv9; refine Hid.out ?_)
                          refine Lib.hid ?_
                          have HP9 := Lib.hid (HPI3.out.app ho9 hg9 hv9)
                          rw [HE.out] at HP9
                          clear ho9 hg9 hv9 cm1 cm2
                          go_wp2
                          go_roundw
                          case rel => exact ⟨k + 1, by omega, by go_num, HP9.out⟩
                          case measure => (simp [intOf] <;> omega)
                · have hkl' : ¬ (k : Int) < (nl : Int) := by omega
                  obtain rfl : nl = k := by omega
                  have HTK2 : Hid (NL.take nl = NL) := List.take_of_length_le (by rw [HNE.out]; exact Nat.le_refl _)
                  rw [HTK2.out] at HPI
                  go_wp2
                  go_ret
                  exact ⟨⟨_, rfl, HPI.out.ow⟩, HPI.out.bel⟩

end Go.Proofs.YtccnepenfglfoaaGreat.hp
