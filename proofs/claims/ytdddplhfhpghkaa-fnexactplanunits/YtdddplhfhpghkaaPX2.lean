import Derived.Test.YtdddplhfhpghkaaPLE
import Derived.BigQuiet
import Derived.Test.YtdddplhfhpghkaaYB
import Derived.Test.YtdddplhfhpghkaaYC
import Derived.Test.YtdddplhfhpghkaaYD
import Derived.Test.YtdddplhfhpghkaaYH
import Derived.Test.YtdddplhfhpghkaaLA
import Derived.Test.YtdddplhfhpghkaaST
namespace Go.Proofs.Ytdddplhfhpghkaa.hp
open Go.ChangeShapes Go.WideShapes Go.ChangeAt Go.RowKit Go.Deep Go.Maps
open fa (Us uNo nmL nds aw aws nAt nAt_some uNo_yes uNo_get uNo_no uNo_no' uNo_le)
open fw (Ua ua_of soA)
set_option linter.unusedVariables false
set_option linter.unusedSimpArgs false

/-! ### spec.PlanUnits, where all is as it should be -/

set_option maxRecDepth 100000 in
set_option maxHeartbeats 16000000 in
theorem spl_yes (md0 md1 : Option Nat) (a0 a1 a2 : Option Addr) (c0 c1 c2 : Nat) (old new : List ty.Un) (rn : List ByteArray) (w : World) (h0 : ty.SrcUn md0 w a0 old) (hw0 : ty.wtUn old ≤ 1048576) (h1 : ty.SrcUn md1 w a1 new) (hw1 : ty.wtUn new ≤ 1048576) (h2 : sr.StrR w (.slice a2 rn.length c2) (rn.map fun b => b.data.toList)) (hok : plP old new rn) :
    Calls Try.prog 18 #[.slice a0 old.length c0, .slice a1 new.length c1, .slice a2 rn.length c2] w fun e w' => (∃ v, e = .returned v ∧ OwA w.heap.size w' v (plL old new (rn.map fun b => b.data.toList))) ∧ Below w.heap.size w w' := by
  obtain ⟨⟨hu0, hu1⟩, hr⟩ := hok
  have hU0 := ua_of hu0
  have hU1 := ua_of hu1
  have hf0 := hU0.few
  have hf1 := hU1.few
  obtain ⟨RN, hRN⟩ : ∃ R, (rn.map fun b => b.data.toList) = R := ⟨_, rfl⟩
  rw [hRN] at h2 ⊢
  obtain ⟨W0, hW0⟩ : ∃ W0, W0 = w.alloc (.cells #[] 64) := ⟨_, rfl⟩
  have HW0 := Lib.hid hW0
  have HB0 : Hid (Below w.heap.size w W0) := by show Below _ _ _; rw [hW0]; exact (Below.refl _ _).alloc (Nat.le_refl _) _
  have HO0 : Hid (OwA w.heap.size W0 (.slice (some ⟨w.heap.size, 0, none⟩) 0 0) []) := by show OwA _ _ _ _; rw [hW0]; exact OwA.zero w
  have HU0 := Lib.hid (un.sunits_any a0 c0 old W0 (h0.any.below HB0.out) hw0)
  have HU1 : Hid (∀ W, Below w.heap.size w W → Calls Try.prog 25 #[.slice a1 new.length c1] W fun e w' => e = .returned (.bool (un.usB new)) ∧ Below W.heap.size W w') := fun W h => un.sunits_any a1 c1 new W (h1.any.below h) hw1
  rw [hu0, hW0] at HU0
  rw [hu1] at HU1
  have HS0 : Hid (∀ W, Below w.heap.size w W → Calls Try.prog 15 #[.slice a0 old.length c0] W fun e w' => (∃ v, e = .returned (.tuple #[v, .bool (fw.soB old)]) ∧ sr.OwnS W.heap.size w' v (soA old)) ∧ Below W.heap.size W w') := fun W h => fw.sso_any md0 a0 c0 old W (h0.below h) hw0
  have HS1 : Hid (∀ W, Below w.heap.size w W → Calls Try.prog 15 #[.slice a1 new.length c1] W fun e w' => (∃ v, e = .returned (.tuple #[v, .bool (fw.soB new)]) ∧ sr.OwnS W.heap.size w' v (soA new)) ∧ Below W.heap.size W w') := fun W h => fw.sso_any md1 a1 c1 new W (h1.below h) hw1
  have HF0 : Hid (∀ (q : ByteArray) W, Below w.heap.size w W → Calls Try.prog 40 #[.slice a0 old.length c0, .string q] W fun e w' => e = .returned (.int .i64 (fno old q.data.toList)) ∧ w' = W) := fun q W h => sfindN_any a0 c0 old q W (h0.any.below h) (by omega) hU0.toUs
  have HF1 : Hid (∀ (q : ByteArray) W, Below w.heap.size w W → Calls Try.prog 40 #[.slice a1 new.length c1, .string q] W fun e w' => e = .returned (.int .i64 (fno new q.data.toList)) ∧ w' = W) := fun q W h => sfindN_any a1 c1 new q W (h1.any.below h) (by omega) hU1.toUs
  have HHR : Hid (∀ (q : ByteArray) W, Below w.heap.size w W → Calls Try.prog 37 #[.slice a2 rn.length c2, .string q] W fun e w' => e = .returned (.bool (decide (q.data.toList ∈ RN))) ∧ w' = W) := fun q W h => sr.l3has_any RN _ q W (h2.below h)
  have HI0 : Hid (∀ (x : Nat) (u : ty.Un), old[x]? = some u → ∃ b o, a0 = some ⟨b, o, none⟩ ∧ ∀ W, Below w.heap.size w W → (W.cell? ⟨b, o + x * 5, none⟩ = some (.string u.fName) ∧ W.cell? ⟨b, o + x * 5 + 3, none⟩ = some (.string u.fExec))) := fun x u hu => by
    rcases h0 with h | ⟨b, o, e, _, hc⟩
    · rw [h.2] at hu; simp at hu
    obtain ⟨d1, e1, d2, e2, q0, q1, q2, q3, q4, _⟩ := hc x u hu
    refine ⟨b, o, e, fun W h => ?_⟩
    have k : ∀ {q r v}, w.cell? ⟨q, r, none⟩ = some v → W.cell? ⟨q, r, none⟩ = some v := fun {q r v} h' => (h.cell (p := ⟨q, r, none⟩) (World.block_lt_of_cell? _ _ h')).trans h'
    exact ⟨k q0, k q3⟩
  have HI1 : Hid (∀ (x : Nat) (u : ty.Un), new[x]? = some u → ∃ b o d1 e1 d2 e2, a1 = some ⟨b, o, none⟩ ∧ ∀ W, Below w.heap.size w W → (W.cell? ⟨b, o + x * 5, none⟩ = some (.string u.fName) ∧ W.cell? ⟨b, o + x * 5 + 1, none⟩ = some (.slice d1 u.fAfter.length e1) ∧ W.cell? ⟨b, o + x * 5 + 2, none⟩ = some (.slice d2 u.fNeeds.length e2) ∧ W.cell? ⟨b, o + x * 5 + 3, none⟩ = some (.string u.fExec) ∧ W.cell? ⟨b, o + x * 5 + 4, none⟩ = some (.bool u.fKeep))) := fun x u hu => by
    rcases h1 with h | ⟨b, o, e, _, hc⟩
    · rw [h.2] at hu; simp at hu
    obtain ⟨d1, e1, d2, e2, q0, q1, q2, q3, q4, _⟩ := hc x u hu
    refine ⟨b, o, d1, e1, d2, e2, e, fun W h => ?_⟩
    have k : ∀ {q r v}, w.cell? ⟨q, r, none⟩ = some v → W.cell? ⟨q, r, none⟩ = some v := fun {q r v} h' => (h.cell (p := ⟨q, r, none⟩) (World.block_lt_of_cell? _ _ h')).trans h'
    exact ⟨k q0, k q1, k q2, k q3, k q4⟩
  have HS1L : Hid (∀ k, (sw1 old k).length ≤ 1000) := fun k => by have := sw1_len old k; omega
  have HS2L : Hid (∀ k, (sw2 old k).length ≤ 1000) := fun k => by have := sw2_len old k; have := soA_len old; omega
  have hol : (soA old).length ≤ 1000 := by have := soA_len old; omega
  have hml : (soA new).length ≤ 1000 := by have := soA_len new; omega
  have HX1 : Hid (∀ k, k < old.length → decide (nAt old (old.length - 1 - k) ∈ soA old) = true → sw1 old k = sw1 old (k + 1)) := fun k h hm => (sw1_yes h hm).symm
  have HX0 : Hid (∀ k, k < old.length → decide (nAt old (old.length - 1 - k) ∈ soA old) = false → sw1 old k ++ [nAt old (old.length - 1 - k)] = sw1 old (k + 1)) := fun k h hm => (sw1_no h hm).symm
  have HX2 : Hid (sw1 old old.length = sw2 old 0) := (sw2_zero old).symm
  have HX3 : Hid (∀ k m, k < (soA old).length → (soA old)[(soA old).length - 1 - k]? = some m → sw2 old k ++ [m] = sw2 old (k + 1)) := fun k m h hm => (sw2_step h hm).symm
  have HX4 : Hid (sw2 old (soA old).length = stp old) := sw2_all old
  have HSL : Hid ((stp old).length ≤ 1000) := by show _ ≤ _; have := stp_len old; have := soA_len old; omega
  have HML : Hid (∀ k, (((stp old).take k).flatMap (sa1 new RN)).length ≤ 1000) := fun k => by
    have e1 := fm_len (f := sa1 new RN) sa1_len ((stp old).take k)
    have e2 := HSL.out
    rw [List.length_take] at e1
    omega
  have HML2 : Hid (∀ k, ((stp old).flatMap (sa1 new RN) ++ ((soA new).take k).flatMap (sa2 old new RN)).length ≤ 10000) := fun k => by
    have e1 := fm_len (f := sa1 new RN) sa1_len (stp old)
    have e2 := HSL.out
    have e3 := fm_len (f := sa2 old new RN) sa2_len ((soA new).take k)
    have e4 := soA_len new
    rw [List.length_take] at e3
    rw [List.length_append]
    omega
  have HSA : Hid (∀ m ∈ soA new, ∃ x u, x < new.length ∧ fno new m = (x : Int) ∧ new[x]? = some u ∧ nmL u = m ∧ kpAt new m = u.fKeep ∧ exAt new m = u.fExec) := fun m hm => by
    obtain ⟨hl, u, hu, e⟩ := soA_no hu1 hm
    exact ⟨uNo new m, u, hl, fno_yes hl, hu, e, by unfold kpAt; rw [hu]; rfl, by unfold exAt; rw [hu]; rfl⟩
  have HSF : Hid (∀ m, decide (fno new m < 0) = !decide (uNo new m < new.length)) := fun m => by
    unfold fno
    split
    · rename_i h; rw [decide_eq_true h, decide_eq_false (by omega)]; rfl
    · rename_i h; rw [decide_eq_false h]; rfl
  have HSO : Hid (∀ m, (fno old m = -1 ∧ decide (uNo old m < old.length) = false) ∨ ∃ (x : Nat) (u : ty.Un), x < old.length ∧ fno old m = (x : Int) ∧ old[x]? = some u ∧ decide (uNo old m < old.length) = true ∧ exAt old m = u.fExec) := fun m => by
    by_cases h : uNo old m < old.length
    · obtain ⟨u, hu, _⟩ := uNo_get h
      exact .inr ⟨_, u, h, fno_yes h, hu, decide_eq_true h, by unfold exAt; rw [hu]; rfl⟩
    · exact .inl ⟨fno_no (by have := uNo_le old m; omega), decide_eq_false h⟩
  unfold plL
  obtain ⟨SP, hSP⟩ : ∃ S, stp old = S := ⟨_, rfl⟩
  rw [hSP] at HSL HML HML2 HX4 ⊢
  obtain ⟨n0, hn0⟩ : ∃ n, old.length = n := ⟨_, rfl⟩
  obtain ⟨n1, hn1⟩ : ∃ n, new.length = n := ⟨_, rfl⟩
  obtain ⟨rl, hrl⟩ : ∃ n, rn.length = n := ⟨_, rfl⟩
  obtain ⟨OL, hOL⟩ : ∃ q, soA old = q := ⟨_, rfl⟩
  obtain ⟨NL, hNL⟩ : ∃ q, soA new = q := ⟨_, rfl⟩
  rw [hOL] at HS0 hol HX0 HX1 HX3 HX4
  rw [hNL] at HS1 hml HSA HML2 ⊢
  have HN0 : Hid (old.length = n0) := hn0
  have HN1 : Hid (new.length = n1) := hn1
  rw [hn0] at HU0 HS0 HF0 HX0 HX1 HX2 HSO hf0
  rw [hn1] at HU1 HS1 HF1 HSA HSF hf1
  rw [hrl] at HHR hr
  rw [hn0, hn1, hrl]
  obtain ⟨ol, hoe⟩ : ∃ q, OL.length = q := ⟨_, rfl⟩
  have HOE : Hid (OL.length = ol) := hoe
  rw [hoe] at hol HX3 HX4
  clear h0 hw0 h1 hw1 h2 hu0 hu1 hU0 hU1 hRN hSP hn0 hn1 hrl hOL hNL hoe hW0
  have hr' : ¬ (2000 : Int) < (rl : Int) := by omega
  have hw01 : IntKind.i64.wrap ((n0 : Int) - 1) = (n0 : Int) - 1 := by rw [IntKind.wrap_i64]; omega
  have hw02 : IntKind.i64.wrap ((ol : Int) - 1) = (ol : Int) - 1 := by rw [IntKind.wrap_i64]; omega
  go_enter Try.func18, Try.ntmps18
  go_wp2_with (go_at_call 25; refine HU0.out.mono ?_; rintro e w1 ⟨rfl, hl1⟩; rw [← HW0.out] at hl1; refine Hid.out ?_)
  refine Lib.hid ?_
  have HB1 := Lib.hid (HB0.out.trans (hl1.mono HB0.out.size))
  have HO1 := Lib.hid (HO0.out.below hl1)
  have HC1 := Lib.hid (HU1.out w1 HB1.out)
  clear hl1 HU0 HO0 HB0 HW0 HU1
  go_wp2_with (go_at_call 25; refine HC1.out.mono ?_; rintro e w2 ⟨rfl, hl2⟩; refine Hid.out ?_)
  refine Lib.hid ?_
  have HB2 := Lib.hid (HB1.out.trans (hl2.mono HB1.out.size))
  have HO2 := Lib.hid (HO1.out.below hl2)
  have HC2 := Lib.hid (HS0.out w2 HB2.out)
  clear hl2 HO1 HC1
  go_wp2_with (go_at_call 15; refine HC2.out.mono ?_; rintro e w3 ⟨⟨v3, rfl, hown⟩, hl3⟩; obtain ⟨go, co, rfl, hgo, hgl, hrd⟩ := own_str hown; refine Hid.out ?_)
  refine Lib.hid ?_
  have HB3 := Lib.hid (HB2.out.trans (hl3.mono HB2.out.size))
  have HO3 := Lib.hid (HO2.out.below hl3)
  have HHO : Hid (∀ (q : ByteArray) W, Below w3.heap.size w3 W → Calls Try.prog 37 #[.slice (some ⟨go, 0, none⟩) OL.length co, .string q] W fun e w' => e = .returned (.bool (decide (q.data.toList ∈ OL))) ∧ w' = W) := fun q W h => sr.l3has_any OL _ q W (hown.row.below h)
  rw [HOE.out] at HHO ⊢
  have HRD := Lib.hid hrd
  clear hown hrd hl3 HO2 HC2 HS0
  obtain ⟨W4, hW4⟩ : ∃ W, W = w3.alloc (.cells #[] 9) := ⟨_, rfl⟩
  have HW4 := Lib.hid hW4
  have HA4 : Hid (Below w3.heap.size w3 W4) := by show Below _ _ _; rw [hW4]; exact (Below.refl _ _).alloc (Nat.le_refl _) _
  have HZ4 : Hid (sr.OwnS w3.heap.size W4 (.slice (some ⟨w3.heap.size, 0, none⟩) 0 0) (sw1 old 0)) := by show sr.OwnS _ _ _ _; rw [hW4]; exact ⟨sr.own_zero w3, sr.not_nil _ _ _⟩
  clear hW4
  go_wp2
  go_loopw [10, 11] (fun v y wr => ∃ k : Nat, k ≤ n0 ∧ y = .int .i64 ((n0 : Int) - 1 - (k : Int)) ∧ sr.OwnS w3.heap.size wr v (sw1 old k) ∧ Below w3.heap.size w3 wr) (fun _ y _ => (intOf y + 1).toNat)
  case atStart => exact ⟨0, Nat.zero_le _, by go_num, by rw [← HW4.out]; exact HZ4.out, by rw [← HW4.out]; exact HA4.out⟩
  case round =>
    obtain ⟨k, hk, rfl, hown, hbel⟩ := hrel
    have HOW := Lib.hid hown
    have HBE := Lib.hid hbel
    clear hown hbel HZ4 HA4
    by_cases hkl : k < n0
    · obtain ⟨i, hi⟩ : ∃ i, n0 - 1 - k = i := ⟨_, rfl⟩
      have hin : i < n0 := by omega
      have hie : (n0 : Int) - 1 - (k : Int) = (i : Int) := by omega
      have hwi : IntKind.i64.wrap ((i : Int) - 1) = (i : Int) - 1 := by rw [IntKind.wrap_i64]; omega
      have hi0 : (0 : Int) ≤ (i : Int) := by omega
      have hin' : (i : Int) < (n0 : Int) := by omega
      have hnx : (n0 : Int) - 1 - ((k : Int) + 1) = (i : Int) - 1 := by omega
      obtain ⟨u, hu⟩ : ∃ u, old[i]? = some u := ⟨_, List.getElem?_eq_getElem (by rw [HN0.out]; exact hin)⟩
      obtain ⟨b, o, rfl, hcu⟩ := HI0.out i u hu
      have HBW := Lib.hid (HB3.out.trans (HBE.out.mono HB3.out.size))
      have c0 := (hcu wr HBW.out).1
      have hna : nAt old i = u.fName.data.toList := nAt_some hu
      have HH := Lib.hid (HHO.out u.fName wr HBE.out)
      have H1 := Lib.hid (HX1.out k hkl)
      have H0 := Lib.hid (HX0.out k hkl)
      rw [hi, hna] at H1 H0
      obtain ⟨P, hP⟩ : ∃ P, u.fName = P := ⟨_, rfl⟩
      rw [hP] at c0 HH H1 H0
      rw [hie]
      clear hu hcu hna hP hi hie
      cases m1 : decide (P.data.toList ∈ OL) with
      | true =>
        rw [m1] at HH
        have HE := Lib.hid (H1.out m1)
        clear m1 H1 H0
        go_wp2_with (go_at_call 37; refine HH.out.mono ?_; rintro e w5 ⟨rfl, rfl⟩)
        go_roundw
        case rel => exact ⟨k + 1, by omega, by go_num, by rw [← HE.out]; exact HOW.out, HBE.out⟩
        case measure => (simp [intOf] <;> omega)
      | false =>
        rw [m1] at HH
        have HE := Lib.hid (H0.out m1)
        clear m1 H1 H0
        have HOA : Hid ((wr.alloc (.cells #[.string P] 9)).ownsRow w3.heap.size 9 1 u10 (sw1 old k).length ((sw1 old k).map sr.strL)) := HOW.out.1.alloc _
        have HNW : Hid (∀ j z, ([P.data.toList].map sr.strL)[j]? = some z → (wr.alloc (.cells #[.string P] 9)).cell? ((⟨wr.heap.size, 0, none⟩ : Addr).add j) = some z) := by
          show ∀ j z, _ → _
          rw [List.map_singleton, sr.strL_of]
          exact one_new wr _ 9
        have hbs : w3.heap.size ≤ (wr.alloc (.cells #[.string P] 9)).heap.size := by have := HBE.out.size; simp; omega
        have hlk : (sw1 old k).length + 1 ≤ 1000000 := by have := HS1L.out k; omega
        go_wp2_with (first
          | (go_at_call 37; refine HH.out.mono ?_; rintro e w5 ⟨rfl, hw5⟩; obtain rfl := hw5.symm; clear hw5)
          | (at_builtin; refine sr.app_str _ rfl _ _ rfl w3.heap.size _ (sw1 old k) rfl HOA.out HOW.out.2 ⟨wr.heap.size, 0, none⟩ 1 1 [P.data.toList] rfl rfl HNW.out hlk hbs ?_; intro v6 w6 hown6 hv6 hg6; refine Hid.out ?_))
        refine Lib.hid ?_
        have HO6 : Hid (sr.OwnS w3.heap.size w6 v6 (sw1 old (k + 1))) := by show sr.OwnS _ _ _ _; rw [← HE.out]; exact ⟨hown6, hv6⟩
        have HB6 : Hid (Below w3.heap.size w3 w6) := (HBE.out.alloc HBE.out.size _).grown hg6 hbs (fun q hq => (HOA.out.lt q hq).1)
        clear hown6 hv6 hg6 hbs HOA HNW
        go_wp2
        go_roundw
        case rel => exact ⟨k + 1, by omega, by go_num, HO6.out, HB6.out⟩
        case measure => (simp [intOf] <;> omega)
    · obtain rfl : n0 = k := by omega
      have hke : (n0 : Int) - 1 - (n0 : Int) = -1 := by omega
      rw [HX2.out] at HOW
      rw [hke]
      go_wp2
      go_loopw [10, 12] (fun v y wr => ∃ j : Nat, j ≤ ol ∧ y = .int .i64 ((ol : Int) - 1 - (j : Int)) ∧ sr.OwnS w3.heap.size wr v (sw2 old j) ∧ Below w3.heap.size w3 wr) (fun _ y _ => (intOf y + 1).toNat)
      case atStart => exact ⟨0, Nat.zero_le _, by go_num, HOW.out, HBE.out⟩
      case round =>
        obtain ⟨j, hj, rfl, hown, hbel⟩ := hrel
        have HO5 := Lib.hid hown
        have HB5 := Lib.hid hbel
        clear hown hbel HOW HBE hke
        by_cases hjl : j < ol
        · obtain ⟨i, hi⟩ : ∃ i, ol - 1 - j = i := ⟨_, rfl⟩
          have hin : i < ol := by omega
          have hie : (ol : Int) - 1 - (j : Int) = (i : Int) := by omega
          have hwi : IntKind.i64.wrap ((i : Int) - 1) = (i : Int) - 1 := by rw [IntKind.wrap_i64]; omega
          have hi0 : (0 : Int) ≤ (i : Int) := by omega
          have hin' : (i : Int) < (ol : Int) := by omega
          have hnx : (ol : Int) - 1 - ((j : Int) + 1) = (i : Int) - 1 := by omega
          obtain ⟨m, hm⟩ : ∃ m, OL[i]? = some m := ⟨_, List.getElem?_eq_getElem (by rw [HOE.out]; exact hin)⟩
          have cm := HRD.out wr (HB5.out.block go hgl) i m hm
          have HE := Lib.hid (HX3.out j m hjl (by rw [hi]; exact hm))
          rw [hie]
          clear hm hi hie
          have HOA : Hid ((wr.alloc (.cells #[.string (bA m)] 9)).ownsRow w3.heap.size 9 1 u10 (sw2 old j).length ((sw2 old j).map sr.strL)) := HO5.out.1.alloc _
          have HNW : Hid (∀ q z, ([m].map sr.strL)[q]? = some z → (wr.alloc (.cells #[.string (bA m)] 9)).cell? ((⟨wr.heap.size, 0, none⟩ : Addr).add q) = some z) := by
            show ∀ q z, _ → _
            rw [List.map_singleton]
            exact one_new wr _ 9
          have hbs : w3.heap.size ≤ (wr.alloc (.cells #[.string (bA m)] 9)).heap.size := by have := HB5.out.size; simp; omega
          have hlk : (sw2 old j).length + 1 ≤ 1000000 := by have := HS2L.out j; omega
          go_wp2_with (at_builtin; refine sr.app_str _ rfl _ _ rfl w3.heap.size _ (sw2 old j) rfl HOA.out HO5.out.2 ⟨wr.heap.size, 0, none⟩ 1 1 [m] rfl rfl HNW.out hlk hbs ?_; intro v6 w6 hown6 hv6 hg6; refine Hid.out ?_)
          refine Lib.hid ?_
          have HO6 : Hid (sr.OwnS w3.heap.size w6 v6 (sw2 old (j + 1))) := by show sr.OwnS _ _ _ _; rw [← HE.out]; exact ⟨hown6, hv6⟩
          have HB6 : Hid (Below w3.heap.size w3 w6) := (HB5.out.alloc HB5.out.size _).grown hg6 hbs (fun q hq => (HOA.out.lt q hq).1)
          clear hown6 hv6 hg6 hbs HOA HNW cm
          go_wp2
          go_roundw
          case rel => exact ⟨j + 1, by omega, by go_num, HO6.out, HB6.out⟩
          case measure => (simp [intOf] <;> omega)
        · obtain rfl : ol = j := by omega
          have hje : (ol : Int) - 1 - (ol : Int) = -1 := by omega
          rw [HX4.out] at HO5
          rw [hje]
          obtain ⟨gx, cx, hvx, hgx, hgxl, hrx⟩ := own_str HO5.out
          subst hvx
          have HRX := Lib.hid hrx
          have HP5 : Hid (Pk gx wr (.slice (some ⟨w.heap.size, 0, none⟩) 0 0) ((SP.take 0).flatMap (sa1 new RN)) w wr) := ⟨HO3.out.below HB5.out, rfl, hgxl, fun e => by have h : w.heap.size = gx := Option.some.inj e; have := HO3.out.1.lt _ rfl; omega, HB3.out.trans (HB5.out.mono HB3.out.size)⟩
          clear hrx hgx hgxl HO5 HB5 HO3 hje
          obtain ⟨sl, hsl⟩ : ∃ n, SP.length = n := ⟨_, rfl⟩
          have HSLE : Hid (SP.length = sl) := hsl
          rw [hsl] at HSL ⊢
          have hsl9 := HSL.out
          obtain ⟨wx, hwx⟩ : ∃ q, wr = q := ⟨_, rfl⟩
          rw [hwx] at HP5 HRX ⊢
          clear hsl hwx
          go_wp2
          go_loopw [7, 13] (fun v y wr => ∃ k : Nat, k ≤ sl ∧ y = .int .i64 (k : Int) ∧ Pk gx wx v ((SP.take k).flatMap (sa1 new RN)) w wr) (fun _ y _ => sl - (intOf y).toNat)
          case atStart => exact ⟨0, Nat.zero_le _, rfl, HP5.out⟩
          case round =>
            obtain ⟨q, hq, rfl, hpi⟩ := hrel
            have HPI := Lib.hid hpi
            clear hpi HP5
            by_cases hql : q < sl
            · have hql' : (q : Int) < (sl : Int) := by omega
              have hq0 : (0 : Int) ≤ (q : Int) := by omega
              have hwq : IntKind.i64.wrap ((q : Int) + 1) = (q : Int) + 1 := by rw [IntKind.wrap_i64]; omega
              obtain ⟨m, hm⟩ : ∃ m, SP[q]? = some m := ⟨_, List.getElem?_eq_getElem (by rw [HSLE.out]; exact hql)⟩
              have cm := HRX.out _ HPI.out.keep q m hm
              have HFS := Lib.hid (fm_step (sa1 new RN) hm)
              have HHS := Lib.hid (HHR.out (bA m) _ HPI.out.bel)
              have HHF := Lib.hid (HF1.out (bA m) _ HPI.out.bel)
              rw [bA_list] at HHS HHF
              have HN2 : Hid (decide (fno new m < 0) = !decide (uNo new m < new.length)) := by show _ = _; rw [HSF.out, HN1.out]
              have HKL := Lib.hid (HML.out q)
              obtain ⟨F, hF⟩ : ∃ F, fno new m = F := ⟨_, rfl⟩
              rw [hF] at HHF HN2
              clear hm hF
              cases e1 : decide (m ∈ RN) with
              | false =>
                rw [e1] at HHS
                have HE : Hid ((SP.take q).flatMap (sa1 new RN) = (SP.take (q + 1)).flatMap (sa1 new RN)) := by show _ = _; rw [HFS.out, sa1_no1 e1, List.append_nil]
                rw [HE.out] at HPI
                clear e1
                go_wp2_with (go_at_call 37; refine HHS.out.mono ?_; rintro e w7 ⟨rfl, hw7⟩; obtain rfl := hw7.symm; clear hw7)
                go_roundw
                case rel => exact ⟨q + 1, by omega, by go_num, HPI.out⟩
                case measure => (simp [intOf] <;> omega)
              | true =>
                rw [e1] at HHS
                by_cases e2 : F < 0
                · have e3 : decide (F < 0) = true := decide_eq_true e2
                  have HE : Hid ((SP.take q).flatMap (sa1 new RN) ++ [act 1 m] = (SP.take (q + 1)).flatMap (sa1 new RN)) := by
                    show _ = _
                    have h := HN2.out
                    rw [e3] at h
                    rw [HFS.out, sa1_yes e1 (by cases hx : decide (uNo new m < new.length) with | false => rfl | true => rw [hx] at h; cases h)]
                  clear e1 e3
                  have HP8 := Lib.hid (HPI.out.below ((Below.refl _ _).alloc (Nat.le_refl _) (.cells #[.int .i64 1, .string (bA m)] 64)))
                  go_wp2_with (first
                    | (go_at_call 37; refine HHS.out.mono ?_; rintro e w7 ⟨rfl, hw7⟩; obtain rfl := hw7.symm; clear hw7)
                    | (go_at_call 40; refine HHF.out.mono ?_; rintro e w8 ⟨rfl, hw8⟩; obtain rfl := hw8.symm; clear hw8)
                    | (at_builtin; refine app_ac _ rfl _ _ rfl w.heap.size _ _ rfl HP8.out.ow ⟨wr.heap.size, 0, none⟩ 1 (act 1 m) rfl (two_news wr _ _ _) (by have := HKL.out; omega) HP8.out.bel.size ?_; intro v9 w9 ho9 hg9 hv9; refine Hid.out ?_))
                  refine Lib.hid ?_
                  have HP9 := Lib.hid (HP8.out.app ho9 hg9 hv9)
                  rw [HE.out] at HP9
                  clear ho9 hg9 hv9 cm
                  go_wp2
                  go_roundw
                  case rel => exact ⟨q + 1, by omega, by go_num, HP9.out⟩
                  case measure => (simp [intOf] <;> omega)
                · have e3 : decide (F < 0) = false := decide_eq_false e2
                  have HE : Hid ((SP.take q).flatMap (sa1 new RN) = (SP.take (q + 1)).flatMap (sa1 new RN)) := by
                    show _ = _
                    have h := HN2.out
                    rw [e3] at h
                    rw [HFS.out, sa1_no2 (by cases hx : decide (uNo new m < new.length) with | true => rfl | false => rw [hx] at h; cases h), List.append_nil]
                  rw [HE.out] at HPI
                  clear e1 e3
                  go_wp2_with (first
                    | (go_at_call 37; refine HHS.out.mono ?_; rintro e w7 ⟨rfl, hw7⟩; obtain rfl := hw7.symm; clear hw7)
                    | (go_at_call 40; refine HHF.out.mono ?_; rintro e w8 ⟨rfl, hw8⟩; obtain rfl := hw8.symm; clear hw8))
                  go_roundw
                  case rel => exact ⟨q + 1, by omega, by go_num, HPI.out⟩
                  case measure => (simp [intOf] <;> omega)
            · have hql' : ¬ (q : Int) < (sl : Int) := by omega
              obtain rfl : sl = q := by omega
              have HTK : Hid (SP.take sl = SP) := List.take_of_length_le (by rw [HSLE.out]; exact Nat.le_refl _)
              rw [HTK.out] at HPI
              have HC7 := Lib.hid (HS1.out _ HPI.out.bel)
              go_wp2_with (go_at_call 15; refine HC7.out.mono ?_; rintro e w7 ⟨⟨v7, rfl, hown⟩, hl7⟩; obtain ⟨gy, cy, rfl, hgy, hgyl, hry⟩ := own_str hown; clear hown; refine Hid.out ?_)
              refine Lib.hid ?_
              have HRY := Lib.hid hry
              have HP7 : Hid (Pk gy w7 u7 (SP.flatMap (sa1 new RN) ++ (NL.take 0).flatMap (sa2 old new RN)) w w7) := by
                have h := (HPI.out.below hl7).other (gY := gy) (wY := w7) rfl hgyl (fun e => by have := (HPI.out.ow.1.lt gy e).2; omega)
                show Pk _ _ _ _ _ _
                simpa using h
              obtain ⟨nl, hne⟩ : ∃ n, NL.length = n := ⟨_, rfl⟩
              have HNE : Hid (NL.length = nl) := hne
              rw [hne] at hml ⊢
              clear hry hgy hgyl hl7 hne HPI HC7 HS1 HRX
              go_wp2
              go_loopw [7, 16, 17, 18] (fun v y _ _ wr => ∃ k : Nat, k ≤ nl ∧ y = .int .i64 (k : Int) ∧ Pk gy w7 v (SP.flatMap (sa1 new RN) ++ (NL.take k).flatMap (sa2 old new RN)) w wr) (fun _ y _ _ _ => nl - (intOf y).toNat)
              case atStart => exact ⟨0, Nat.zero_le _, rfl, HP7.out⟩
              case round =>
                obtain ⟨k, hk, rfl, hpi⟩ := hrel
                have HPI := Lib.hid hpi
                clear hpi HP7
                by_cases hkl : k < nl
                · have hkl' : (k : Int) < (nl : Int) := by omega
                  have hk0 : (0 : Int) ≤ (k : Int) := by omega
                  have hwk : IntKind.i64.wrap ((k : Int) + 1) = (k : Int) + 1 := by rw [IntKind.wrap_i64]; omega
                  obtain ⟨m, hm⟩ : ∃ m, NL[k]? = some m := ⟨_, List.getElem?_eq_getElem (by rw [HNE.out]; exact hkl)⟩
                  have cm := HRY.out _ HPI.out.keep k m hm
                  obtain ⟨x, u, hxn, hfx, hux, hum, hkx, hex⟩ := HSA.out m (List.mem_of_getElem? hm)
                  obtain ⟨b, o1, d1, e1, d2, e2, rfl, hcu⟩ := HI1.out x u hux
                  obtain ⟨q0, q1, q2, q3, q4⟩ := hcu _ HPI.out.bel
                  have hx0 : (0 : Int) ≤ (x : Int) := by omega
                  have hxn' : (x : Int) < (n1 : Int) := by omega
                  have HFS := Lib.hid (fm_step (sa2 old new RN) hm)
                  have HKL := Lib.hid (HML2.out k)
                  obtain ⟨P, hP⟩ : ∃ P, u.fName = P := ⟨_, rfl⟩
                  obtain ⟨al, hal⟩ : ∃ q, u.fAfter.length = q := ⟨_, rfl⟩
                  obtain ⟨nn, hnl⟩ : ∃ q, u.fNeeds.length = q := ⟨_, rfl⟩
                  obtain ⟨xe, hxe⟩ : ∃ q, u.fExec = q := ⟨_, rfl⟩
                  obtain ⟨kp, hkp⟩ : ∃ q, u.fKeep = q := ⟨_, rfl⟩
                  rw [hP] at q0
                  rw [hal] at q1
                  rw [hnl] at q2
                  rw [hxe] at q3 hex
                  rw [hkp] at q4 hkx
                  have HHF := Lib.hid (HF1.out (bA m) _ HPI.out.bel)
                  rw [bA_list, hfx] at HHF
                  obtain ⟨W1, hW1⟩ : ∃ W, W = wr.alloc (.cells #[.string P, .slice d1 al e1, .slice d2 nn e2, .string xe, .bool kp] 45) := ⟨_, rfl⟩
                  have HA1 : Hid (Below wr.heap.size wr W1) := by show Below _ _ _; rw [hW1]; exact (Below.refl _ _).alloc (Nat.le_refl _) _
                  have HP1 := Lib.hid (HPI.out.below HA1.out)
                  have cm1 := HRY.out _ HP1.out.keep k m hm
                  have cb3 : W1.cell? ⟨wr.heap.size, 3, none⟩ = some (.string xe) := by rw [hW1]; simp [go_sem]
                  have cb4 : W1.cell? ⟨wr.heap.size, 4, none⟩ = some (.bool kp) := by rw [hW1]; simp [go_sem]
                  have HHO := Lib.hid (HF0.out (bA m) _ HP1.out.bel)
                  have HHS := Lib.hid (HHR.out (bA m) _ HP1.out.bel)
                  rw [bA_list] at HHO HHS
                  have HSO1 := Lib.hid (HSO.out m)
                  have HIX := Lib.hid (fun x u h => HI0.out x u h)
                  have HRS : Hid (rst old new m = (!kp && (decide (uNo old m < n0) && !decide (exAt old m = xe)))) := by show _ = _; unfold rst; rw [hkx, hex, HN0.out]
                  clear hm hux hum hkx hex hfx hP hal hnl hxe hkp hcu
                  have cmx := cm1
                  rw [hW1] at HHO cmx
                  have HW1 := Lib.hid hW1
                  clear hW1
                  go_wp2_with (first
                    | (go_at_call 40; refine HHF.out.mono ?_; rintro e w7 ⟨rfl, hw7⟩; obtain rfl := hw7.symm; clear hw7 HHF)
                    | (go_at_call 40; refine HHO.out.mono ?_; rintro e w8 ⟨rfl, hw8⟩; rw [← HW1.out] at hw8; obtain rfl := hw8.symm; clear hw8; refine Hid.out ?_))
                  refine Lib.hid ?_
                  clear cm cmx q0 q1 q2 q3 q4 HHO
                  cases m1 : decide (m ∈ RN) with
                  | false =>
                    rw [m1] at HHS
                    have HE : Hid (SP.flatMap (sa1 new RN) ++ (NL.take k).flatMap (sa2 old new RN) ++ [act 2 m] = SP.flatMap (sa1 new RN) ++ (NL.take (k + 1)).flatMap (sa2 old new RN)) := by show _ = _; rw [HFS.out, List.append_assoc]; unfold sa2; rw [m1]; rfl
                    clear m1 HSO1 HIX HRS cb3 cb4
                    have HP8 := Lib.hid (HP1.out.below ((Below.refl _ _).alloc (Nat.le_refl _) (.cells #[.int .i64 2, .string (bA m)] 64)))
                    go_wp2_with (first
                      | (go_at_call 37; refine HHS.out.mono ?_; rintro e w8 ⟨rfl, hw8⟩; obtain rfl := hw8.symm; clear hw8)
                      | (at_builtin; refine app_ac _ rfl _ _ rfl w.heap.size _ _ rfl HP8.out.ow ⟨W1.heap.size, 0, none⟩ 1 (act 2 m) rfl (two_news W1 _ _ _) (by have := HKL.out; omega) HP8.out.bel.size ?_; intro v9 w9 ho9 hg9 hv9; refine Hid.out ?_))
                    refine Lib.hid ?_
                    have HP9 := Lib.hid (HP8.out.app ho9 hg9 hv9)
                    rw [HE.out] at HP9
                    clear ho9 hg9 hv9 cm1
                    go_wp2
                    go_roundw
                    case rel => exact ⟨k + 1, by omega, by go_num, HP9.out⟩
                    case measure => (simp [intOf] <;> omega)
                  | true =>
                    rw [m1] at HHS
                    have HS2 : Hid (sa2 old new RN m = if rst old new m then [act 3 m] else []) := by show _ = _; unfold sa2; rw [m1]; rfl
                    rcases HSO1.out with ⟨hf, hd⟩ | ⟨y, v, hyn, hf, hvy, hd, hev⟩
                    · rw [hf]
                      have HE : Hid (SP.flatMap (sa1 new RN) ++ (NL.take k).flatMap (sa2 old new RN) = SP.flatMap (sa1 new RN) ++ (NL.take (k + 1)).flatMap (sa2 old new RN)) := by show _ = _; rw [HFS.out, HS2.out, HRS.out, hd]; simp
                      rw [HE.out] at HP1
                      have HPd : Hid (Pk gy w7 u7 (SP.flatMap (sa1 new RN) ++ (NL.take (k + 1)).flatMap (sa2 old new RN)) w W1.drew) := HP1.out.below (Below.refl _ _).drew
                      clear m1 hf hd HSO1 HIX HRS HS2
                      go_wp2_with (go_at_call 37; refine HHS.out.mono ?_; rintro e w8 ⟨rfl, hw8⟩; obtain rfl := hw8.symm; clear hw8; refine Hid.out ?_)
                      refine Lib.hid ?_
                      go_upto_region 28 with fail
                      refine wp_region_held_drew (S := fun _ => True) (by kernel_rfl) trivial (fun hHeld => ?_)
                      iterate 3 (refine un 17 rfl ?_; try simp only [aP])
                      iterate 8 (refine sn 17 rfl ?_; try simp only [aP])
                      iterate 2 (refine un 17 rfl ?_; try simp only [aP])
                      iterate 3 (refine sn 17 rfl ?_; try simp only [aP])
                      iterate 1 (refine un 17 rfl ?_; try simp only [aP])
                      refine dq ?_
                      go_wp2
                      go_roundw
                      case rel => exact ⟨k + 1, by omega, by go_num, HPd.out⟩
                      case measure => (simp [intOf] <;> omega)
                    · rw [hf]
                      obtain ⟨b0, o0, rfl, hc0⟩ := HIX.out y v hvy
                      have hy0 : (0 : Int) ≤ (y : Int) := by omega
                      have hyn' : (y : Int) < (n0 : Int) := by omega
                      have co3 := (hc0 W1 HP1.out.bel).2
                      rw [hd, hev] at HRS
                      obtain ⟨xo, hxo⟩ : ∃ q, v.fExec = q := ⟨_, rfl⟩
                      rw [hxo] at co3 HRS
                      have HPd : Hid (Pk gy w7 u7 (SP.flatMap (sa1 new RN) ++ (NL.take k).flatMap (sa2 old new RN)) w W1.drew) := HP1.out.below (Below.refl _ _).drew
                      have cm2 : W1.drew.cell? ⟨gy, k, none⟩ = some (.string (bA m)) := cm1
                      have HPI3 := Lib.hid (HPd.out.below ((Below.refl _ _).alloc (Nat.le_refl _) (.cells #[.int .i64 3, .string (bA m)] 64)))
                      have HNO : Hid (rst old new m = false → SP.flatMap (sa1 new RN) ++ (NL.take k).flatMap (sa2 old new RN) = SP.flatMap (sa1 new RN) ++ (NL.take (k + 1)).flatMap (sa2 old new RN)) := fun h => by rw [HFS.out, HS2.out, h]; simp
                      have HYE : Hid (rst old new m = true → SP.flatMap (sa1 new RN) ++ (NL.take k).flatMap (sa2 old new RN) ++ [act 3 m] = SP.flatMap (sa1 new RN) ++ (NL.take (k + 1)).flatMap (sa2 old new RN)) := fun h => by rw [HFS.out, HS2.out, h, List.append_assoc]; rfl
                      clear m1 hf hd hev hvy hxo hc0 HSO1 HIX HS2
                      go_wp2_with (go_at_call 37; refine HHS.out.mono ?_; rintro e w8 ⟨rfl, hw8⟩; obtain rfl := hw8.symm; clear hw8; refine Hid.out ?_)
                      refine Lib.hid ?_
                      go_upto_region 28 with fail
                      refine wp_region_held_drew (S := fun W => W.cell? ⟨b0, o0 + y * 5 + 3, none⟩ = some (.string xo) ∧ W.cell? ⟨wr.heap.size, 3, none⟩ = some (.string xe) ∧ W.cell? ⟨wr.heap.size, 4, none⟩ = some (.bool kp)) (by kernel_rfl) ⟨co3, cb3, cb4⟩ (fun hHeld => ?_)
                      cases he : (xo.toList == xe.toList) with
                      | true =>
                        have HE := Lib.hid (HNO.out (by rw [HRS.out, ← ba_ne, he]; simp))
                        iterate 13 (refine un 17 rfl ?_; try simp only [aP, he])
                        iterate 3 (refine sn 17 rfl ?_; try simp only [aP])
                        iterate 1 (refine un 17 rfl ?_; try simp only [aP])
                        refine dq ?_
                        rw [HE.out] at HPd
                        clear hHeld
                        go_wp2
                        go_roundw
                        case rel => exact ⟨k + 1, by omega, by go_num, HPd.out⟩
                        case measure => (simp [intOf] <;> omega)
                      | false =>
                        iterate 13 (refine un 17 rfl ?_; try simp only [aP, he])
                        iterate 4 (refine un 17 rfl ?_; try simp only [aP])
                        refine dq ?_
                        clear hHeld
                        cases kp with
                        | true =>
                          have HE := Lib.hid (HNO.out (by rw [HRS.out]; rfl))
                          rw [HE.out] at HPd
                          go_wp2
                          go_roundw
                          case rel => exact ⟨k + 1, by omega, by go_num, HPd.out⟩
                          case measure => (simp [intOf] <;> omega)
                        | false =>
                          have HE := Lib.hid (HYE.out (by rw [HRS.out, ← ba_ne, he]; simp))
                          clear he
                          go_wp2_with (at_builtin; refine app_ac _ rfl _ _ rfl w.heap.size _ _ rfl HPI3.out.ow ⟨W1.drew.heap.size, 0, none⟩ 1 (act 3 m) rfl (two_news W1.drew _ _ _) (by have := HKL.out; omega) HPI3.out.bel.size ?_; intro v9 w9 ho9 hg9 hv9; refine Hid.out ?_)
                          refine Lib.hid ?_
                          have HP9 := Lib.hid (HPI3.out.app ho9 hg9 hv9)
                          rw [HE.out] at HP9
                          clear ho9 hg9 hv9 cm1 cm2
                          go_wp2
                          go_roundw
                          case rel => exact ⟨k + 1, by omega, by go_num, HP9.out⟩
                          case measure => (simp [intOf] <;> omega)
                · have hkl' : ¬ (k : Int) < (nl : Int) := by omega
                  obtain rfl : nl = k := by omega
                  have HTK2 : Hid (NL.take nl = NL) := List.take_of_length_le (by rw [HNE.out]; exact Nat.le_refl _)
                  rw [HTK2.out] at HPI
                  go_wp2
                  go_ret
                  exact ⟨⟨_, rfl, HPI.out.ow⟩, HPI.out.bel⟩

end Go.Proofs.Ytdddplhfhpghkaa.hp

namespace Go.Proofs.Ytdddplhfhpghkaa.hp
open Go.ChangeShapes Go.WideShapes Go.ChangeAt Go.RowKit Go.Deep Go.Maps
open fa (Us uNo nmL nAt)
open fw (Ua ua_of soA)
set_option linter.unusedVariables false
set_option linter.unusedSimpArgs false

/-! ### PlanUnits: both sides, and how much the answer weighs -/

theorem us_name {us : List ty.Un} (h : un.usB us = true) {u : ty.Un} (hu : u ∈ us) : (nmL u).length ≤ 60 := by
  unfold un.usB at h
  simp only [Bool.and_eq_true, decide_eq_true_eq, List.all_eq_true] at h
  have := h.2.2 u hu
  unfold un.unB at this
  simp only [Bool.and_eq_true, decide_eq_true_eq] at this
  have h2 := this.1
  unfold nm.nameB at h2
  simp only [Bool.and_eq_true, decide_eq_true_eq] at h2
  have h3 := h2.1.1.2
  unfold nmL
  simpa using h3
theorem bA_size (m : List UInt8) : (bA m).size = m.length := by simp [bA, ByteArray.size]
theorem sum_le {α : Type} {f : α → Nat} {B : Nat} : ∀ {l : List α}, (∀ x ∈ l, f x ≤ B) → (l.map f).sum ≤ l.length * B
  | [], _ => by simp
  | x :: l, h => by
    have h1 := sum_le (f := f) (B := B) (l := l) fun y hy => h y (List.mem_cons_of_mem _ hy)
    have h2 := h x List.mem_cons_self
    rw [List.map_cons, List.sum_cons, List.length_cons, Nat.add_mul]
    omega
theorem pl_small (old new : List ty.Un) (rn : List ByteArray) : ty.wtAc (plA old new rn) ≤ 1048576 := by
  unfold plA
  split
  · rename_i hp
    obtain ⟨⟨h0, h1⟩, _⟩ := hp
    obtain ⟨RN, hRN⟩ : ∃ R, (rn.map fun b => b.data.toList) = R := ⟨_, rfl⟩
    rw [hRN]
    have hl : (plL old new RN).length ≤ 400 := by
      unfold plL
      have e1 := fm_len (f := sa1 new RN) sa1_len (stp old)
      have e2 := fm_len (f := sa2 old new RN) sa2_len (soA new)
      have e3 := stp_len old
      have e4 := soA_len old
      have e5 := soA_len new
      have e6 := (ua_of h0).few
      have e7 := (ua_of h1).few
      rw [List.length_append]
      omega
    have hs : ∀ x ∈ plL old new RN, ty.wt1Ac x ≤ 60 := fun x hx => by
      unfold plL at hx
      rcases List.mem_append.1 hx with h | h
      · obtain ⟨m, hm, hx⟩ := List.mem_flatMap.1 h
        obtain ⟨_, u, hu, e⟩ := stp_in h0 hm
        have hn := us_name h0 (List.mem_of_getElem? hu)
        rw [e] at hn
        unfold sa1 at hx
        split at hx
        · rw [List.mem_singleton.1 hx]; unfold ty.wt1Ac act; rw [bA_size]; exact hn
        · cases hx
      · obtain ⟨m, hm, hx⟩ := List.mem_flatMap.1 h
        obtain ⟨_, u, hu, e⟩ := soA_no h1 hm
        have hn := us_name h1 (List.mem_of_getElem? hu)
        rw [e] at hn
        unfold sa2 at hx
        split at hx
        · split at hx
          · rw [List.mem_singleton.1 hx]; unfold ty.wt1Ac act; rw [bA_size]; exact hn
          · cases hx
        · rw [List.mem_singleton.1 hx]; unfold ty.wt1Ac act; rw [bA_size]; exact hn
    unfold ty.wtAc ty.wtkAc
    rw [List.take_length]
    have := sum_le hs
    omega
  · unfold ty.wtAc ty.wtkAc
    simp

theorem str_rowA {lo : Nat} {w : World} {a : Option Addr} {l : List ByteArray} (h : ty.SrcS (some lo) w a l) (hl : l.length ≤ 1048576) : sr.StrR w (.slice a l.length l.length) (l.map fun b => b.data.toList) := by
  rcases h with h | ⟨b, o, e, _, hc⟩
  · cases h.1
  · refine ⟨b, o, l.length, by rw [e, List.length_map], by rw [List.length_map]; exact Nat.le_refl _, by unfold maxLen; omega, fun i x hx => ?_⟩
    rw [List.getElem?_map, Option.map_eq_some_iff] at hx
    obtain ⟨y, hy, rfl⟩ := hx
    rw [hc i y hy, sr.strL_of]

theorem ipl_any (md0 md1 md2 : Option Nat) (a0 a1 a2 : Option Addr) (c0 c1 c2 : Nat) (old new : List ty.Un) (rn : List ByteArray) (w : World) (h0 : ty.SrcUn md0 w a0 old) (hw0 : ty.wtUn old ≤ 1048576) (h1 : ty.SrcUn md1 w a1 new) (hw1 : ty.wtUn new ≤ 1048576) (h2 : ty.SrcS md2 w a2 rn) (hw2 : ty.wtS rn ≤ 1048576) :
    Calls Try.prog 20 #[.slice a0 old.length c0, .slice a1 new.length c1, .slice a2 rn.length c2] w fun e w' => (∃ v, e = .returned v ∧ AnA w.heap.size w' v (plA old new rn)) ∧ Below w.heap.size w w' := by
  have hrl := ty.wtS_len rn
  unfold plA
  split
  · rename_i hp
    refine (ipl_yes md0 md1 md2 a0 a1 a2 c0 c1 c2 old new rn w h0 hw0 h1 hw1 h2 hw2 hp).mono ?_
    rintro e w' ⟨⟨v, rfl, h⟩, hb⟩
    exact ⟨⟨v, rfl, h.an⟩, hb⟩
  · rename_i hp
    refine (ipl_no md0 md1 md2 a0 a1 a2 c0 c1 c2 old new rn w h0 hw0 h1 hw1 (by omega) hp).mono ?_
    rintro e w' ⟨⟨v, rfl, h⟩, hb⟩
    exact ⟨⟨v, rfl, h.an⟩, hb⟩
theorem spl_any (md0 md1 : Option Nat) (a0 a1 a2 : Option Addr) (c0 c1 c2 : Nat) (old new : List ty.Un) (rn : List ByteArray) (w : World) (h0 : ty.SrcUn md0 w a0 old) (hw0 : ty.wtUn old ≤ 1048576) (h1 : ty.SrcUn md1 w a1 new) (hw1 : ty.wtUn new ≤ 1048576) (h2 : sr.StrR w (.slice a2 rn.length c2) (rn.map fun b => b.data.toList)) (hw2 : ty.wtS rn ≤ 1048576) :
    Calls Try.prog 18 #[.slice a0 old.length c0, .slice a1 new.length c1, .slice a2 rn.length c2] w fun e w' => (∃ v, e = .returned v ∧ CpA w' v (plA old new rn)) ∧ Below w.heap.size w w' := by
  have hrl := ty.wtS_len rn
  unfold plA
  split
  · rename_i hp
    refine (spl_yes md0 md1 a0 a1 a2 c0 c1 c2 old new rn w h0 hw0 h1 hw1 h2 hp).mono ?_
    rintro e w' ⟨⟨v, rfl, h⟩, hb⟩
    exact ⟨⟨v, rfl, h.cp⟩, hb⟩
  · rename_i hp
    refine (spl_no md0 md1 a0 a1 a2 c0 c1 c2 old new rn w h0 hw0 h1 hw1 (by omega) hp).mono ?_
    rintro e w' ⟨⟨v, rfl, h⟩, hb⟩
    exact ⟨⟨v, rfl, h.cp⟩, hb⟩
end Go.Proofs.Ytdddplhfhpghkaa.hp

namespace Go.Proofs.Ytdddplhfhpghkaa.hp
open Go.ChangeShapes Go.WideShapes Go.ChangeAt Go.RowKit Go.Deep
set_option linter.unusedVariables false
set_option linter.unusedSimpArgs false

/-! ### FnExactPlanUnits's walk -/

def GZ (lo hi : Nat) (w : World) (a : Option Addr) (l : List ty.Ac) : Prop := ty.GAc lo hi w a l ∧ hi ≤ w.heap.size
theorem GZ.below {lo hi : Nat} {w w' : World} {a : Option Addr} {l : List ty.Ac} (h : GZ lo hi w a l) (hb : Below w.heap.size w w') : GZ lo hi w' a l := ⟨h.1.kept fun p _ hp => hb.block p (Nat.lt_of_lt_of_le hp h.2), Nat.le_trans h.2 hb.size⟩
theorem GZ.rel {lo hi lo' hi' : Nat} {w w' : World} {a : Option Addr} {l : List ty.Ac} (h : GZ lo hi w a l) (hR : ty.Rel lo' hi' w w') (hd : hi' ≤ lo) : GZ lo hi w' a l := ⟨h.1.kept fun p h1 h2 => hR.2.2.1 p (Nat.lt_of_lt_of_le h2 h.2) (.inr (Nat.le_trans hd h1)), Nat.le_trans h.2 hR.2.1⟩

set_option maxHeartbeats 8000000 in
set_option maxRecDepth 100000 in
theorem pu_law (a0 : Option Addr) (c0 : Nat) (p0 : List ty.Un) (a1 : Option Addr) (c1 : Nat) (p1 : List ty.Un) (a2 : Option Addr) (c2 : Nat) (p2 : List ByteArray) (w : World)  (hb0 : ty.SrcUn none w a0 p0) (hs0 : ty.SmUn p0) (hb1 : ty.SrcUn none w a1 p1) (hs1 : ty.SmUn p1) (hb2 : ty.SrcS none w a2 p2) (hs2 : ty.SmS p2) :
    Calls Try.prog 5 #[.slice a0 p0.length c0, .slice a1 p1.length c1, .slice a2 p2.length c2] w fun e w' => e = .returned (.bool true) ∧ Below w.heap.size w w' := by
  have HSZ0 : Hid (∀ (W : World) (L : Int), Below w.heap.size w W → 0 ≤ L → L ≤ 1048576 → Calls Try.prog 6 #[.slice a0 p0.length c0, .int .i64 L] W fun e w' => (∃ r : Int, e = .returned (.int .i64 r) ∧ (r = -1 ∨ 0 ≤ r ∧ r = L - (ty.wtUn p0 : Int))) ∧ Below W.heap.size W w') := fun W L h h0 h1 => ty.szUn_any a0 c0 p0 L W (hb0.below h) hs0 ⟨h0, h1⟩
  have HTO0 : Hid (∀ W, Below w.heap.size w W → ty.wtUn p0 ≤ 1048576 → Calls Try.prog 8 #[.slice a0 p0.length c0] W fun e w' => e = .returned (.slice (some ⟨W.heap.size, 0, none⟩) p0.length p0.length) ∧ ty.SrcUn (some W.heap.size) w' (some ⟨W.heap.size, 0, none⟩) p0 ∧ Below W.heap.size W w') := fun W h hw => ty.toUn_any a0 c0 p0 W (hb0.below h) hw
  have HSZ1 : Hid (∀ (W : World) (L : Int), Below w.heap.size w W → 0 ≤ L → L ≤ 1048576 → Calls Try.prog 6 #[.slice a1 p1.length c1, .int .i64 L] W fun e w' => (∃ r : Int, e = .returned (.int .i64 r) ∧ (r = -1 ∨ 0 ≤ r ∧ r = L - (ty.wtUn p1 : Int))) ∧ Below W.heap.size W w') := fun W L h h0 h1 => ty.szUn_any a1 c1 p1 L W (hb1.below h) hs1 ⟨h0, h1⟩
  have HTO1 : Hid (∀ W, Below w.heap.size w W → ty.wtUn p1 ≤ 1048576 → Calls Try.prog 8 #[.slice a1 p1.length c1] W fun e w' => e = .returned (.slice (some ⟨W.heap.size, 0, none⟩) p1.length p1.length) ∧ ty.SrcUn (some W.heap.size) w' (some ⟨W.heap.size, 0, none⟩) p1 ∧ Below W.heap.size W w') := fun W h hw => ty.toUn_any a1 c1 p1 W (hb1.below h) hw
  have HSZ2 : Hid (∀ (W : World) (L : Int), Below w.heap.size w W → 0 ≤ L → L ≤ 1048576 → Calls Try.prog 17 #[.slice a2 p2.length c2, .int .i64 L] W fun e w' => (∃ r : Int, e = .returned (.int .i64 r) ∧ (r = -1 ∨ 0 ≤ r ∧ r = L - (ty.wtS p2 : Int))) ∧ Below W.heap.size W w') := fun W L h h0 h1 => ty.szS_any a2 c2 p2 L W (hb2.below h) hs2 ⟨h0, h1⟩
  have HTO2 : Hid (∀ W, Below w.heap.size w W → ty.wtS p2 ≤ 1048576 → Calls Try.prog 19 #[.slice a2 p2.length c2] W fun e w' => e = .returned (.slice (some ⟨W.heap.size, 0, none⟩) p2.length p2.length) ∧ ty.SrcS (some W.heap.size) w' (some ⟨W.heap.size, 0, none⟩) p2 ∧ Below W.heap.size W w') := fun W h hw => ty.toS_any a2 c2 p2 W (hb2.below h) hw
  clear hb0 hs0 hb1 hs1 hb2 hs2
  obtain ⟨n0, hn0⟩ : ∃ n, p0.length = n := ⟨_, rfl⟩
  obtain ⟨n1, hn1⟩ : ∃ n, p1.length = n := ⟨_, rfl⟩
  obtain ⟨n2, hn2⟩ : ∃ n, p2.length = n := ⟨_, rfl⟩
  obtain ⟨rs, hrs⟩ : ∃ rs, plA p0 p1 p2 = rs := ⟨_, rfl⟩
  have HRL : Hid (ty.wtUn p0 ≤ 1048576 → ty.wtUn p1 ≤ 1048576 → ty.wtS p2 ≤ 1048576 → ty.wtAc rs ≤ 1048576) := fun w0 w1 w2 => by rw [← hrs]; exact pl_small p0 p1 p2
  have HSP : Hid (∀ (lo0 : Nat) (A0 : Option Addr) (C0 : Nat) (lo1 : Nat) (A1 : Option Addr) (C1 : Nat) (lo2 : Nat) (A2 : Option Addr) (C2 : Nat) W, ty.SrcUn (some lo0) W A0 p0 → ty.wtUn p0 ≤ 1048576 → C0 = n0 → ty.SrcUn (some lo1) W A1 p1 → ty.wtUn p1 ≤ 1048576 → C1 = n1 → ty.SrcS (some lo2) W A2 p2 → ty.wtS p2 ≤ 1048576 → C2 = n2 → Calls Try.prog 18 #[.slice A0 n0 C0, .slice A1 n1 C1, .slice A2 n2 C2] W fun e w' => (∃ v, e = .returned (v) ∧ CpA w' v rs) ∧ Below W.heap.size W w') := fun lo0 A0 C0 lo1 A1 C1 lo2 A2 C2 W H0 w0 E0 H1 w1 E1 H2 w2 E2  => by
    rw [← hn0, ← hn1, ← hn2, ← hrs]
    exact (by rw [E2, ← hn2]; exact spl_any (some lo0) (some lo1) A0 A1 A2 C0 C1 _ p0 p1 p2 W H0 w0 H1 w1 (str_rowA H2 (by have := ty.wtS_len p2; omega)) w2)
  have HIP : Hid (∀ (lo0 : Nat) (A0 : Option Addr) (C0 : Nat) (lo1 : Nat) (A1 : Option Addr) (C1 : Nat) (lo2 : Nat) (A2 : Option Addr) (C2 : Nat) W, ty.SrcUn (some lo0) W A0 p0 → ty.wtUn p0 ≤ 1048576 → C0 = n0 → ty.SrcUn (some lo1) W A1 p1 → ty.wtUn p1 ≤ 1048576 → C1 = n1 → ty.SrcS (some lo2) W A2 p2 → ty.wtS p2 ≤ 1048576 → C2 = n2 → Calls Try.prog 20 #[.slice A0 n0 C0, .slice A1 n1 C1, .slice A2 n2 C2] W fun e w' => (∃ v, e = .returned (v) ∧ AnA W.heap.size w' v rs) ∧ Below W.heap.size W w') := fun lo0 A0 C0 lo1 A1 C1 lo2 A2 C2 W H0 w0 E0 H1 w1 E1 H2 w2 E2   => by
    rw [← hn0, ← hn1, ← hn2, ← hrs]
    exact (ipl_any (some lo0) (some lo1) (some lo2) A0 A1 A2 C0 C1 C2 p0 p1 p2 W H0 w0 H1 w1 H2 w2)
  have HEQ0 : Hid (∀ (A A' : Option Addr) (c c' : Nat) W, ty.SrcUn none W A p0 → ty.SrcUn none W A' p0 → ty.wtUn p0 ≤ 1048576 → Calls Try.prog 11 #[.slice A n0 c, .slice A' n0 c'] W fun e w' => e = .returned (.bool true) ∧ Below W.heap.size W w') := fun A A' c c' W h h' hw => by rw [← hn0]; exact ty.eqUn_any A A' c c' p0 W h h' hw
  have HMK0 : Hid (∀ (lo hi : Nat) (A : Option Addr) (c k : Nat) W, ty.MUn lo hi W A p0 → 0 < k → k + ty.cnUn p0 ≤ 100000000 → Calls Try.prog 12 #[.slice A n0 c, .int .i64 (k : Int)] W fun e w' => e = .returned (.int .i64 ((k + ty.cnUn p0 : Nat) : Int)) ∧ ty.Rel lo hi W w') := fun lo hi A c k W hM h0 hk => by rw [← hn0]; exact ty.markUn_any lo hi A c p0 k W hM h0 hk
  have HCN0 : Hid (ty.wtUn p0 ≤ 1048576 → ty.cnUn p0 ≤ 8388608) := fun h => by have := ty.cnUn_le p0; omega
  have HEQ1 : Hid (∀ (A A' : Option Addr) (c c' : Nat) W, ty.SrcUn none W A p1 → ty.SrcUn none W A' p1 → ty.wtUn p1 ≤ 1048576 → Calls Try.prog 11 #[.slice A n1 c, .slice A' n1 c'] W fun e w' => e = .returned (.bool true) ∧ Below W.heap.size W w') := fun A A' c c' W h h' hw => by rw [← hn1]; exact ty.eqUn_any A A' c c' p1 W h h' hw
  have HMK1 : Hid (∀ (lo hi : Nat) (A : Option Addr) (c k : Nat) W, ty.MUn lo hi W A p1 → 0 < k → k + ty.cnUn p1 ≤ 100000000 → Calls Try.prog 12 #[.slice A n1 c, .int .i64 (k : Int)] W fun e w' => e = .returned (.int .i64 ((k + ty.cnUn p1 : Nat) : Int)) ∧ ty.Rel lo hi W w') := fun lo hi A c k W hM h0 hk => by rw [← hn1]; exact ty.markUn_any lo hi A c p1 k W hM h0 hk
  have HCN1 : Hid (ty.wtUn p1 ≤ 1048576 → ty.cnUn p1 ≤ 8388608) := fun h => by have := ty.cnUn_le p1; omega
  have HEQ2 : Hid (∀ (A A' : Option Addr) (c c' : Nat) W, ty.SrcS none W A p2 → ty.SrcS none W A' p2 → ty.wtS p2 ≤ 1048576 → Calls Try.prog 10 #[.slice A n2 c, .slice A' n2 c'] W fun e w' => e = .returned (.bool true) ∧ Below W.heap.size W w') := fun A A' c c' W h h' hw => by rw [← hn2]; exact ty.eqS_any A A' c c' p2 W h h' hw
  have HMK2 : Hid (∀ (lo hi : Nat) (A : Option Addr) (c k : Nat) W, ty.MS lo hi W A p2 → 0 < k → k + ty.cnS p2 ≤ 100000000 → Calls Try.prog 13 #[.slice A n2 c, .int .i64 (k : Int)] W fun e w' => e = .returned (.int .i64 ((k + ty.cnS p2 : Nat) : Int)) ∧ ty.Rel lo hi W w') := fun lo hi A c k W hM h0 hk => by rw [← hn2]; exact ty.markS_all lo hi A c p2 k W hM h0 hk
  have HCN2 : Hid (ty.wtS p2 ≤ 1048576 → ty.cnS p2 ≤ 8388608) := fun h => by have := ty.cnS_le p2; omega
  rw [hn0] at HSZ0 HTO0 ⊢
  rw [hn1] at HSZ1 HTO1 ⊢
  rw [hn2] at HSZ2 HTO2 ⊢
  clear hn0 hn1 hn2 hrs
  obtain ⟨k0, hk0⟩ : ∃ k, ty.cnUn p0 = k := ⟨_, rfl⟩
  rw [hk0] at HMK0 HCN0
  clear hk0
  obtain ⟨k1, hk1⟩ : ∃ k, ty.cnUn p1 = k := ⟨_, rfl⟩
  rw [hk1] at HMK1 HCN1
  clear hk1
  obtain ⟨k2, hk2⟩ : ∃ k, ty.cnS p2 = k := ⟨_, rfl⟩
  rw [hk2] at HMK2 HCN2
  clear hk2
  go_enter Try.func5, Try.ntmps5
  go_wp2_with (go_at_call 6; refine (HSZ0.out _ _ (Below.refl _ _) (by omega) (by omega)).mono ?_; rintro e u0 ⟨⟨ry0, rfl, hry0⟩, hlu0⟩; clear HSZ0)
  · go_ret
    exact ⟨rfl, hlu0⟩
  have HW0 : Hid (ty.wtUn p0 ≤ 1048576) := by
    have h := hry0.resolve_left (by omega)
    show _ ≤ _
    omega
  have hrr0 : 0 ≤ ry0 ∧ ry0 ≤ 1048576 := by omega
  clear hry0
  go_wp2_with (go_at_call 6; refine (HSZ1.out _ _ (hlu0) (by omega) (by omega)).mono ?_; rintro e u1 ⟨⟨ry1, rfl, hry1⟩, hlu1⟩; clear HSZ1)
  · go_ret
    exact ⟨rfl, (hlu0).trans (hlu1.mono (hlu0).size)⟩
  have BU1 : Below w.heap.size w u1 := (hlu0).trans (hlu1.mono (hlu0).size)
  have HW1 : Hid (ty.wtUn p1 ≤ 1048576) := by
    have h := hry1.resolve_left (by omega)
    show _ ≤ _
    omega
  have hrr1 : 0 ≤ ry1 ∧ ry1 ≤ 1048576 := by omega
  clear hry1
  go_wp2_with (go_at_call 17; refine (HSZ2.out _ _ (BU1) (by omega) (by omega)).mono ?_; rintro e u2 ⟨⟨ry2, rfl, hry2⟩, hlu2⟩; clear HSZ2)
  · go_ret
    exact ⟨rfl, (BU1).trans (hlu2.mono (BU1).size)⟩
  have BU2 : Below w.heap.size w u2 := (BU1).trans (hlu2.mono (BU1).size)
  have HW2 : Hid (ty.wtS p2 ≤ 1048576) := by
    have h := hry2.resolve_left (by omega)
    show _ ≤ _
    omega
  have hrr2 : 0 ≤ ry2 ∧ ry2 ≤ 1048576 := by omega
  clear hry2
  have HRL1 : Hid (ty.wtAc rs ≤ 1048576) := HRL.out HW0.out HW1.out HW2.out
  have HCR : Hid (ty.cnAc rs ≤ 33554432) := by show _ ≤ _; have h1 := ty.cnAc_le rs; have h2 := HRL1.out; omega
  have HC0 : Hid (k0 ≤ 8388608) := HCN0.out HW0.out
  have HC1 : Hid (k1 ≤ 8388608) := HCN1.out HW1.out
  have HC2 : Hid (k2 ≤ 8388608) := HCN2.out HW2.out
  go_wp2_with (go_at_call 8; refine (HTO0.out _ (BU2) HW0.out).mono ?_; rintro e wa0 ⟨rfl, ho, hl⟩; refine Hid.out ?_)
  refine Lib.hid ?_
  have B_wa0 : Below w.heap.size w wa0 := (BU2).trans (hl.mono (BU2).size)
  have HS0 : Hid (ty.SrcUn (some u2.heap.size) wa0 (some ⟨u2.heap.size, 0, none⟩) p0) := ho
  clear ho hl
  go_wp2_with (go_at_call 8; refine (HTO1.out _ (B_wa0) HW1.out).mono ?_; rintro e wa1 ⟨rfl, ho, hl⟩; refine Hid.out ?_)
  refine Lib.hid ?_
  have B_wa1 : Below w.heap.size w wa1 := (B_wa0).trans (hl.mono (B_wa0).size)
  have HS0_wa1 : Hid (ty.SrcUn (some u2.heap.size) wa1 (some ⟨u2.heap.size, 0, none⟩) p0) := HS0.out.below hl
  have HS1 : Hid (ty.SrcUn (some wa0.heap.size) wa1 (some ⟨wa0.heap.size, 0, none⟩) p1) := ho
  clear ho hl
  go_wp2_with (go_at_call 19; refine (HTO2.out _ (B_wa1) HW2.out).mono ?_; rintro e wa2 ⟨rfl, ho, hl⟩; refine Hid.out ?_)
  refine Lib.hid ?_
  have B_wa2 : Below w.heap.size w wa2 := (B_wa1).trans (hl.mono (B_wa1).size)
  have HS0_wa2 : Hid (ty.SrcUn (some u2.heap.size) wa2 (some ⟨u2.heap.size, 0, none⟩) p0) := HS0_wa1.out.below hl
  have HS1_wa2 : Hid (ty.SrcUn (some wa0.heap.size) wa2 (some ⟨wa0.heap.size, 0, none⟩) p1) := HS1.out.below hl
  have HS2 : Hid (ty.SrcS (some wa1.heap.size) wa2 (some ⟨wa1.heap.size, 0, none⟩) p2) := ho
  clear ho hl
  go_wp2_with (go_at_call 18; refine (HSP.out _ _ _ _ _ _ _ _ _ _ HS0_wa2.out HW0.out rfl HS1_wa2.out HW1.out rfl HS2.out HW2.out rfl ).mono ?_; rintro e w3 ⟨⟨v3, rfl, hv3⟩, hl3⟩; refine Hid.out ?_)
  refine Lib.hid ?_
  obtain ⟨g3, c3, hve3, hss3⟩ := hv3
  subst hve3
  have HP : Hid (∀ W, Below w3.heap.size w3 W → ty.SrcAc none W (some ⟨g3, 0, none⟩) rs) := fun W h => hss3.below h
  have B_w3 : Below w.heap.size w w3 := (B_wa2).trans (hl3.mono (B_wa2).size)
  clear hl3 hss3 HS0_wa2 HS1_wa2 HS2
  have C_w3 : Below w3.heap.size w3 w3 := Below.refl _ _
  go_wp2_with (go_at_call 8; refine (HTO0.out _ (B_w3) HW0.out).mono ?_; rintro e wx0 ⟨rfl, ho, hl⟩; refine Hid.out ?_)
  refine Lib.hid ?_
  have B_wx0 : Below w.heap.size w wx0 := (B_w3).trans (hl.mono (B_w3).size)
  have C_wx0 : Below w3.heap.size w3 wx0 := (C_w3).trans (hl.mono (C_w3).size)
  have hlo0 : w3.heap.size ≤ w3.heap.size ∧ w3.heap.size ≤ wx0.heap.size := ⟨Nat.le_refl _, hl.size⟩
  have HX0 : Hid (ty.SrcUn (some w3.heap.size) wx0 (some ⟨w3.heap.size, 0, none⟩) p0) := ho
  have HM0 : Hid (ty.MUn w3.heap.size wx0.heap.size wx0 (some ⟨w3.heap.size, 0, none⟩) p0) := ty.MUn.src ho
  clear ho hl
  go_wp2_with (go_at_call 8; refine (HTO1.out _ (B_wx0) HW1.out).mono ?_; rintro e wx1 ⟨rfl, ho, hl⟩; refine Hid.out ?_)
  refine Lib.hid ?_
  have B_wx1 : Below w.heap.size w wx1 := (B_wx0).trans (hl.mono (B_wx0).size)
  have C_wx1 : Below w3.heap.size w3 wx1 := (C_wx0).trans (hl.mono (C_wx0).size)
  have HX0_wx1 : Hid (ty.SrcUn (some w3.heap.size) wx1 (some ⟨w3.heap.size, 0, none⟩) p0) := HX0.out.below hl
  have HM0_wx1 : Hid (ty.MUn w3.heap.size wx0.heap.size wx1 (some ⟨w3.heap.size, 0, none⟩) p0) := HM0.out.shp (ty.Shp.below hl)
  have hlo1 : w3.heap.size ≤ wx0.heap.size ∧ wx0.heap.size ≤ wx1.heap.size := ⟨(C_wx0).size, hl.size⟩
  have HX1 : Hid (ty.SrcUn (some wx0.heap.size) wx1 (some ⟨wx0.heap.size, 0, none⟩) p1) := ho
  have HM1 : Hid (ty.MUn wx0.heap.size wx1.heap.size wx1 (some ⟨wx0.heap.size, 0, none⟩) p1) := ty.MUn.src ho
  clear ho hl
  go_wp2_with (go_at_call 19; refine (HTO2.out _ (B_wx1) HW2.out).mono ?_; rintro e wx2 ⟨rfl, ho, hl⟩; refine Hid.out ?_)
  refine Lib.hid ?_
  have B_wx2 : Below w.heap.size w wx2 := (B_wx1).trans (hl.mono (B_wx1).size)
  have C_wx2 : Below w3.heap.size w3 wx2 := (C_wx1).trans (hl.mono (C_wx1).size)
  have HX0_wx2 : Hid (ty.SrcUn (some w3.heap.size) wx2 (some ⟨w3.heap.size, 0, none⟩) p0) := HX0_wx1.out.below hl
  have HM0_wx2 : Hid (ty.MUn w3.heap.size wx0.heap.size wx2 (some ⟨w3.heap.size, 0, none⟩) p0) := HM0_wx1.out.shp (ty.Shp.below hl)
  have HX1_wx2 : Hid (ty.SrcUn (some wx0.heap.size) wx2 (some ⟨wx0.heap.size, 0, none⟩) p1) := HX1.out.below hl
  have HM1_wx2 : Hid (ty.MUn wx0.heap.size wx1.heap.size wx2 (some ⟨wx0.heap.size, 0, none⟩) p1) := HM1.out.shp (ty.Shp.below hl)
  have hlo2 : w3.heap.size ≤ wx1.heap.size ∧ wx1.heap.size ≤ wx2.heap.size := ⟨(C_wx1).size, hl.size⟩
  have HX2 : Hid (ty.SrcS (some wx1.heap.size) wx2 (some ⟨wx1.heap.size, 0, none⟩) p2) := ho
  have HM2 : Hid (ty.MS wx1.heap.size wx2.heap.size wx2 (some ⟨wx1.heap.size, 0, none⟩) p2) := ty.MS.src ho
  clear ho hl
  go_wp2_with (go_at_call 20; refine (HIP.out _ _ _ _ _ _ _ _ _ _ HX0_wx2.out HW0.out rfl HX1_wx2.out HW1.out rfl HX2.out HW2.out rfl  ).mono ?_; rintro e w5 ⟨⟨v5, rfl, hv5⟩, hl5⟩; refine Hid.out ?_)
  refine Lib.hid ?_
  obtain ⟨g5, c5, hve5, hgb5⟩ := hv5
  subst hve5
  have B_w5 : Below w.heap.size w w5 := (B_wx2).trans (hl5.mono (B_wx2).size)
  have C_w5 : Below w3.heap.size w3 w5 := (C_wx2).trans (hl5.mono (C_wx2).size)
  have HX0_w5 : Hid (ty.SrcUn (some w3.heap.size) w5 (some ⟨w3.heap.size, 0, none⟩) p0) := HX0_wx2.out.below hl5
  have HM0_w5 : Hid (ty.MUn w3.heap.size wx0.heap.size w5 (some ⟨w3.heap.size, 0, none⟩) p0) := HM0_wx2.out.shp (ty.Shp.below hl5)
  have HX1_w5 : Hid (ty.SrcUn (some wx0.heap.size) w5 (some ⟨wx0.heap.size, 0, none⟩) p1) := HX1_wx2.out.below hl5
  have HM1_w5 : Hid (ty.MUn wx0.heap.size wx1.heap.size w5 (some ⟨wx0.heap.size, 0, none⟩) p1) := HM1_wx2.out.shp (ty.Shp.below hl5)
  have HX2_w5 : Hid (ty.SrcS (some wx1.heap.size) w5 (some ⟨wx1.heap.size, 0, none⟩) p2) := HX2.out.below hl5
  have HM2_w5 : Hid (ty.MS wx1.heap.size wx2.heap.size w5 (some ⟨wx1.heap.size, 0, none⟩) p2) := HM2.out.shp (ty.Shp.below hl5)
  have HG : Hid (GZ wx2.heap.size w5.heap.size w5 (some ⟨g5, 0, none⟩) rs) := ⟨hgb5, Nat.le_refl _⟩
  have hgx0 : wx0.heap.size ≤ wx2.heap.size := by have := hlo1; omega
  have hgx1 : wx1.heap.size ≤ wx2.heap.size := by have := hlo2; omega
  have hgx2 : wx2.heap.size ≤ wx2.heap.size := Nat.le_refl _
  have hg3 : w3.heap.size ≤ wx2.heap.size := by have := hlo2; omega
  clear hl5 hgb5
  go_wp2_with (go_at_call 21; refine (ty.eqAc_any _ _ _ _ rs _ HG.out.1.src (HP.out _ C_w5) HRL1.out).mono ?_; rintro e w6 ⟨rfl, hl⟩; refine Hid.out ?_)
  refine Lib.hid ?_
  have B_w6 : Below w.heap.size w w6 := (B_w5).trans (hl.mono (B_w5).size)
  have C_w6 : Below w3.heap.size w3 w6 := (C_w5).trans (hl.mono (C_w5).size)
  have HX0_w6 : Hid (ty.SrcUn (some w3.heap.size) w6 (some ⟨w3.heap.size, 0, none⟩) p0) := HX0_w5.out.below hl
  have HM0_w6 : Hid (ty.MUn w3.heap.size wx0.heap.size w6 (some ⟨w3.heap.size, 0, none⟩) p0) := HM0_w5.out.shp (ty.Shp.below hl)
  have HX1_w6 : Hid (ty.SrcUn (some wx0.heap.size) w6 (some ⟨wx0.heap.size, 0, none⟩) p1) := HX1_w5.out.below hl
  have HM1_w6 : Hid (ty.MUn wx0.heap.size wx1.heap.size w6 (some ⟨wx0.heap.size, 0, none⟩) p1) := HM1_w5.out.shp (ty.Shp.below hl)
  have HX2_w6 : Hid (ty.SrcS (some wx1.heap.size) w6 (some ⟨wx1.heap.size, 0, none⟩) p2) := HX2_w5.out.below hl
  have HM2_w6 : Hid (ty.MS wx1.heap.size wx2.heap.size w6 (some ⟨wx1.heap.size, 0, none⟩) p2) := HM2_w5.out.shp (ty.Shp.below hl)
  have HG_w6 : Hid (GZ wx2.heap.size w5.heap.size w6 (some ⟨g5, 0, none⟩) rs) := HG.out.below hl
  clear hl
  go_wp2_with (go_at_call 8; refine (HTO0.out _ (B_w6) HW0.out).mono ?_; rintro e wt0 ⟨rfl, ho, hl⟩; refine Hid.out ?_)
  refine Lib.hid ?_
  have B_wt0 : Below w.heap.size w wt0 := (B_w6).trans (hl.mono (B_w6).size)
  have C_wt0 : Below w3.heap.size w3 wt0 := (C_w6).trans (hl.mono (C_w6).size)
  have HX0_wt0 : Hid (ty.SrcUn (some w3.heap.size) wt0 (some ⟨w3.heap.size, 0, none⟩) p0) := HX0_w6.out.below hl
  have HM0_wt0 : Hid (ty.MUn w3.heap.size wx0.heap.size wt0 (some ⟨w3.heap.size, 0, none⟩) p0) := HM0_w6.out.shp (ty.Shp.below hl)
  have HX1_wt0 : Hid (ty.SrcUn (some wx0.heap.size) wt0 (some ⟨wx0.heap.size, 0, none⟩) p1) := HX1_w6.out.below hl
  have HM1_wt0 : Hid (ty.MUn wx0.heap.size wx1.heap.size wt0 (some ⟨wx0.heap.size, 0, none⟩) p1) := HM1_w6.out.shp (ty.Shp.below hl)
  have HX2_wt0 : Hid (ty.SrcS (some wx1.heap.size) wt0 (some ⟨wx1.heap.size, 0, none⟩) p2) := HX2_w6.out.below hl
  have HM2_wt0 : Hid (ty.MS wx1.heap.size wx2.heap.size wt0 (some ⟨wx1.heap.size, 0, none⟩) p2) := HM2_w6.out.shp (ty.Shp.below hl)
  have HG_wt0 : Hid (GZ wx2.heap.size w5.heap.size wt0 (some ⟨g5, 0, none⟩) rs) := HG_w6.out.below hl
  have HY0 : Hid (ty.SrcUn none wt0 (some ⟨w6.heap.size, 0, none⟩) p0) := ho.any
  clear ho hl
  go_wp2_with (go_at_call 11; refine (HEQ0.out _ _ _ _ _ HX0_wt0.out.any HY0.out HW0.out).mono ?_; rintro e we0 ⟨rfl, hl⟩; refine Hid.out ?_)
  refine Lib.hid ?_
  have B_we0 : Below w.heap.size w we0 := (B_wt0).trans (hl.mono (B_wt0).size)
  have C_we0 : Below w3.heap.size w3 we0 := (C_wt0).trans (hl.mono (C_wt0).size)
  have HX0_we0 : Hid (ty.SrcUn (some w3.heap.size) we0 (some ⟨w3.heap.size, 0, none⟩) p0) := HX0_wt0.out.below hl
  have HM0_we0 : Hid (ty.MUn w3.heap.size wx0.heap.size we0 (some ⟨w3.heap.size, 0, none⟩) p0) := HM0_wt0.out.shp (ty.Shp.below hl)
  have HX1_we0 : Hid (ty.SrcUn (some wx0.heap.size) we0 (some ⟨wx0.heap.size, 0, none⟩) p1) := HX1_wt0.out.below hl
  have HM1_we0 : Hid (ty.MUn wx0.heap.size wx1.heap.size we0 (some ⟨wx0.heap.size, 0, none⟩) p1) := HM1_wt0.out.shp (ty.Shp.below hl)
  have HX2_we0 : Hid (ty.SrcS (some wx1.heap.size) we0 (some ⟨wx1.heap.size, 0, none⟩) p2) := HX2_wt0.out.below hl
  have HM2_we0 : Hid (ty.MS wx1.heap.size wx2.heap.size we0 (some ⟨wx1.heap.size, 0, none⟩) p2) := HM2_wt0.out.shp (ty.Shp.below hl)
  have HG_we0 : Hid (GZ wx2.heap.size w5.heap.size we0 (some ⟨g5, 0, none⟩) rs) := HG_wt0.out.below hl
  clear hl HY0
  go_wp2_with (go_at_call 8; refine (HTO1.out _ (B_we0) HW1.out).mono ?_; rintro e wt1 ⟨rfl, ho, hl⟩; refine Hid.out ?_)
  refine Lib.hid ?_
  have B_wt1 : Below w.heap.size w wt1 := (B_we0).trans (hl.mono (B_we0).size)
  have C_wt1 : Below w3.heap.size w3 wt1 := (C_we0).trans (hl.mono (C_we0).size)
  have HX0_wt1 : Hid (ty.SrcUn (some w3.heap.size) wt1 (some ⟨w3.heap.size, 0, none⟩) p0) := HX0_we0.out.below hl
  have HM0_wt1 : Hid (ty.MUn w3.heap.size wx0.heap.size wt1 (some ⟨w3.heap.size, 0, none⟩) p0) := HM0_we0.out.shp (ty.Shp.below hl)
  have HX1_wt1 : Hid (ty.SrcUn (some wx0.heap.size) wt1 (some ⟨wx0.heap.size, 0, none⟩) p1) := HX1_we0.out.below hl
  have HM1_wt1 : Hid (ty.MUn wx0.heap.size wx1.heap.size wt1 (some ⟨wx0.heap.size, 0, none⟩) p1) := HM1_we0.out.shp (ty.Shp.below hl)
  have HX2_wt1 : Hid (ty.SrcS (some wx1.heap.size) wt1 (some ⟨wx1.heap.size, 0, none⟩) p2) := HX2_we0.out.below hl
  have HM2_wt1 : Hid (ty.MS wx1.heap.size wx2.heap.size wt1 (some ⟨wx1.heap.size, 0, none⟩) p2) := HM2_we0.out.shp (ty.Shp.below hl)
  have HG_wt1 : Hid (GZ wx2.heap.size w5.heap.size wt1 (some ⟨g5, 0, none⟩) rs) := HG_we0.out.below hl
  have HY1 : Hid (ty.SrcUn none wt1 (some ⟨we0.heap.size, 0, none⟩) p1) := ho.any
  clear ho hl
  go_wp2_with (go_at_call 11; refine (HEQ1.out _ _ _ _ _ HX1_wt1.out.any HY1.out HW1.out).mono ?_; rintro e we1 ⟨rfl, hl⟩; refine Hid.out ?_)
  refine Lib.hid ?_
  have B_we1 : Below w.heap.size w we1 := (B_wt1).trans (hl.mono (B_wt1).size)
  have C_we1 : Below w3.heap.size w3 we1 := (C_wt1).trans (hl.mono (C_wt1).size)
  have HX0_we1 : Hid (ty.SrcUn (some w3.heap.size) we1 (some ⟨w3.heap.size, 0, none⟩) p0) := HX0_wt1.out.below hl
  have HM0_we1 : Hid (ty.MUn w3.heap.size wx0.heap.size we1 (some ⟨w3.heap.size, 0, none⟩) p0) := HM0_wt1.out.shp (ty.Shp.below hl)
  have HX1_we1 : Hid (ty.SrcUn (some wx0.heap.size) we1 (some ⟨wx0.heap.size, 0, none⟩) p1) := HX1_wt1.out.below hl
  have HM1_we1 : Hid (ty.MUn wx0.heap.size wx1.heap.size we1 (some ⟨wx0.heap.size, 0, none⟩) p1) := HM1_wt1.out.shp (ty.Shp.below hl)
  have HX2_we1 : Hid (ty.SrcS (some wx1.heap.size) we1 (some ⟨wx1.heap.size, 0, none⟩) p2) := HX2_wt1.out.below hl
  have HM2_we1 : Hid (ty.MS wx1.heap.size wx2.heap.size we1 (some ⟨wx1.heap.size, 0, none⟩) p2) := HM2_wt1.out.shp (ty.Shp.below hl)
  have HG_we1 : Hid (GZ wx2.heap.size w5.heap.size we1 (some ⟨g5, 0, none⟩) rs) := HG_wt1.out.below hl
  clear hl HY1
  go_wp2_with (go_at_call 19; refine (HTO2.out _ (B_we1) HW2.out).mono ?_; rintro e wt2 ⟨rfl, ho, hl⟩; refine Hid.out ?_)
  refine Lib.hid ?_
  have B_wt2 : Below w.heap.size w wt2 := (B_we1).trans (hl.mono (B_we1).size)
  have C_wt2 : Below w3.heap.size w3 wt2 := (C_we1).trans (hl.mono (C_we1).size)
  have HX0_wt2 : Hid (ty.SrcUn (some w3.heap.size) wt2 (some ⟨w3.heap.size, 0, none⟩) p0) := HX0_we1.out.below hl
  have HM0_wt2 : Hid (ty.MUn w3.heap.size wx0.heap.size wt2 (some ⟨w3.heap.size, 0, none⟩) p0) := HM0_we1.out.shp (ty.Shp.below hl)
  have HX1_wt2 : Hid (ty.SrcUn (some wx0.heap.size) wt2 (some ⟨wx0.heap.size, 0, none⟩) p1) := HX1_we1.out.below hl
  have HM1_wt2 : Hid (ty.MUn wx0.heap.size wx1.heap.size wt2 (some ⟨wx0.heap.size, 0, none⟩) p1) := HM1_we1.out.shp (ty.Shp.below hl)
  have HX2_wt2 : Hid (ty.SrcS (some wx1.heap.size) wt2 (some ⟨wx1.heap.size, 0, none⟩) p2) := HX2_we1.out.below hl
  have HM2_wt2 : Hid (ty.MS wx1.heap.size wx2.heap.size wt2 (some ⟨wx1.heap.size, 0, none⟩) p2) := HM2_we1.out.shp (ty.Shp.below hl)
  have HG_wt2 : Hid (GZ wx2.heap.size w5.heap.size wt2 (some ⟨g5, 0, none⟩) rs) := HG_we1.out.below hl
  have HY2 : Hid (ty.SrcS none wt2 (some ⟨we1.heap.size, 0, none⟩) p2) := ho.any
  clear ho hl
  go_wp2_with (go_at_call 10; refine (HEQ2.out _ _ _ _ _ HX2_wt2.out.any HY2.out HW2.out).mono ?_; rintro e we2 ⟨rfl, hl⟩; refine Hid.out ?_)
  refine Lib.hid ?_
  have B_we2 : Below w.heap.size w we2 := (B_wt2).trans (hl.mono (B_wt2).size)
  have C_we2 : Below w3.heap.size w3 we2 := (C_wt2).trans (hl.mono (C_wt2).size)
  have HX0_we2 : Hid (ty.SrcUn (some w3.heap.size) we2 (some ⟨w3.heap.size, 0, none⟩) p0) := HX0_wt2.out.below hl
  have HM0_we2 : Hid (ty.MUn w3.heap.size wx0.heap.size we2 (some ⟨w3.heap.size, 0, none⟩) p0) := HM0_wt2.out.shp (ty.Shp.below hl)
  have HX1_we2 : Hid (ty.SrcUn (some wx0.heap.size) we2 (some ⟨wx0.heap.size, 0, none⟩) p1) := HX1_wt2.out.below hl
  have HM1_we2 : Hid (ty.MUn wx0.heap.size wx1.heap.size we2 (some ⟨wx0.heap.size, 0, none⟩) p1) := HM1_wt2.out.shp (ty.Shp.below hl)
  have HX2_we2 : Hid (ty.SrcS (some wx1.heap.size) we2 (some ⟨wx1.heap.size, 0, none⟩) p2) := HX2_wt2.out.below hl
  have HM2_we2 : Hid (ty.MS wx1.heap.size wx2.heap.size we2 (some ⟨wx1.heap.size, 0, none⟩) p2) := HM2_wt2.out.shp (ty.Shp.below hl)
  have HG_we2 : Hid (GZ wx2.heap.size w5.heap.size we2 (some ⟨g5, 0, none⟩) rs) := HG_wt2.out.below hl
  clear hl HY2
  have HMC0 : Hid (∀ W, ty.MUn w3.heap.size wx0.heap.size W (some ⟨w3.heap.size, 0, none⟩) p0 → Calls Try.prog 12 #[.slice (some ⟨w3.heap.size, 0, none⟩) n0 n0, .int .i64 1] W fun e w' => e = .returned (.int .i64 ((1 + k0 : Nat) : Int)) ∧ ty.Rel w3.heap.size wx0.heap.size W w') := fun W h => by
    have := HMK0.out _ _ _ n0 1 W h (by omega) (by have := HC0.out; omega)
    exact this
  obtain ⟨K0, hK0⟩ : ∃ K : Nat, 1 + k0 = K := ⟨_, rfl⟩
  rw [hK0] at HMC0
  have hKb0 : 0 < K0 ∧ K0 ≤ 8388609 := by have := HC0.out; omega
  clear hK0
  go_wp2_with (go_at_call 12; refine (HMC0.out _ HM0_we2.out).mono ?_; rintro e wm0 ⟨rfl, hR⟩; refine Hid.out ?_)
  refine Lib.hid ?_
  have B_wm0 : Below w.heap.size w wm0 := (B_we2).trans (hR.toBelow (by have := hlo0; have := B_w3.size; omega) (B_we2).size)
  have C_wm0 : Below w3.heap.size w3 wm0 := (C_we2).trans (hR.toBelow hlo0.1 (C_we2).size)
  have HG_wm0 : Hid (GZ wx2.heap.size w5.heap.size wm0 (some ⟨g5, 0, none⟩) rs) := HG_we2.out.rel hR hgx0
  have HM1_wm0 : Hid (ty.MUn wx0.heap.size wx1.heap.size wm0 (some ⟨wx0.heap.size, 0, none⟩) p1) := HM1_we2.out.shp hR.2.2.2
  have HM2_wm0 : Hid (ty.MS wx1.heap.size wx2.heap.size wm0 (some ⟨wx1.heap.size, 0, none⟩) p2) := HM2_we2.out.shp hR.2.2.2
  clear hR
  have HMC1 : Hid (∀ W, ty.MUn wx0.heap.size wx1.heap.size W (some ⟨wx0.heap.size, 0, none⟩) p1 → Calls Try.prog 12 #[.slice (some ⟨wx0.heap.size, 0, none⟩) n1 n1, .int .i64 (K0 : Int)] W fun e w' => e = .returned (.int .i64 ((K0 + k1 : Nat) : Int)) ∧ ty.Rel wx0.heap.size wx1.heap.size W w') := fun W h => by
    have := HMK1.out _ _ _ n1 K0 W h (by omega) (by have := HC1.out; omega)
    exact this
  obtain ⟨K1, hK1⟩ : ∃ K : Nat, K0 + k1 = K := ⟨_, rfl⟩
  rw [hK1] at HMC1
  have hKb1 : 0 < K1 ∧ K1 ≤ 16777218 := by have := HC1.out; omega
  clear hK1
  go_wp2_with (go_at_call 12; refine (HMC1.out _ HM1_wm0.out).mono ?_; rintro e wm1 ⟨rfl, hR⟩; refine Hid.out ?_)
  refine Lib.hid ?_
  have B_wm1 : Below w.heap.size w wm1 := (B_wm0).trans (hR.toBelow (by have := hlo1; have := B_w3.size; omega) (B_wm0).size)
  have C_wm1 : Below w3.heap.size w3 wm1 := (C_wm0).trans (hR.toBelow hlo1.1 (C_wm0).size)
  have HG_wm1 : Hid (GZ wx2.heap.size w5.heap.size wm1 (some ⟨g5, 0, none⟩) rs) := HG_wm0.out.rel hR hgx1
  have HM2_wm1 : Hid (ty.MS wx1.heap.size wx2.heap.size wm1 (some ⟨wx1.heap.size, 0, none⟩) p2) := HM2_wm0.out.shp hR.2.2.2
  clear hR
  have HMC2 : Hid (∀ W, ty.MS wx1.heap.size wx2.heap.size W (some ⟨wx1.heap.size, 0, none⟩) p2 → Calls Try.prog 13 #[.slice (some ⟨wx1.heap.size, 0, none⟩) n2 n2, .int .i64 (K1 : Int)] W fun e w' => e = .returned (.int .i64 ((K1 + k2 : Nat) : Int)) ∧ ty.Rel wx1.heap.size wx2.heap.size W w') := fun W h => by
    have := HMK2.out _ _ _ n2 K1 W h (by omega) (by have := HC2.out; omega)
    exact this
  obtain ⟨K2, hK2⟩ : ∃ K : Nat, K1 + k2 = K := ⟨_, rfl⟩
  rw [hK2] at HMC2
  have hKb2 : 0 < K2 ∧ K2 ≤ 25165827 := by have := HC2.out; omega
  clear hK2
  go_wp2_with (go_at_call 13; refine (HMC2.out _ HM2_wm1.out).mono ?_; rintro e wm2 ⟨rfl, hR⟩; refine Hid.out ?_)
  refine Lib.hid ?_
  have B_wm2 : Below w.heap.size w wm2 := (B_wm1).trans (hR.toBelow (by have := hlo2; have := B_w3.size; omega) (B_wm1).size)
  have C_wm2 : Below w3.heap.size w3 wm2 := (C_wm1).trans (hR.toBelow hlo2.1 (C_wm1).size)
  have HG_wm2 : Hid (GZ wx2.heap.size w5.heap.size wm2 (some ⟨g5, 0, none⟩) rs) := HG_wm1.out.rel hR hgx2
  clear hR
  go_wp2_with (go_at_call 21; refine (ty.eqAc_any _ _ _ _ rs _ HG_wm2.out.1.src (HP.out _ C_wm2) HRL1.out).mono ?_; rintro e w9 ⟨rfl, hl⟩; refine Hid.out ?_)
  refine Lib.hid ?_
  have B_w9 : Below w.heap.size w w9 := (B_wm2).trans (hl.mono (B_wm2).size)
  have C_w9 : Below w3.heap.size w3 w9 := (C_wm2).trans (hl.mono (C_wm2).size)
  have HG_w9 : Hid (GZ wx2.heap.size w5.heap.size w9 (some ⟨g5, 0, none⟩) rs) := HG_wm2.out.below hl
  clear hl
  have HMG : Hid (∀ W, GZ wx2.heap.size w5.heap.size W (some ⟨g5, 0, none⟩) rs → Calls Try.prog 22 #[.slice (some ⟨g5, 0, none⟩) rs.length c5, .int .i64 1] W fun e w' => e = .returned (.int .i64 ((1 + ty.cnAc rs : Nat) : Int)) ∧ ty.GAc wx2.heap.size w5.heap.size w' (some ⟨g5, 0, none⟩) (ty.mkAc 1 rs) ∧ ty.Md wx2.heap.size w5.heap.size W w') := fun W h => ty.markGAc_any _ _ _ c5 rs 1 W h.1 h.2 (by omega) (by have := HCR.out; omega)
  have HHD : Hid (∀ W, ty.SrcAc none W (some ⟨g5, 0, none⟩) (ty.mkAc 1 rs) → Calls Try.prog 23 #[.slice (some ⟨g5, 0, none⟩) rs.length c5, .int .i64 1] W fun e w' => e = .returned (.int .i64 ((1 + ty.cnAc rs : Nat) : Int)) ∧ Below W.heap.size W w') := fun W h => ty.heldAc_any _ c5 rs 1 W h (by omega) (by have := HCR.out; omega)
  obtain ⟨KR, hKR⟩ : ∃ K : Nat, 1 + ty.cnAc rs = K := ⟨_, rfl⟩
  rw [hKR] at HMG HHD
  have hKR0 : ¬ (KR : Int) < 0 := by omega
  clear hKR
  go_wp2_with (go_at_call 22; refine (HMG.out _ HG_w9.out).mono ?_; rintro e w10 ⟨rfl, hmk, hmd⟩; refine Hid.out ?_)
  refine Lib.hid ?_
  have C_w10 : Below w3.heap.size w3 w10 := (C_w9).trans (hmd.toBelow hg3 (C_w9).size)
  have B_w10 : Below w.heap.size w w10 := (B_w9).trans (hmd.toBelow (Nat.le_trans B_w3.size hg3) (B_w9).size)
  have HK : Hid (ty.SrcAc none w10 (some ⟨g5, 0, none⟩) (ty.mkAc 1 rs)) := hmk.src
  clear hmk hmd HG_w9
  go_wp2_with (go_at_call 23; refine (HHD.out _ HK.out).mono ?_; rintro e w11 ⟨rfl, hl⟩; refine Hid.out ?_)
  refine Lib.hid ?_
  have B_w11 : Below w.heap.size w w11 := (B_w10).trans (hl.mono (B_w10).size)
  have C_w11 : Below w3.heap.size w3 w11 := (C_w10).trans (hl.mono (C_w10).size)
  have HK_w11 : Hid (ty.SrcAc none w11 (some ⟨g5, 0, none⟩) (ty.mkAc 1 rs)) := HK.out.below hl
  clear hl
  go_wp2_with (go_at_call 8; refine (HTO0.out _ (B_w11) HW0.out).mono ?_; rintro e wc0 ⟨rfl, ho, hl⟩; refine Hid.out ?_)
  refine Lib.hid ?_
  have B_wc0 : Below w.heap.size w wc0 := (B_w11).trans (hl.mono (B_w11).size)
  have C_wc0 : Below w3.heap.size w3 wc0 := (C_w11).trans (hl.mono (C_w11).size)
  have HK_wc0 : Hid (ty.SrcAc none wc0 (some ⟨g5, 0, none⟩) (ty.mkAc 1 rs)) := HK_w11.out.below hl
  have HV0 : Hid (ty.SrcUn (some w11.heap.size) wc0 (some ⟨w11.heap.size, 0, none⟩) p0) := ho
  clear ho hl
  go_wp2_with (go_at_call 8; refine (HTO1.out _ (B_wc0) HW1.out).mono ?_; rintro e wc1 ⟨rfl, ho, hl⟩; refine Hid.out ?_)
  refine Lib.hid ?_
  have B_wc1 : Below w.heap.size w wc1 := (B_wc0).trans (hl.mono (B_wc0).size)
  have C_wc1 : Below w3.heap.size w3 wc1 := (C_wc0).trans (hl.mono (C_wc0).size)
  have HK_wc1 : Hid (ty.SrcAc none wc1 (some ⟨g5, 0, none⟩) (ty.mkAc 1 rs)) := HK_wc0.out.below hl
  have HV0_wc1 : Hid (ty.SrcUn (some w11.heap.size) wc1 (some ⟨w11.heap.size, 0, none⟩) p0) := HV0.out.below hl
  have HV1 : Hid (ty.SrcUn (some wc0.heap.size) wc1 (some ⟨wc0.heap.size, 0, none⟩) p1) := ho
  clear ho hl
  go_wp2_with (go_at_call 19; refine (HTO2.out _ (B_wc1) HW2.out).mono ?_; rintro e wc2 ⟨rfl, ho, hl⟩; refine Hid.out ?_)
  refine Lib.hid ?_
  have B_wc2 : Below w.heap.size w wc2 := (B_wc1).trans (hl.mono (B_wc1).size)
  have C_wc2 : Below w3.heap.size w3 wc2 := (C_wc1).trans (hl.mono (C_wc1).size)
  have HK_wc2 : Hid (ty.SrcAc none wc2 (some ⟨g5, 0, none⟩) (ty.mkAc 1 rs)) := HK_wc1.out.below hl
  have HV0_wc2 : Hid (ty.SrcUn (some w11.heap.size) wc2 (some ⟨w11.heap.size, 0, none⟩) p0) := HV0_wc1.out.below hl
  have HV1_wc2 : Hid (ty.SrcUn (some wc0.heap.size) wc2 (some ⟨wc0.heap.size, 0, none⟩) p1) := HV1.out.below hl
  have HV2 : Hid (ty.SrcS (some wc1.heap.size) wc2 (some ⟨wc1.heap.size, 0, none⟩) p2) := ho
  clear ho hl
  go_wp2_with (go_at_call 20; refine (HIP.out _ _ _ _ _ _ _ _ _ _ HV0_wc2.out HW0.out rfl HV1_wc2.out HW1.out rfl HV2.out HW2.out rfl  ).mono ?_; rintro e w13 ⟨⟨v13, rfl, hv13⟩, hl⟩; refine Hid.out ?_)
  refine Lib.hid ?_
  obtain ⟨g13, c13, hve13, hss13⟩ := hv13
  subst hve13
  have B_w13 : Below w.heap.size w w13 := (B_wc2).trans (hl.mono (B_wc2).size)
  have C_w13 : Below w3.heap.size w3 w13 := (C_wc2).trans (hl.mono (C_wc2).size)
  have HK_w13 : Hid (ty.SrcAc none w13 (some ⟨g5, 0, none⟩) (ty.mkAc 1 rs)) := HK_wc2.out.below hl
  have HQ13 : Hid (ty.SrcAc none w13 (some ⟨g13, 0, none⟩) rs) := hss13.src
  clear hl hss13 HV0_wc2 HV1_wc2 HV2
  go_wp2_with (go_at_call 21; refine (ty.eqAc_any _ _ _ _ rs _ HQ13.out (HP.out _ C_w13) HRL1.out).mono ?_; rintro e w14 ⟨rfl, hl⟩; refine Hid.out ?_)
  refine Lib.hid ?_
  have B_w14 : Below w.heap.size w w14 := (B_w13).trans (hl.mono (B_w13).size)
  have C_w14 : Below w3.heap.size w3 w14 := (C_w13).trans (hl.mono (C_w13).size)
  have HK_w14 : Hid (ty.SrcAc none w14 (some ⟨g5, 0, none⟩) (ty.mkAc 1 rs)) := HK_w13.out.below hl
  clear hl
  go_wp2_with (go_at_call 23; refine (HHD.out _ HK_w14.out).mono ?_; rintro e w15 ⟨rfl, hl⟩; refine Hid.out ?_)
  refine Lib.hid ?_
  have B_w15 : Below w.heap.size w w15 := (B_w14).trans (hl.mono (B_w14).size)
  have C_w15 : Below w3.heap.size w3 w15 := (C_w14).trans (hl.mono (C_w14).size)
  have HK_w15 : Hid (ty.SrcAc none w15 (some ⟨g5, 0, none⟩) (ty.mkAc 1 rs)) := HK_w14.out.below hl
  clear hl
  go_wp2
  go_ret
  exact ⟨rfl, B_w15⟩

end Go.Proofs.Ytdddplhfhpghkaa.hp

