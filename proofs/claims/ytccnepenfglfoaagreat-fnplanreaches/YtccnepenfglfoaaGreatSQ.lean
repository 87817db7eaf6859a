import Derived.Test.YtccnepenfglfoaaGreatSP
import Derived.Test.YtccnepenfglfoaaGreatRA
namespace Go.Proofs.YtccnepenfglfoaaGreat.fw
open Go.ChangeShapes Go.WideShapes Go.ChangeAt Go.RowKit Go.Deep Go.Maps
open fa (Us uNo nmL nds aw aws txL sfind_any)
set_option linter.unusedVariables false
set_option linter.unusedSimpArgs false

/-- What both answer. -/
def soA (us : List ty.Un) : List (List UInt8) := if un.usB us = true then soN us us.length else []
def soB (us : List ty.Un) : Bool := if un.usB us = true then decide ((soN us us.length).length = us.length) else false

set_option maxRecDepth 100000 in
set_option maxHeartbeats 8000000 in
theorem sso_any (md : Option Nat) (a : Option Addr) (c : Nat) (us : List ty.Un) (w : World) (hb : ty.SrcUn md w a us) (hw : ty.wtUn us ≤ 1048576) :
    Calls Tryz.prog 10 #[.slice a us.length c] w fun e w' => (∃ v, e = .returned (.tuple #[v, .bool (soB us)]) ∧ sr.OwnS w.heap.size w' v (soA us)) ∧ Below w.heap.size w w' := by
  have hn := ty.wtUn_len us
  obtain ⟨W0, hW0⟩ : ∃ W0, W0 = w.alloc (.cells #[] 9) := ⟨_, rfl⟩
  have HW0 : Hid (W0 = w.alloc (.cells #[] 9)) := hW0
  have HB0 : Hid (Below w.heap.size w W0) := by show Below _ _ _; rw [hW0]; exact (Below.refl _ _).alloc (Nat.le_refl _) _
  have HO0 : Hid (sr.OwnS w.heap.size W0 (.slice (some ⟨w.heap.size, 0, none⟩) 0 0) []) := by show sr.OwnS _ _ _ _; rw [hW0]; exact ⟨sr.own_zero w, sr.not_nil _ _ _⟩
  have HUO : Hid (Calls Tryz.prog 7 #[.slice a us.length c] W0 fun e w' => e = .returned (.bool (un.usB us)) ∧ Below W0.heap.size W0 w') := un.sunits_any a c us W0 (hb.any.below HB0.out) hw
  rw [hW0] at HUO
  clear hW0
  have own_below : ∀ {B : Nat} {W W' : World} {v : Value} {l : List (List UInt8)}, sr.OwnS B W v l → Below W.heap.size W W' → sr.OwnS B W' v l := fun {B W W' v l} h hb' => ⟨h.1.kept (row := none) ⟨hb'.os, hb'.tape, hb'.output, hb'.size, fun j hj _ => hb'.block j hj⟩ (by cases v.ownBlock <;> simp), h.2⟩
  have HOB : Hid (∀ {B : Nat} {W W' : World} {v : Value} {l : List (List UInt8)}, sr.OwnS B W v l → Below W.heap.size W W' → sr.OwnS B W' v l) := own_below
  clear own_below
  cases hu : un.usB us with
  | false =>
    rw [hu] at HUO
    have HA : Hid (soA us = [] ∧ soB us = false) := ⟨by unfold soA; rw [if_neg (by rw [hu]; decide)], by unfold soB; rw [if_neg (by rw [hu]; decide)]⟩
    rw [HA.out.1, HA.out.2]
    go_enter Tryz.func10, Tryz.ntmps10
    go_wp2_with (go_at_call 7; refine (HUO.out).mono ?_; rintro e w1 ⟨rfl, hl1⟩; rw [← HW0.out] at hl1)
    go_ret2
    exact ⟨⟨_, rfl, HOB.out HO0.out hl1⟩, HB0.out.trans (hl1.mono HB0.out.size)⟩
  | true =>
    rw [hu] at HUO
    have hU := ua_of hu
    have HU := Lib.hid hU
    have HA : Hid (soA us = soN us us.length ∧ soB us = decide ((soN us us.length).length = us.length)) := ⟨by unfold soA; rw [if_pos hu], by unfold soB; rw [if_pos hu]⟩
    rw [HA.out.1, HA.out.2]
    have HSL : Hid (∀ k, (soN us k).length ≤ k) := soN_len us
    have HS1 : Hid (∀ k, soN us (k + 1) = so1 us (soN us k)) := fun k => rfl
    have HIT : Hid (∀ (i : Nat) (u : ty.Un), us[i]? = some u → ∃ b o d1 e1 d2 e2, a = some ⟨b, o, none⟩ ∧ ∀ W, Below w.heap.size w W → (W.cell? ⟨b, o + i * 5, none⟩ = some (.string u.fName) ∧ W.cell? ⟨b, o + i * 5 + 1, none⟩ = some (.slice d1 u.fAfter.length e1) ∧ W.cell? ⟨b, o + i * 5 + 2, none⟩ = some (.slice d2 u.fNeeds.length e2) ∧ W.cell? ⟨b, o + i * 5 + 3, none⟩ = some (.string u.fExec) ∧ W.cell? ⟨b, o + i * 5 + 4, none⟩ = some (.bool u.fKeep)) ∧ ∀ (v : Value) (O : List (List UInt8)), sr.StrR W v O → Calls Tryz.prog 39 #[.slice a us.length c, .agg #[.string u.fName, .slice d1 u.fAfter.length e1, .slice d2 u.fNeeds.length e2, .string u.fExec, .bool u.fKeep], v] W fun e w' => e = .returned (.bool (nrd us O u)) ∧ Below W.heap.size W w') := fun i u hu => by
      have hbb := hb
      rcases hb with h | ⟨b, o, e, _, hc⟩
      · rw [h.2] at hu; simp at hu
      obtain ⟨d1, e1, d2, e2, q0, q1, q2, q3, q4, s1, s2, _⟩ := hc i u hu
      refine ⟨b, o, d1, e1, d2, e2, e, fun W h => ?_⟩
      have k : ∀ {q r v}, w.cell? ⟨q, r, none⟩ = some v → W.cell? ⟨q, r, none⟩ = some v := fun {q r v} h' => (h.cell (p := ⟨q, r, none⟩) (World.block_lt_of_cell? _ _ h')).trans h'
      refine ⟨⟨k q0, k q1, k q2, k q3, k q4⟩, fun v O hR => ready_any a c us u d1 e1 d2 e2 O v W (hbb.any.below h) (by omega) (HU.out.nds u (List.mem_of_getElem? hu)) (HU.out.aft u (List.mem_of_getElem? hu)) (fun j m hm => ?_) (fun j m hm => ?_) hR⟩
      · rcases s2 with h' | ⟨nb, no, e2', _, hc2⟩
        · rw [h'.2] at hm; simp at hm
        · exact ⟨nb, no, e2', k (hc2 j m hm)⟩
      · rcases s1 with h' | ⟨nb, no, e2', _, hc2⟩
        · rw [h'.2] at hm; simp at hm
        · exact ⟨nb, no, e2', k (hc2 j m hm)⟩
    have hn1 := hU.few
    obtain ⟨n, hnn⟩ : ∃ n, us.length = n := ⟨_, rfl⟩
    have HN : Hid (us.length = n) := hnn
    rw [hnn] at HUO HIT hn1 hn ⊢
    obtain ⟨L, hL⟩ : ∃ L, soN us n = L := ⟨_, rfl⟩
    have HLE : Hid (soN us n = L) := hL
    rw [hL]
    clear hb hw hu hU hnn HA hL
    go_enter Tryz.func10, Tryz.ntmps10
    go_wp2_with (go_at_call 7; refine (HUO.out).mono ?_; rintro e w1 ⟨rfl, hl1⟩; rw [← HW0.out] at hl1; refine Hid.out ?_)
    refine Lib.hid ?_
    have HO1 : Hid (sr.OwnS w.heap.size w1 (.slice (some ⟨w.heap.size, 0, none⟩) 0 0) (soN us 0)) := HOB.out HO0.out hl1
    have HB1 : Hid (Below w.heap.size w w1) := HB0.out.trans (hl1.mono HB0.out.size)
    clear hl1 HUO HO0 HB0 HW0
    go_wp2
    go_loopw [4, 5, 6] (fun v y _ wr => ∃ k : Nat, k ≤ n ∧ y = .int .i64 (k : Int) ∧ sr.OwnS w.heap.size wr v (soN us k) ∧ Below w.heap.size w wr) (fun _ y _ _ => n - (intOf y).toNat)
    case atStart => exact ⟨0, Nat.zero_le _, rfl, HO1.out, HB1.out⟩
    case round =>
      obtain ⟨k, hk, rfl, hown, hbel⟩ := hrel
      have HOW := Lib.hid hown
      have HBE := Lib.hid hbel
      have HKL := Lib.hid (HSL.out k)
      have HSK := Lib.hid (HS1.out k)
      clear hown hbel HO1 HB1
      by_cases hkl : k < n
      · have hkl' : (k : Int) < (n : Int) := by omega
        obtain ⟨O, hO⟩ : ∃ O, soN us k = O := ⟨_, rfl⟩
        rw [hO] at HOW HKL HSK
        clear hO
        go_wp2
        go_loopw [4, 6] (fun v y wx => ∃ i : Nat, i ≤ n ∧ y = .int .i64 (i : Int) ∧ (∀ (j : Nat) (x : ty.Un), j < i → us[j]? = some x → can us O x = false) ∧ sr.OwnS w.heap.size wx v O ∧ Below w.heap.size w wx) (fun _ y _ => n - (intOf y).toNat)
        case atStart => exact ⟨0, Nat.zero_le _, rfl, fun j x h => by omega, HOW.out, HBE.out⟩
        case round =>
          obtain ⟨i, hi, rfl, hno, hown, hbel⟩ := hrel
          have HNO := Lib.hid hno
          have HO2 := Lib.hid hown
          have HB2 := Lib.hid hbel
          have hws := hbel.size
          clear hno hown HOW HBE
          by_cases hil : i < n
          · have hil' : (i : Int) < (n : Int) := by omega
            have hi0 : (0 : Int) ≤ (i : Int) := by omega
            obtain ⟨u, hu⟩ : ∃ u, us[i]? = some u := ⟨_, List.getElem?_eq_getElem (by rw [HN.out]; exact hil)⟩
            obtain ⟨b, o, d1, e1, d2, e2, rfl, hc⟩ := HIT.out i u hu
            obtain ⟨⟨q0, q1, q2, q3, q4⟩, hrd⟩ := hc wr hbel
            have HRD := Lib.hid (hrd u4 O HO2.out.row)
            have HHS := Lib.hid (sr.l3has_any O u4 u.fName wr HO2.out.row)
            have HNX : Hid (can us O u = false → ∀ (j : Nat) (x : ty.Un), j < i + 1 → us[j]? = some x → can us O x = false) := fun h0 j x hj hx => by
              rcases Nat.lt_or_ge j i with h | h
              · exact HNO.out j x h hx
              · obtain rfl : j = i := by omega
                rw [hu] at hx
                cases hx
                exact h0
            have HYE : Hid (can us O u = true → soN us (k + 1) = O ++ [u.fName.data.toList]) := fun h0 => by rw [HSK.out]; exact so1_yes hu h0 HNO.out
            have HCN : Hid (∀ b1 b2 : Bool, decide (u.fName.data.toList ∈ O) = b1 → nrd us O u = b2 → can us O u = (!b1 && b2)) := fun b1 b2 h1 h2 => by unfold can; rw [show nmL u = u.fName.data.toList from rfl, h1, h2]
            obtain ⟨P, hP⟩ : ∃ P, u.fName = P := ⟨_, rfl⟩
            rw [hP] at q0 HRD HHS HYE HCN
            obtain ⟨ml, hmm⟩ : ∃ q, u.fNeeds.length = q := ⟨_, rfl⟩
            rw [hmm] at q2 HRD
            obtain ⟨al, hal⟩ : ∃ q, u.fAfter.length = q := ⟨_, rfl⟩
            rw [hal] at q1 HRD
            obtain ⟨xe, hxe⟩ : ∃ q, u.fExec = q := ⟨_, rfl⟩
            rw [hxe] at q3 HRD
            obtain ⟨kp, hkp⟩ : ∃ q, u.fKeep = q := ⟨_, rfl⟩
            rw [hkp] at q4 HRD
            clear hu hc hrd hP hmm hal hxe hkp hbel
            cases h1 : decide (P.data.toList ∈ O) with
            | true =>
              rw [h1] at HHS
              have HN2 := Lib.hid (HNX.out (by rw [HCN.out _ _ h1 rfl]; simp))
              clear h1 HRD HNX HYE HCN
              go_wp2_with (go_at_call 38; refine HHS.out.mono ?_; rintro e w2 ⟨rfl, rfl⟩)
              go_roundw
              case rel => exact ⟨i + 1, by omega, by go_num, HN2.out, HO2.out, HB2.out⟩
              case measure => simp [intOf]; omega
            | false =>
              rw [h1] at HHS
              cases h2 : nrd us O u with
              | false =>
                rw [h2] at HRD
                have HN2 := Lib.hid (HNX.out (by rw [HCN.out _ _ h1 h2]; rfl))
                clear h1 h2 HNX HYE HCN
                go_wp2_with (first
                  | (go_at_call 38; refine HHS.out.mono ?_; rintro e w2 ⟨rfl, hw2⟩; obtain rfl := hw2.symm; clear hw2)
                  | (go_at_call 39; refine HRD.out.mono ?_; rintro e w3 ⟨rfl, hl3⟩))
                go_roundw
                case rel => exact ⟨i + 1, by omega, by go_num, HN2.out, HOB.out HO2.out hl3, HB2.out.trans (hl3.mono HB2.out.size)⟩
                case measure => simp [intOf]; omega
              | true =>
                rw [h2] at HRD
                have HE := Lib.hid (HYE.out (by rw [HCN.out _ _ h1 h2]; rfl))
                clear h1 h2 HNX HYE HCN
                go_wp2_with (first
                  | (go_at_call 38; refine HHS.out.mono ?_; rintro e w2 ⟨rfl, hw2⟩; obtain rfl := hw2.symm; clear hw2)
                  | (go_at_call 39; refine HRD.out.mono ?_; rintro e w3 ⟨rfl, hl3⟩; refine Hid.out ?_))
                refine Lib.hid ?_
                have HO3 := Lib.hid (HOB.out HO2.out hl3)
                have HB3 := Lib.hid (HB2.out.trans (hl3.mono HB2.out.size))
                have q0' : w3.cell? ⟨b, o + i * 5, none⟩ = some (.string P) := (hl3.cell (p := ⟨b, o + i * 5, none⟩) (World.block_lt_of_cell? _ _ q0)).trans q0
                have HOA : Hid ((w3.alloc (.cells #[.string P] 9)).ownsRow w.heap.size 9 1 u4 O.length (O.map sr.strL)) := HO3.out.1.alloc _
                have HNW : Hid (∀ j z, ([P.data.toList].map sr.strL)[j]? = some z → (w3.alloc (.cells #[.string P] 9)).cell? ((⟨w3.heap.size, 0, none⟩ : Addr).add j) = some z) := by
                  show ∀ j z, _ → _
                  rw [List.map_singleton, sr.strL_of]
                  exact one_new w3 _ 9
                have hbs : w.heap.size ≤ (w3.alloc (.cells #[.string P] 9)).heap.size := by have := HB3.out.size; simp; omega
                have hol : O.length + 1 ≤ 1000000 := by have := HKL.out; omega
                clear hl3 q0 q1 q2 q3 q4 HRD HHS
                go_wp2_with (at_builtin; refine sr.app_str _ rfl _ _ rfl w.heap.size _ O rfl HOA.out HO3.out.2 ⟨w3.heap.size, 0, none⟩ 1 1 [P.data.toList] rfl rfl HNW.out hol hbs ?_; intro v5 w5 hown5 hv5 hg5; refine Hid.out ?_)
                refine Lib.hid ?_
                have HO5 : Hid (sr.OwnS w.heap.size w5 v5 (soN us (k + 1))) := by show sr.OwnS _ _ _ _; rw [HE.out]; exact ⟨hown5, hv5⟩
                have HB5 : Hid (Below w.heap.size w w5) := (HB3.out.alloc HB3.out.size _).grown hg5 hbs (fun q hq => (HOA.out.lt q hq).1)
                clear hown5 hv5 hg5 hbs HOA HNW
                go_wp2
                go_roundw
                case rel => exact ⟨k + 1, by omega, by go_num, HO5.out, HB5.out⟩
                case measure => simp [intOf]; omega
          · have hil' : ¬ (i : Int) < (n : Int) := by omega
            obtain rfl : i = n := by omega
            have HE : Hid (soN us (k + 1) = O) := by
              show _ = _
              rw [HSK.out]
              exact so1_no fun j x hx => HNO.out j x (by have := (List.getElem?_eq_some_iff.1 hx).1; rw [HN.out] at this; exact this) hx
            clear hbel
            go_wp2
            go_roundw
            case rel => exact ⟨k + 1, by omega, by go_num, by rw [HE.out]; exact HO2.out, HB2.out⟩
            case measure => simp [intOf]; omega
      · have hkl' : ¬ (k : Int) < (n : Int) := by omega
        obtain rfl : k = n := by omega
        rw [HLE.out] at HOW HKL
        obtain ⟨g, cp, hv, _⟩ : ∃ g cp, u4 = .slice (some ⟨g, 0, none⟩) L.length cp ∧ True := by
          rcases HOW.out.1.2 with ⟨e, _⟩ | ⟨g, cp, cur, e, _⟩
          · exact absurd e HOW.out.2
          · exact ⟨g, cp, e, trivial⟩
        subst hv
        have hdd : ((L.length : Int) == (k : Int)) = decide (L.length = k) := by rw [Bool.eq_iff_iff, beq_iff_eq, decide_eq_true_eq]; omega
        go_wp2
        go_ret2
        exact ⟨⟨_, by first | rfl | (simp; exact hdd), HOW.out⟩, HBE.out⟩

end Go.Proofs.YtccnepenfglfoaaGreat.fw
