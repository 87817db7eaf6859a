import Derived.Test.YtajpfidgepebgaaG16
import Derived.Shelf.Bits.Mul64
import Derived.Test.YtajpfidgepebgaaProg
import Derived.Test.YtajpfidgepebgaaG05
import Derived.Laws.CopyRow
import Derived.Laws.CopyOwn
namespace Go.Proofs.Ytajpfidgepebgaa.cy
open Go.ChangeShapes Go.WideShapes Go.ChangeAt Go.RowKit Go.Deep Go.Maps
open fa (Us uNo nmL nds aw aws aw_mem aw_len aw_le aw_asc nAt nAt_some uNo_yes uNo_get uNo_le)
open fw (Ua ua_of)
open hp (ownS_below own_str bA)
set_option linter.unusedVariables false
set_option linter.unusedSimpArgs false

/-! ### spec.Cycle: the walk -/

def lenV : Value → Nat
  | .slice _ l _ => l
  | _ => 0
theorem oI_eq {r : Option Nat} {k : Nat} (h : r ≠ some k) : ¬ oI r = (k : Int) := fun e => by
  cases r with
  | none => rw [oI_none] at e; omega
  | some m => rw [oI_some] at e; exact h (by congr 1; omega)

set_option maxRecDepth 100000 in
set_option maxHeartbeats 16000000 in
theorem scy_any (a : Option Addr) (c : Nat) (us : List ty.Un) (w : World) (hb : ty.SrcUn none w a us) (hw : ty.wtUn us ≤ 1048576) :
    Calls Try.prog 9 #[.slice a us.length c] w fun e w' => (∃ v, e = .returned v ∧ sr.OwnS w.heap.size w' v (cyA us)) ∧ Below w.heap.size w w' := by
  obtain ⟨W0, hW0⟩ : ∃ W0, W0 = w.alloc (.cells #[] 9) := ⟨_, rfl⟩
  have HW0 : Hid (W0 = w.alloc (.cells #[] 9)) := hW0
  have HB0 : Hid (Below w.heap.size w W0) := by show Below _ _ _; rw [hW0]; exact (Below.refl _ _).alloc (Nat.le_refl _) _
  have HO0 : Hid (sr.OwnS w.heap.size W0 (.slice (some ⟨w.heap.size, 0, none⟩) 0 0) []) := by show sr.OwnS _ _ _ _; rw [hW0]; exact ⟨sr.own_zero w, sr.not_nil _ _ _⟩
  have HUO : Hid (Calls Try.prog 8 #[.slice a us.length c] W0 fun e w' => e = .returned (.bool (un.usB us)) ∧ Below W0.heap.size W0 w') := un.sunits_any a c us W0 (hb.any.below HB0.out) hw
  rw [hW0] at HUO
  clear hW0
  cases hu : un.usB us with
  | false =>
    rw [hu] at HUO
    have HA : Hid (cyA us = []) := by show _ = _; unfold cyA; rw [if_neg (by rw [hu]; decide)]
    rw [HA.out]
    go_enter Try.func9, Try.ntmps9
    go_wp2_with (go_at_call 8; refine (HUO.out).mono ?_; rintro e w1 ⟨rfl, hl1⟩; rw [← HW0.out] at hl1)
    go_ret
    exact ⟨⟨_, rfl, ownS_below HO0.out hl1⟩, HB0.out.trans (hl1.mono HB0.out.size)⟩
  | true =>
    rw [hu] at HUO
    have hU := ua_of hu
    have HU := Lib.hid hU
    have hfew := hU.few
    have HA : Hid (cyA us = (cyN us us.length).map (nAt us)) := by show _ = _; unfold cyA; rw [if_pos hu]
    rw [HA.out]
    have HRD : Hid (∀ (s : Nat) (W : World), s < us.length → Below w.heap.size w W → Calls Try.prog 26 #[.slice a us.length c, .int .i64 (s : Int)] W fun e w' => e = .returned (.int .i64 (rd us s : Int)) ∧ Below W.heap.size W w') := fun s W hs h => round_any a c us s W (hb.any.below h) hU hs
    have HST : Hid (∀ (i s : Nat) (W : World), i < us.length → s < us.length → Below w.heap.size w W → Calls Try.prog 28 #[.slice a us.length c, .int .i64 (i : Int), .int .i64 (s : Int)] W fun e w' => e = .returned (.int .i64 (oI (ds us i s))) ∧ Below W.heap.size W w') := fun i s W hi hs h => steps_any a c us i s W (hb.any.below h) hU hi hs
    have HIT : Hid (∀ (i : Nat) (u : ty.Un), us[i]? = some u → ∃ b o d1 e1 d2 e2, a = some ⟨b, o, none⟩ ∧ ∀ W, Below w.heap.size w W → (W.cell? ⟨b, o + i * 5, none⟩ = some (.string u.fName) ∧ W.cell? ⟨b, o + i * 5 + 1, none⟩ = some (.slice d1 u.fAfter.length e1) ∧ W.cell? ⟨b, o + i * 5 + 2, none⟩ = some (.slice d2 u.fNeeds.length e2) ∧ W.cell? ⟨b, o + i * 5 + 3, none⟩ = some (.string u.fExec) ∧ W.cell? ⟨b, o + i * 5 + 4, none⟩ = some (.bool u.fKeep)) ∧ ∀ t : ByteArray, Calls Try.prog 27 #[.slice a us.length c, .agg #[.string u.fName, .slice d1 u.fAfter.length e1, .slice d2 u.fNeeds.length e2, .string u.fExec, .bool u.fKeep], .string t] W fun e w' => e = .returned (.bool (wtB us u t.data.toList)) ∧ Below W.heap.size W w') := fun i u hu => by
      have hbb := hb
      rcases hb with h | ⟨b, o, e, _, hc⟩
      · rw [h.2] at hu; simp at hu
      obtain ⟨d1, e1, d2, e2, q0, q1, q2, q3, q4, s1, s2, _⟩ := hc i u hu
      refine ⟨b, o, d1, e1, d2, e2, e, fun W h => ?_⟩
      have k : ∀ {q r v}, w.cell? ⟨q, r, none⟩ = some v → W.cell? ⟨q, r, none⟩ = some v := fun {q r v} h' => (h.cell (p := ⟨q, r, none⟩) (World.block_lt_of_cell? _ _ h')).trans h'
      exact ⟨⟨k q0, k q1, k q2, k q3, k q4⟩, fun t => waits_any a c us u d1 e1 d2 e2 t W (hbb.any.below h) hU.toUs (s1.below h) (s2.below h) (hU.aft u (List.mem_of_getElem? hu)) (hU.nds u (List.mem_of_getElem? hu))⟩
    have HWT : Hid (∀ (u : ty.Un) (x i : Nat), us[x]? = some u → i < us.length → wtB us u (nAt us i) = decide (i ∈ ed us x)) := fun u x i hu hi => by rw [wtB_is hU.toUs hi, ed_some hu]
    obtain ⟨n, hn⟩ : ∃ n, us.length = n := ⟨_, rfl⟩
    have HN : Hid (us.length = n) := hn
    rw [hn] at HUO HRD HST HIT HWT hfew ⊢
    have HSY : Hid (∀ k, 0 < rd us k ∧ ((sc us k).1 = 0 ∨ rd us k < (sc us k).1) → (sc us (k + 1)).1 = rd us k ∧ stV us (k + 1) = (k : Int)) := fun k h => sc_yes h
    have HSN : Hid (∀ k, ¬ (0 < rd us k ∧ ((sc us k).1 = 0 ∨ rd us k < (sc us k).1)) → (sc us (k + 1)).1 = (sc us k).1 ∧ stV us (k + 1) = stV us k) := fun k h => sc_no h
    have HSL : Hid (∀ k, (sc us k).1 ≤ 200) := sc_le us
    have HRL : Hid (∀ k, rd us k ≤ 200) := rd_le us
    clear hb hw hu hU hn HA
    go_enter Try.func9, Try.ntmps9
    go_wp2_with (go_at_call 8; refine (HUO.out).mono ?_; rintro e w1 ⟨rfl, hl1⟩; rw [← HW0.out] at hl1; refine Hid.out ?_)
    refine Lib.hid ?_
    have HO1 : Hid (sr.OwnS w.heap.size w1 (.slice (some ⟨w.heap.size, 0, none⟩) 0 0) []) := ownS_below HO0.out hl1
    have HB1 : Hid (Below w.heap.size w w1) := HB0.out.trans (hl1.mono HB0.out.size)
    clear hl1 HUO HO0 HB0 HW0
    go_wp2
    go_loopw [4, 5, 6, 7] (fun u4 u5 y _ wr => ∃ i : Nat, i ≤ n ∧ y = .int .i64 (i : Int) ∧ u4 = .int .i64 (stV us i) ∧ u5 = .int .i64 ((sc us i).1 : Int) ∧ sr.OwnS w.heap.size wr (.slice (some ⟨w.heap.size, 0, none⟩) 0 0) [] ∧ Below w.heap.size w wr) (fun _ _ y _ _ => n - (intOf y).toNat)
    case atStart => exact ⟨0, Nat.zero_le _, rfl, rfl, rfl, HO1.out, HB1.out⟩
    case round =>
      obtain ⟨i, hi, rfl, rfl, rfl, hown, hbe⟩ := hrel
      have HOW := Lib.hid hown
      have HBE := Lib.hid hbe
      clear hown hbe HO1 HB1
      by_cases hil : i < n
      · have hil' : (i : Int) < (n : Int) := by omega
        have hi0 : (0 : Int) ≤ (i : Int) := by omega
        have hwi : IntKind.i64.wrap ((i : Int) + 1) = (i : Int) + 1 := by rw [IntKind.wrap_i64]; omega
        have HC := Lib.hid (HRD.out i wr hil HBE.out)
        have HY := Lib.hid (HSY.out i)
        have HNN := Lib.hid (HSN.out i)
        obtain ⟨k, hk⟩ : ∃ k, rd us i = k := ⟨_, rfl⟩
        obtain ⟨m, hm⟩ : ∃ m, (sc us i).1 = m := ⟨_, rfl⟩
        obtain ⟨sv, hsv⟩ : ∃ m, stV us i = m := ⟨_, rfl⟩
        rw [hk] at HC HY HNN
        rw [hm] at HY HNN
        rw [hsv] at HNN
        rw [hm, hsv]
        clear hk hm hsv
        have HX : Hid (∀ (W : World), Below wr.heap.size wr W → sr.OwnS w.heap.size W (.slice (some ⟨w.heap.size, 0, none⟩) 0 0) [] ∧ Below w.heap.size w W) := fun W h => ⟨ownS_below HOW.out h, HBE.out.trans (h.mono HBE.out.size)⟩
        by_cases hk0 : 0 < k
        · have hk1 : (0 : Int) < (k : Int) := by omega
          by_cases hm0 : m = 0
          · have HE := Lib.hid (HY.out ⟨hk0, .inl hm0⟩)
            subst hm0
            clear HY HNN
            go_wp2_with (go_at_call 26; refine HC.out.mono ?_; rintro e w2 ⟨rfl, hl2⟩)
            go_roundw
            case rel => exact ⟨i + 1, by omega, by go_num, by rw [HE.out.2], by rw [HE.out.1], HX.out w2 hl2⟩
            case measure => (simp [intOf] <;> omega)
          · have hm1 : ((m : Int) == 0) = false := by simp; omega
            have hm2 : ¬ (m : Int) = 0 := by omega
            by_cases hkm : k < m
            · have hkm' : (k : Int) < (m : Int) := by omega
              have HE := Lib.hid (HY.out ⟨hk0, .inr hkm⟩)
              clear HY HNN
              go_wp2_with (go_at_call 26; refine HC.out.mono ?_; rintro e w2 ⟨rfl, hl2⟩)
              go_roundw
              case rel => exact ⟨i + 1, by omega, by go_num, by rw [HE.out.2], by rw [HE.out.1], HX.out w2 hl2⟩
              case measure => (simp [intOf] <;> omega)
            · have hkm' : ¬ (k : Int) < (m : Int) := by omega
              have hkm2 : decide ((k : Int) < (m : Int)) = false := decide_eq_false hkm'
              have HE := Lib.hid (HNN.out fun h => by rcases h.2 with e | e <;> omega)
              clear HY HNN
              go_wp2_with (go_at_call 26; refine HC.out.mono ?_; rintro e w2 ⟨rfl, hl2⟩)
              go_roundw
              case rel => exact ⟨i + 1, by omega, by go_num, by rw [HE.out.2], by rw [HE.out.1], HX.out w2 hl2⟩
              case measure => (simp [intOf] <;> omega)
        · have hk1 : ¬ (0 : Int) < (k : Int) := by omega
          have HE := Lib.hid (HNN.out fun h => hk0 h.1)
          clear HY HNN
          go_wp2_with (go_at_call 26; refine HC.out.mono ?_; rintro e w2 ⟨rfl, hl2⟩)
          go_roundw
          case rel => exact ⟨i + 1, by omega, by go_num, by rw [HE.out.2], by rw [HE.out.1], HX.out w2 hl2⟩
          case measure => (simp [intOf] <;> omega)
      · have hil' : ¬ (i : Int) < (n : Int) := by omega
        obtain rfl : n = i := by omega
        have hml := HSL.out n
        obtain ⟨s, hs⟩ : ∃ s, (sc us n).2 = s := ⟨_, rfl⟩
        obtain ⟨m, hm⟩ : ∃ m, (sc us n).1 = m := ⟨_, rfl⟩
        have HCN : Hid (cyN us n = chn us s m s) := by show chn us _ _ _ = _; rw [hs, hm]
        have HLN : Hid ((chn us s m s).length = m) := chn_len us s m s
        have HSV : Hid (0 < m → stV us n = (s : Int) ∧ At us s m 0 s) := fun h => by
          have h1 := at_first (us := us) (k := n) (by rw [HN.out]; exact Nat.le_refl _) (by rw [hm]; exact h)
          rw [hs, hm] at h1
          refine ⟨?_, h1⟩
          unfold stV
          rw [hm, hs, if_neg (by omega)]
        rw [hm] at hml
        rw [hm]
        have HAG : Hid (∀ q at', At us s m q at' → q < m → (chn us s m s)[q]? = some at') := fun q at' h h2 => at_get h h2
        have HAX : Hid (∀ q at', 0 < m → At us s m q at' → q + 1 < m → At us s m (q + 1) (nx us s at' (m - q - 1))) := fun q at' h0 h h2 => at_next (HSV.out h0).2.2.2 h h2
        have HSLT : Hid (0 < m → s < n) := fun h => by have := (HSV.out h).2.2.2; rw [HN.out] at this; exact this
        clear hs hm HSY HSN HSL HRL HRD
        obtain ⟨sv, hsv⟩ : ∃ q, stV us n = q := ⟨_, rfl⟩
        rw [hsv] at HSV ⊢
        clear hsv
        go_wp2
        go_loopw [3, 8, 9, 10] (fun v v8 _ _ wr => ∃ q : Nat, q ≤ m ∧ sr.OwnS w.heap.size wr v (((chn us s m s).take q).map (nAt us)) ∧ Below w.heap.size w wr ∧ (q < m → ∃ at' : Nat, v8 = .int .i64 (at' : Int) ∧ At us s m q at')) (fun v _ _ _ _ => m - lenV v)
        case atStart => exact ⟨0, Nat.zero_le _, HOW.out, HBE.out, fun h => ⟨s, by rw [(HSV.out h).1], (HSV.out h).2⟩⟩
        case round =>
          obtain ⟨q, hq, hown, hbe, hat⟩ := hrel
          have HO2 := Lib.hid hown
          have HB2 := Lib.hid hbe
          obtain ⟨g, cap, hv, _⟩ := own_str hown
          have hlq : (((chn us s m s).take q).map (nAt us)).length = q := by rw [List.length_map, List.length_take, HLN.out]; omega
          rw [hlq] at hv
          subst hv
          clear hown hbe HOW HBE
          by_cases hqm : q < m
          · have hqm' : (q : Int) < (m : Int) := by omega
            obtain ⟨at', rfl, hAt⟩ := hat hqm
            have HAT := Lib.hid hAt
            have hatn : at' < n := by have := hAt.2.2; rw [HN.out] at this; exact this
            have hat0 : (0 : Int) ≤ (at' : Int) := by omega
            have hatn' : (at' : Int) < (n : Int) := by omega
            obtain ⟨u, hu⟩ : ∃ u, us[at']? = some u := ⟨_, List.getElem?_eq_getElem (by rw [HN.out]; exact hatn)⟩
            obtain ⟨b, o, d1, e1, d2, e2, rfl, hcu⟩ := HIT.out at' u hu
            have HCU := Lib.hid hcu
            have q0 := (hcu wr HB2.out).1.1
            have HWU : Hid (∀ i, i < n → wtB us u (nAt us i) = decide (i ∈ ed us at')) := fun i hi => HWT.out u at' i hu hi
            have HE : Hid (((chn us s m s).take q).map (nAt us) ++ [u.fName.data.toList] = ((chn us s m s).take (q + 1)).map (nAt us)) := by
              show _ = _
              rw [List.take_add_one, HAG.out q at' hAt hqm, Option.toList_some, List.map_append, List.map_singleton, nAt_some hu]
              rfl
            obtain ⟨P0, hP0⟩ : ∃ P, u.fName = P := ⟨_, rfl⟩
            rw [hP0] at q0 HE
            have HOA : Hid ((wr.alloc (.cells #[.string P0] 9)).ownsRow w.heap.size 9 1 (.slice (some ⟨g, 0, none⟩) q cap) (((chn us s m s).take q).map (nAt us)).length ((((chn us s m s).take q).map (nAt us)).map sr.strL)) := HO2.out.1.alloc _
            have HNW : Hid (∀ j z, ([P0.data.toList].map sr.strL)[j]? = some z → (wr.alloc (.cells #[.string P0] 9)).cell? ((⟨wr.heap.size, 0, none⟩ : Addr).add j) = some z) := by
              show ∀ j z, _ → _
              rw [List.map_singleton, sr.strL_of]
              exact one_new wr _ 9
            have hbs : w.heap.size ≤ (wr.alloc (.cells #[.string P0] 9)).heap.size := by have := HB2.out.size; simp; omega
            clear hu hcu hAt hP0 hat
            go_wp2_with (at_builtin; refine sr.app_str _ rfl _ _ rfl w.heap.size _ (((chn us s m s).take q).map (nAt us)) rfl HOA.out HO2.out.2 ⟨wr.heap.size, 0, none⟩ 1 1 [P0.data.toList] rfl rfl HNW.out (by omega) hbs ?_; intro v5 w5 hown5 hv5 hg5; refine Hid.out ?_)
            refine Lib.hid ?_
            have HO5 : Hid (sr.OwnS w.heap.size w5 v5 (((chn us s m s).take (q + 1)).map (nAt us))) := by show sr.OwnS _ _ _ _; rw [← HE.out]; exact ⟨hown5, hv5⟩
            have HB5 : Hid (Below w.heap.size w w5) := (HB2.out.alloc HB2.out.size _).grown hg5 hbs (fun z hz => (HOA.out.lt z hz).1)
            obtain ⟨g5, cap5, hv, _⟩ := own_str HO5.out
            have hl5 : (((chn us s m s).take (q + 1)).map (nAt us)).length = q + 1 := by rw [List.length_map, List.length_take, HLN.out]; omega
            rw [hl5] at hv
            subst hv
            obtain ⟨lc, hlc⟩ : ∃ lc, lc = q + 1 := ⟨_, rfl⟩
            rw [← hlc] at HO5 ⊢
            have HLC : Hid (lc = q + 1) := hlc
            obtain ⟨r, hr⟩ : ∃ r, m - q - 1 = r := ⟨_, rfl⟩
            have hmr : IntKind.i64.wrap ((m : Int) - (lc : Int)) = (r : Int) := by rw [IntKind.wrap_i64]; omega
            have HMN : Hid (Mn us s at' r) := by have h := HAT.out.2.1; rw [hr] at h; exact h
            have HAX1 : Hid (q + 1 < m → At us s m lc (nx us s at' r)) := fun h => by have := HAX.out q at' (by omega) HAT.out h; rw [hr] at this; rw [hlc]; exact this
            have hsn := HSLT.out (by omega)
            have hs0 : (0 : Int) ≤ (s : Int) := by omega
            have HNX : Hid (nx us s at' r < n) := by
              have h := ds_lt (nx_is HMN.out).2 (show s < us.length by rw [HN.out]; exact hsn)
              rw [HN.out] at h
              exact h
            have HMI : Hid (∀ j, j ∈ ed us at' → ds us j s = some r → (∀ z, z < j → z ∈ ed us at' → ds us z s ≠ some r) → nx us s at' r = j) := fun j h1 h2 h3 => nx_min HU.out h1 h2 h3
            have HMZ := Lib.hid (nx_is HMN.out)
            have HST1 : Hid (∀ (i : Nat) (W : World), i < n → Below w.heap.size w W → Calls Try.prog 28 #[.slice (some ⟨b, o, none⟩) n c, .int .i64 (i : Int), .int .i64 (s : Int)] W fun e w' => e = .returned (.int .i64 (oI (ds us i s))) ∧ Below W.heap.size W w') := fun i W hi h => HST.out i s W hi hsn h
            obtain ⟨X, hX⟩ : ∃ X, nx us s at' r = X := ⟨_, rfl⟩
            rw [hX] at HAX1 HNX HMI HMZ
            have hsve : sv = (s : Int) := (HSV.out (by omega)).1
            clear hown5 hv5 hg5 hbs HOA HNW hlc hr hX q0 hl5 HE
            subst hsve
            go_wp2
            obtain ⟨pn, hpn⟩ : ∃ P, u.fName = P := ⟨_, rfl⟩
            obtain ⟨al, hal⟩ : ∃ q, u.fAfter.length = q := ⟨_, rfl⟩
            obtain ⟨nl, hnl⟩ : ∃ q, u.fNeeds.length = q := ⟨_, rfl⟩
            obtain ⟨xe, hxe⟩ : ∃ q, u.fExec = q := ⟨_, rfl⟩
            obtain ⟨kp, hkp⟩ : ∃ q, u.fKeep = q := ⟨_, rfl⟩
            rw [hpn, hal, hnl, hxe, hkp] at HCU
            clear hpn hal hnl hxe hkp
            go_loopw [9, 10] (fun v9 y wx => ∃ i : Nat, i ≤ n ∧ y = .int .i64 (i : Int) ∧ sr.OwnS w.heap.size wx (.slice (some ⟨g5, 0, none⟩) lc cap5) (((chn us s m s).take lc).map (nAt us)) ∧ Below w.heap.size w wx ∧ ((v9 = .int .i64 (-1) ∧ ∀ z, z < i → z ∈ ed us at' → ds us z s ≠ some r) ∨ v9 = .int .i64 (X : Int))) (fun _ y _ => n - (intOf y).toNat)
            case atStart => exact ⟨0, Nat.zero_le _, rfl, HO5.out, HB5.out, .inl ⟨rfl, fun z hz => absurd hz (Nat.not_lt_zero z)⟩⟩
            case round =>
              obtain ⟨i, hi, rfl, hown, hbe, hnx⟩ := hrel
              have HO6 := Lib.hid hown
              have HB6 := Lib.hid hbe
              clear hown hbe HO5 HB5
              rcases hnx with ⟨rfl, hno⟩ | rfl
              · have HNO := Lib.hid hno
                clear hno
                by_cases hil : i < n
                · have hil' : (i : Int) < (n : Int) := by omega
                  have hi0 : (0 : Int) ≤ (i : Int) := by omega
                  have hwi : IntKind.i64.wrap ((i : Int) + 1) = (i : Int) + 1 := by rw [IntKind.wrap_i64]; omega
                  obtain ⟨x, hx⟩ : ∃ x, us[i]? = some x := ⟨_, List.getElem?_eq_getElem (by rw [HN.out]; exact hil)⟩
                  obtain ⟨b', o', _, _, _, _, hab, hci⟩ := HIT.out i x hx
                  cases hab
                  have hBd : Below w.heap.size w wr.drew := HB6.out.drew
                  obtain ⟨⟨q0, q1, q2, q3, q4⟩, hwc⟩ := HCU.out wr.drew hBd
                  have qi := (hci wr.drew hBd).1.1
                  have HWC := Lib.hid (hwc x.fName)
                  have hnm : x.fName.data.toList = nAt us i := (nAt_some hx).symm
                  rw [hnm, HWU.out i hil] at HWC
                  obtain ⟨P, hP⟩ : ∃ P, x.fName = P := ⟨_, rfl⟩
                  rw [hP] at qi HWC
                  have HKP : Hid (∀ W, Below wr.drew.heap.size wr.drew W → W.cell? ⟨b, o + at' * 5, none⟩ = some (.string pn) ∧ W.cell? ⟨b, o + at' * 5 + 1, none⟩ = some (.slice d1 al e1) ∧ W.cell? ⟨b, o + at' * 5 + 2, none⟩ = some (.slice d2 nl e2) ∧ W.cell? ⟨b, o + at' * 5 + 3, none⟩ = some (.string xe) ∧ W.cell? ⟨b, o + at' * 5 + 4, none⟩ = some (.bool kp) ∧ W.cell? ⟨b, o + i * 5, none⟩ = some (.string P)) := fun W h => by
                    have kk : ∀ {q r v}, wr.drew.cell? ⟨q, r, none⟩ = some v → W.cell? ⟨q, r, none⟩ = some v := fun {q r v} h' => (h.cell (p := ⟨q, r, none⟩) (World.block_lt_of_cell? _ _ h')).trans h'
                    exact ⟨kk q0, kk q1, kk q2, kk q3, kk q4, kk qi⟩
                  have hS0 := HKP.out wr.drew (Below.refl _ _)
                  have HBD := Lib.hid hBd
                  have HOD := Lib.hid (ownS_below HO6.out ((Below.refl _ _).drew))
                  clear q0 q1 q2 q3 q4 qi hwc hci hnm hP hx hBd
                  go_upto_region 20 with fail
                  refine wp_region_held_drew (S := fun W => W.cell? ⟨b, o + at' * 5, none⟩ = some (.string pn) ∧ W.cell? ⟨b, o + at' * 5 + 1, none⟩ = some (.slice d1 al e1) ∧ W.cell? ⟨b, o + at' * 5 + 2, none⟩ = some (.slice d2 nl e2) ∧ W.cell? ⟨b, o + at' * 5 + 3, none⟩ = some (.string xe) ∧ W.cell? ⟨b, o + at' * 5 + 4, none⟩ = some (.bool kp) ∧ W.cell? ⟨b, o + i * 5, none⟩ = some (.string P)) (by kernel_rfl) hS0 (fun hHeld => ?_)
                  clear hS0
                  iterate 10 (refine un 22 rfl ?_; try simp only [aP])
                  refine rq 10 rfl fun K hK => ?_
                  go_simp
                  (go_at_call 27; refine HWC.out.mono ?_; rintro e w2 ⟨rfl, hl2⟩)
                  try go_wp2_with fail
                  have HB7 := Lib.hid (HBD.out.trans (hl2.mono HBD.out.size))
                  have HL7 := Lib.hid hl2
                  have HO7 := Lib.hid (ownS_below HOD.out hl2)
                  refine hK.out _ _ (HKP.out w2 hl2) (fun hHeld2 => ?_)
                  clear hK K hl2 hHeld
                  try simp only [aP]
                  cases he : decide (i ∈ ed us at') with
                  | false =>
                    iterate 1 (refine un 22 rfl ?_; try simp only [aP])
                    iterate 9 (refine sn 22 rfl ?_; try simp only [aP])
                    iterate 1 (refine un 22 rfl ?_; try simp only [aP])
                    refine dq ?_
                    have HN2 : Hid (∀ z, z < i + 1 → z ∈ ed us at' → ds us z s ≠ some r) := fun z hz hze => by
                      rcases Nat.lt_or_ge z i with h | h
                      · exact HNO.out z h hze
                      · obtain rfl : z = i := by omega
                        exact absurd hze (of_decide_eq_false he)
                    clear hHeld2 he
                    go_wp2
                    go_roundw
                    case rel => exact ⟨i + 1, by omega, by go_num, HO7.out, HB7.out, .inl ⟨rfl, HN2.out⟩⟩
                    case measure => (simp [intOf] <;> omega)
                  | true =>
                    have HIE := Lib.hid (of_decide_eq_true he)
                    have HC8 := Lib.hid (HST1.out i w2 hil HB7.out)
                    clear he
                    iterate 4 (refine un 22 rfl ?_; try simp only [aP])
                    refine uq (i := 16) rfl ?_
                    try simp only [aP]
                    refine uq (i := 17) rfl ?_
                    try simp only [aP]
                    refine uq (i := 18) rfl ?_
                    try simp only [aP]
                    refine uq (i := 19) rfl ?_
                    try simp only [aP, hmr]
                    refine rq 15 rfl fun K hK => ?_
                    go_simp
                    (go_at_call 28; refine HC8.out.mono ?_; rintro e w3 ⟨rfl, hl3⟩)
                    try go_wp2_with fail
                    have HB8 := Lib.hid (HB7.out.trans (hl3.mono HB7.out.size))
                    have HO8 := Lib.hid (ownS_below HO7.out hl3)
                    refine hK.out _ _ (HKP.out w3 (HL7.out.trans (hl3.mono HL7.out.size))) (fun hHeld3 => ?_)
                    clear hK K hl3 hHeld2
                    try simp only [aP]
                    by_cases hdr : ds us i s = some r
                    · rw [hdr, oI_some]
                      iterate 2 (refine un 22 rfl ?_; try simp only [aP])
                      refine dq ?_
                      have hXi : X = i := HMI.out i HIE.out hdr HNO.out
                      clear hHeld3
                      go_wp2
                      go_roundw
                      case rel => exact ⟨i + 1, by omega, by go_num, HO8.out, HB8.out, .inr (by rw [hXi])⟩
                      case measure => (simp [intOf] <;> omega)
                    · have hne := oI_eq hdr
                      obtain ⟨Z, hZ⟩ : ∃ Z, oI (ds us i s) = Z := ⟨_, rfl⟩
                      rw [hZ] at hne ⊢
                      have hnb : (Z == (r : Int)) = false := by simpa using hne
                      iterate 2 (refine un 22 rfl ?_; try simp only [aP, hnb])
                      refine dq ?_
                      have HN2 : Hid (∀ z, z < i + 1 → z ∈ ed us at' → ds us z s ≠ some r) := fun z hz hze => by
                        rcases Nat.lt_or_ge z i with h | h
                        · exact HNO.out z h hze
                        · obtain rfl : z = i := by omega
                          exact hdr
                      clear hHeld3 hZ hdr
                      go_wp2
                      go_roundw
                      case rel => exact ⟨i + 1, by omega, by go_num, HO8.out, HB8.out, .inl ⟨rfl, HN2.out⟩⟩
                      case measure => (simp [intOf] <;> omega)
                · exact absurd HMZ.out.2 (HNO.out X (by have := HNX.out; omega) HMZ.out.1)
              · have hX0 : ¬ (X : Int) < 0 := by omega
                have hlcq : m - lc < m - q := by have := HLC.out; omega
                by_cases hil : (i : Int) < (n : Int)
                · go_wp2
                  go_roundw
                  case rel => exact ⟨lc, by have := HLC.out; omega, HO6.out, HB6.out, fun h => ⟨X, rfl, HAX1.out (by have := HLC.out; omega)⟩⟩
                  case measure => exact hlcq
                · go_wp2
                  go_roundw
                  case rel => exact ⟨lc, by have := HLC.out; omega, HO6.out, HB6.out, fun h => ⟨X, rfl, HAX1.out (by have := HLC.out; omega)⟩⟩
                  case measure => exact hlcq
          · have hqm' : ¬ (q : Int) < (m : Int) := by omega
            obtain rfl : m = q := by omega
            have HO3 : Hid (sr.OwnS w.heap.size wr (.slice (some ⟨g, 0, none⟩) m cap) ((chn us s m s).map (nAt us))) := by
              have h := HO2.out
              rwa [List.take_of_length_le (by rw [HLN.out]; exact Nat.le_refl _)] at h
            clear hat
            go_wp2
            go_ret
            exact ⟨⟨_, rfl, by rw [HCN.out]; exact HO3.out⟩, HB2.out⟩
end Go.Proofs.Ytajpfidgepebgaa.cy

namespace Go.Proofs.Ytajpfidgepebgaa.cy
open Go.ChangeShapes Go.WideShapes Go.ChangeAt Go.RowKit Go.Deep Go.Maps
set_option linter.unusedVariables false
set_option linter.unusedSimpArgs false

/-! ### ringFrom's closure leads, and slices.IndexFunc, ContainsFunc with it -/

def nw : Nat := 9223372036854775807
/-- The box of the steps, and the steps. -/
structure Sb (W : World) (bx g N : Nat) (f : Nat → Nat) : Prop where
  box : W.cell? ⟨bx, 0, none⟩ = some (.slice (some ⟨g, 0, none⟩) N N)
  row : ∀ i, i < N → W.cell? ⟨g, i, none⟩ = some (.int .i64 (f i : Int))
theorem Sb.below {W W' : World} {bx g N : Nat} {f : Nat → Nat} (h : Sb W bx g N f) (hb : Below W.heap.size W W') : Sb W' bx g N f :=
  ⟨(hb.cell (p := ⟨bx, 0, none⟩) (World.block_lt_of_cell? _ _ h.box)).trans h.box, fun i hi => (hb.cell (p := ⟨g, i, none⟩) (World.block_lt_of_cell? _ _ (h.row i hi))).trans (h.row i hi)⟩

set_option maxRecDepth 100000 in
theorem leads_any (j bx g N : Nat) (f : Nat → Nat) (w : World) (h : Sb w bx g N f) (hj : j < N) :
    Calls Try.prog 48 #[.int .i64 (j : Int), .pointer (some ⟨bx, 0, none⟩)] w fun e w' => e = .returned (.bool (decide (f j < nw))) ∧ w' = w := by
  have c0 := h.box
  have c1 := h.row j hj
  have hj0 : (0 : Int) ≤ (j : Int) := by omega
  have hj1 : (j : Int) < (N : Int) := by omega
  have HE : Hid (decide ((f j : Int) < 9223372036854775807) = decide (f j < nw)) := by show _ = _; unfold nw; rw [decide_eq_decide]; omega
  clear h
  go_enter Try.func48, Try.ntmps48
  go_wp2
  go_ret
  exact ⟨ret_b HE.out, rfl⟩

set_option maxRecDepth 100000 in
set_option maxHeartbeats 4000000 in
theorem idxI_any (l : List Nat) (lg lo cap bx g N : Nat) (f : Nat → Nat) (w : World) (h : Sb w bx g N f) (hl : l.length ≤ 1000) (hc : ∀ i x : Nat, l[i]? = some x → w.cell? ⟨lg, lo + i, none⟩ = some (.int .i64 (x : Int)) ∧ x < N) :
    Calls Try.prog 69 #[.slice (some ⟨lg, lo, none⟩) l.length cap, .func (.func 48) #[] #[.pointer (some ⟨bx, 0, none⟩)]] w fun e w' => (∃ r : Int, e = .returned (.int .i64 r) ∧ (0 ≤ r ∧ (∃ x ∈ l, f x < nw) ∨ r = -1 ∧ ∀ x ∈ l, ¬ f x < nw)) ∧ w' = w := by
  have HL : Hid (∀ j, j < N → Calls Try.prog 48 #[.int .i64 (j : Int), .pointer (some ⟨bx, 0, none⟩)] w fun e w' => e = .returned (.bool (decide (f j < nw))) ∧ w' = w) := fun j hj => leads_any j bx g N f w h hj
  have HC := Lib.hid hc
  obtain ⟨n, hn⟩ : ∃ n, l.length = n := ⟨_, rfl⟩
  have HN : Hid (l.length = n) := hn
  rw [hn] at hl ⊢
  clear h hc hn
  go_enter Try.func69, Try.ntmps69
  go_wp2
  go_loopw [5, 8] (fun _ x wr => ∃ i : Nat, i ≤ n ∧ x = .int .i64 (i : Int) ∧ (∀ (j y : Nat), j < i → l[j]? = some y → ¬ f y < nw) ∧ wr = w) (fun _ x _ => n - (intOf x).toNat)
  case atStart => exact ⟨0, Nat.zero_le _, rfl, fun j y hj => by omega, rfl⟩
  case round =>
    obtain ⟨i, hi, rfl, h1, rfl⟩ := hrel
    have H1 := Lib.hid h1
    clear h1
    by_cases hin : i < n
    · have hin' : (i : Int) < (n : Int) := by omega
      have hi0 : (0 : Int) ≤ (i : Int) := by omega
      obtain ⟨x, hx⟩ : ∃ x, l[i]? = some x := ⟨_, List.getElem?_eq_getElem (by rw [HN.out]; exact hin)⟩
      obtain ⟨c0, hxN⟩ := HC.out i x hx
      have HM := Lib.hid (HL.out x hxN)
      by_cases hu : f x < nw
      · rw [decide_eq_true hu] at HM
        have HF : Hid (∃ x ∈ l, f x < nw) := ⟨x, List.mem_of_getElem? hx, hu⟩
        clear hu hx
        go_wp2_with (go_at_call 48; refine HM.out.mono ?_; rintro e w1 ⟨rfl, hw1⟩; have hw2 := hw1.symm; subst hw2; clear hw1)
        go_ret
        exact ⟨⟨_, rfl, .inl ⟨hi0, HF.out⟩⟩, rfl⟩
      · rw [decide_eq_false hu] at HM
        have HNX : Hid (∀ (j y : Nat), j < i + 1 → l[j]? = some y → ¬ f y < nw) := fun j y hj hy => by
          rcases Nat.lt_or_ge j i with k | k
          · exact H1.out j y k hy
          · obtain rfl : j = i := by omega
            rw [hx] at hy
            cases hy
            exact hu
        clear hu hx
        go_wp2_with (go_at_call 48; refine HM.out.mono ?_; rintro e w1 ⟨rfl, hw1⟩; have hw2 := hw1.symm; subst hw2; clear hw1)
        go_roundw
        case rel => exact ⟨i + 1, by omega, by go_num, HNX.out, by first | trivial | rfl⟩
        case measure => (simp [intOf] <;> omega)
    · have hin' : ¬ (i : Int) < (n : Int) := by omega
      have HF : Hid (∀ x ∈ l, ¬ f x < nw) := fun x hx => by
        obtain ⟨j, hj⟩ := List.getElem?_of_mem hx
        exact H1.out j x (by have := (List.getElem?_eq_some_iff.1 hj).1; rw [HN.out] at this; omega) hj
      go_wp2
      go_ret
      exact ⟨⟨_, rfl, .inr ⟨rfl, fun x hx => by have := HF.out x hx; omega⟩⟩, rfl⟩

set_option maxRecDepth 100000 in
theorem conI_any (l : List Nat) (lg lo cap bx g N : Nat) (f : Nat → Nat) (w : World) (h : Sb w bx g N f) (hl : l.length ≤ 1000) (hc : ∀ i x : Nat, l[i]? = some x → w.cell? ⟨lg, lo + i, none⟩ = some (.int .i64 (x : Int)) ∧ x < N) :
    Calls Try.prog 49 #[.slice (some ⟨lg, lo, none⟩) l.length cap, .func (.func 48) #[] #[.pointer (some ⟨bx, 0, none⟩)]] w fun e w' => e = .returned (.bool (l.any fun x => decide (f x < nw))) ∧ w' = w := by
  have HC := Lib.hid (idxI_any l lg lo cap bx g N f w h hl hc)
  have HY : Hid ((∃ x ∈ l, f x < nw) → true = l.any fun x => decide (f x < nw)) := fun ⟨x, hx, e⟩ => (List.any_eq_true.2 ⟨x, hx, decide_eq_true e⟩).symm
  have HNO : Hid ((∀ x ∈ l, ¬ f x < nw) → false = l.any fun x => decide (f x < nw)) := fun k => (List.any_eq_false.2 fun x hx => by simpa using k x hx).symm
  generalize l.any (fun x => decide (f x < nw)) = D at *
  clear h hc
  go_enter Try.func49, Try.ntmps49
  go_wp2_with (go_at_call 69; refine HC.out.mono ?_; rintro e w1 ⟨⟨r, rfl, hr⟩, hw1⟩; have hw2 := hw1.symm; subst hw2; clear hw1; refine Hid.out ?_)
  refine Lib.hid ?_
  rcases hr with ⟨h0, hx⟩ | ⟨rfl, hx⟩
  · have HE := Lib.hid (HY.out hx)
    clear hx
    go_wp2
    go_ret
    exact ⟨ret_b (by rw [← HE.out] <;> simpa using h0), rfl⟩
  · have HE := Lib.hid (HNO.out hx)
    clear hx
    go_wp2
    go_ret
    exact ⟨ret_b (by rw [← HE.out]), rfl⟩
end Go.Proofs.Ytajpfidgepebgaa.cy

/-
  DERIVED: THE SHELF's CONTRACTS AT THIS DUMP, IN PLAIN WORDS (tools/lay-plain.mjs out of 'YtajpfidgepebgaaSHmx.lean', which tools/lay-shelf.mjs wrote): THE SAME DECLARATIONS UNDER THE SAME NAMES: 'import', 'namespace', 'open', 'def', 'theorem' AND NOTHING ELSE: no command of the shelf's: FOR A HAND-IN. Each laying: the table of numbers ('.._ren') and one theorem, a field a fact of the dump's own or the kernel's comparison; each contract: ONE APPLICATION.
-/
namespace Go.Proofs
open Go.Shelf
def Try.cyMul_ren : Go.Shelf.Ren := ⟨fun | 212 => 77 | 263 => 80 | 264 => 81 | n => n, fun | 46 => 79 | 51 => 100 | 146 => 101 | 53 => 103 | 148 => 104 | n => n, fun | n => n⟩
theorem Try.cyMul : Go.Proofs.Lays.n212 Try.prog Try.cyMul_ren := {
  mixed := by kernel_rfl
  f212 := Try.func77.trans (congrArg some (by kernel_rfl))
  f263 := Try.func80.trans (congrArg some (by kernel_rfl))
  f264 := Try.func81.trans (congrArg some (by kernel_rfl))
  t46 := Try.underlying79
  a46 := Try.isAgg79
  z46 := Try.sizeOf79
  v46 := Try.zeroValue79
  t51 := Try.underlying100
  a51 := Try.isAgg100
  z51 := Try.sizeOf100
  v51 := Try.zeroValue100
  t53 := Try.underlying103
  a53 := Try.isAgg103
  z53 := Try.sizeOf103
  v53 := Try.zeroValue103
  t146 := Try.underlying101
  a146 := Try.isAgg101
  z146 := Try.sizeOf101
  v146 := Try.zeroValue101
  t148 := Try.underlying104
  a148 := Try.isAgg104
  z148 := Try.sizeOf104
  v148 := Try.zeroValue104 }
end Go.Proofs

namespace Go.Proofs.Ytajpfidgepebgaa.cy
open Go.ChangeShapes Go.WideShapes Go.ChangeAt Go.RowKit Go.Deep Go.Maps Go.Shelf
set_option linter.unusedVariables false
set_option linter.unusedSimpArgs false

/-! ### slices.Repeat of one number -/

def nV : Value := .int .i64 9223372036854775807
def zV : Value := .int .i64 0
def rpL (k N : Nat) : List Value := List.replicate k nV ++ List.replicate (N - k) zV
theorem rpL_len {k N : Nat} (h : k ≤ N) : (rpL k N).length = N := by unfold rpL; simp; omega
theorem rpL_get {k N i : Nat} (h : i < k) : (rpL k N)[i]? = some nV := by unfold rpL; rw [List.getElem?_append_left (by simpa using h)]; simp [h]
theorem rpL_zero (N : Nat) : rpL 0 N = List.replicate N zV := by simp [rpL]
theorem rpL_full (N : Nat) : rpL N N = List.replicate N nV := by simp [rpL]
theorem rpL_step {k m N : Nat} (h : k + m ≤ N) : (rpL k N).take k ++ List.replicate m nV ++ (rpL k N).drop (k + m) = rpL (k + m) N := by
  have e1 : (rpL k N).take k = List.replicate k nV := by unfold rpL; rw [List.take_append_of_le_length (by simp)]; simp
  have e2 : (rpL k N).drop (k + m) = List.replicate (N - (k + m)) zV := by
    unfold rpL
    rw [List.drop_append, List.drop_eq_nil_of_le (by simp), List.nil_append]
    simp
    omega
  rw [e1, e2]
  unfold rpL
  rw [List.replicate_append_replicate]
theorem copy_runI {w : World} (ty : TypeId) (g off rl rc : Nat) (cur : List Value) (hg : w.heap[g]? = some (.cells cur.toArray 3 (0, 0))) (ad : Addr) (sl c m : Nat) (hm : m = Nat.min sl rl) (hfit : off + m ≤ cur.length)
    (hsrc : ∀ j, j < m → w.cell? (ad.add j) = some nV) :
    ∃ w', (Builtin.copy_ #[41, 41] ty #[.slice (some ⟨g, off, none⟩) rl rc, .slice (some ad) sl c]).run Try.prog w = .ok (.int .i64 (m : Int)) w' ∧ w'.heap[g]? = some (.cells (cur.take off ++ List.replicate m nV ++ cur.drop (off + m)).toArray 3 (0, 0)) ∧ ∀ B w0, Below B w0 w → B ≤ g → Below B w0 w' := by
  have h := run_copy_row (P := Try.prog) w 41 41 ty 3 g off rl rc ad sl c cur.toArray 3 (List.replicate m nV) Try.underlying41 (by kernel_rfl) hg (by rw [List.length_replicate]; exact hm) (fun j v hj => by
    obtain ⟨h1, h2⟩ := List.getElem?_eq_some_iff.1 hj
    rw [List.length_replicate] at h1
    rw [List.getElem_replicate] at h2
    rw [← h2]
    exact hsrc j h1) (by rw [List.length_replicate]; simpa using hfit) (fun v hv => by rw [List.eq_of_mem_replicate hv]; rfl)
  rw [List.length_replicate] at h
  refine ⟨_, h, ?_, fun B w0 hb hB => below_setRow hb hB _⟩
  exact setRow_heap w g _ _ 3 _ hg
/-- A copy as one operation that is carried out in a region. -/
theorem wp_copyI {o : Oper} {a : Act} {W W6 : World} {v x v6 : Value} {K : Act → World → Prop} {Q : Exit → Act → World → Prop} (s y : Operand) (ho : o.op = .call { callee := .builtin .copy, args := #[s, y], argTypes := #[41, 41] }) (hs : a.eval s = v) (hx : a.eval y = x)
    (hr : (Builtin.copy_ #[41, 41] o.type #[v, x]).run Try.prog W = .ok v6 W6) (h : K (a.put o.dst v6) W6) : o.wp Try.prog a W K Q := by
  unfold Oper.wp execOp
  simp only [ho, resolve, invoke, builtin, Sem.run_bind, Sem.run_pure, Result.andThen_ok, List.map_toArray, List.map_cons, List.map_nil, hs, hx, hr]
  exact h
/-- What it answers. -/
def RepR (N : Nat) (w w' : World) (e : Ending) : Prop := ∃ g, e = .returned (.slice (some ⟨g, 0, none⟩) N N) ∧ w.heap.size ≤ g ∧ w'.heap[g]? = some (.cells (List.replicate N nV).toArray 3 (0, 0))

theorem mul_any (N : Nat) (hN : N ≤ 1000) (w : World) :
    Calls Try.prog 77 #[.int .u64 1, .int .u64 (N : Int)] w fun e w' => e = .returned (.tuple #[.int .u64 0, .int .u64 (N : Int)]) ∧ w' = w := by
  have h := Any.bits_Mul Try.cyMul 1 N (by omega) (by omega) w
  rw [show 1 * N / 18446744073709551616 = 0 by omega, show 1 * N % 18446744073709551616 = N by omega] at h
  exact h

set_option maxRecDepth 100000 in
set_option maxHeartbeats 4000000 in
theorem rep_any (N xb : Nat) (w : World) (hN0 : 1 ≤ N) (hN : N ≤ 1000) (hx : w.cell? ⟨xb, 0, none⟩ = some nV) :
    Calls Try.prog 68 #[.slice (some ⟨xb, 0, none⟩) 1 1, .int .i64 (N : Int)] w fun e w' => RepR N w w' e ∧ Below w.heap.size w w' := by
  have hmk := ty.makeN (P := Try.prog) 41 3 (.int .i64 0) 1 8 Try.underlying41 fi.infoI .i64 .i64 N (by omega) (by omega)
  rw [Nat.mul_one] at hmk
  have HMU := Lib.hid (fun W : World => mul_any N hN W)
  obtain ⟨MA, hMA⟩ : ∃ M, M = madeCells (Value.int .i64 0).cells N := ⟨_, rfl⟩
  rw [← hMA] at hmk
  have hMA2 : MA = (rpL 0 N).toArray := by rw [hMA, rpL_zero]; apply Array.ext'; simp [madeCells, zV, Value.cells]; exact List.ext_getElem (by simp) (fun i h1 h2 => by simp [Nat.mod_one])
  have hxb := World.block_lt_of_cell? _ _ hx
  obtain ⟨w2, hr2, hg2, hb2⟩ := copy_runI (w := w.alloc (.cells MA 3)) 3 w.heap.size 0 N N (rpL 0 N) (by rw [← hMA2]; exact fa.blk_new w _) ⟨xb, 0, none⟩ 1 1 1 (Nat.min_eq_left hN0).symm (by rw [rpL_len (by omega)]; omega) (fun j hj => by
    obtain rfl : j = 0 := by omega
    have := ((Below.refl w.heap.size w).alloc (Nat.le_refl _) (.cells MA 3)).cell (p := ⟨xb, 0, none⟩) hxb
    rw [addr_add]
    exact this.trans hx)
  have e2 := rpL_step (k := 0) (m := 1) (N := N) (by omega)
  rw [e2] at hg2
  have HG2 := Lib.hid hg2
  have HB2 := Lib.hid (hb2 _ _ ((Below.refl w.heap.size w).alloc (Nat.le_refl _) _) (Nat.le_refl _))
  have hw1 : IntKind.u64.wrap (N : Int) = (N : Int) := by rw [IntKind.wrap_u64]; omega
  have hw2 : IntKind.i64.wrap (N : Int) = (N : Int) := by rw [IntKind.wrap_i64]; omega
  have hn0 : ¬ (N : Int) < 0 := by omega
  have hn1 : ¬ (9223372036854775807 : Int) < (N : Int) := by omega
  clear hx hg2 hb2 e2 hMA hMA2
  go_enter Try.func68, Try.ntmps68
  go_wp2_with (go_at_call 77; refine (HMU.out _).mono ?_; rintro e w1 ⟨rfl, hw1'⟩; have hw3 := hw1'.symm; subst hw3; clear hw1'; refine Hid.out ?_)
  refine Lib.hid ?_
  go_wp2
  go_loopw [8] (fun v8 wr => ∃ k : Nat, 1 ≤ k ∧ k ≤ N ∧ v8 = .int .i64 (k : Int) ∧ wr.heap[w.heap.size]? = some (.cells (rpL k N).toArray 3 (0, 0)) ∧ Below w.heap.size w wr) (fun v8 _ => N - (intOf v8).toNat)
  case atStart => exact ⟨1, Nat.le_refl _, hN0, rfl, HG2.out, HB2.out⟩
  case round =>
    obtain ⟨k, hk1, hkN, rfl, hg, hbel⟩ := hrel
    have HG := Lib.hid hg
    have HBE := Lib.hid hbel
    clear hg hbel HG2 HB2 hr2
    by_cases hlt : k < N
    · have hlt' : (k : Int) < (N : Int) := by omega
      have hk0 : (0 : Int) ≤ (k : Int) := by omega
      have hkN' : (k : Int) ≤ (N : Int) := by omega
      have hne : ¬ N = k := by omega
      obtain ⟨m, hm⟩ : ∃ m, m = Nat.min k (N - k) := ⟨_, rfl⟩
      have hm1 : m ≤ k := by rw [hm]; exact Nat.min_le_left _ _
      have hm2 : m ≤ N - k := by rw [hm]; exact Nat.min_le_right _ _
      have hm3 : 1 ≤ m := by rw [hm]; exact (Nat.le_min).2 ⟨hk1, by omega⟩
      obtain ⟨w3, hr3, hg3, hb3⟩ := copy_runI (w := wr.drew) 3 w.heap.size k (N - k) (N - k) (rpL k N) HG.out ⟨w.heap.size, 0, none⟩ k N m hm (by rw [rpL_len hkN]; omega) (fun j hj => by
        rw [addr_add, Nat.zero_add]
        have : wr.drew.heap[w.heap.size]? = some (.cells (rpL k N).toArray 3 (0, 0)) := HG.out
        simp only [World.cell?, this]
        simpa using rpL_get (N := N) (show j < k by omega))
      rw [rpL_step (by omega)] at hg3
      have HG3 := Lib.hid hg3
      have HB3 := Lib.hid (hb3 w.heap.size w HBE.out.drew (Nat.le_refl _))
      have hwm : IntKind.i64.wrap ((k : Int) + (m : Int)) = ((k + m : Nat) : Int) := by rw [IntKind.wrap_i64]; omega
      clear hg3 hb3 hm
      go_upto_region 9 with fail
      refine wq 10 (S := fun _ => True) (by kernel_rfl) trivial fun hHeld => ?_
      iterate 7 (refine un 10 rfl ?_; try simp only [aP])
      refine rq 7 rfl fun K hK => ?_
      refine wp_copyI _ _ rfl rfl rfl hr3 ?_
      refine hK.out _ _ trivial (fun hHeld => ?_)
      clear hK K
      try simp only [aP]
      iterate 2 (refine un 10 rfl ?_; try simp only [aP])
      refine dq ?_
      clear hHeld hr3
      go_wp2
      go_roundw
      case rel => exact ⟨k + m, by omega, by omega, by first | rfl | (simp; done) | exact congrArg _ hwm, HG3.out, HB3.out⟩
      case measure => simp [intOf]; omega
    · have hlt' : ¬ (k : Int) < (N : Int) := by omega
      obtain rfl : k = N := by omega
      have HE : Hid (RepR k w wr (.returned (.slice (some ⟨w.heap.size, 0, none⟩) k k)) ∧ Below w.heap.size w wr) := ⟨⟨_, rfl, Nat.le_refl _, by rw [HG.out, rpL_full]⟩, HBE.out⟩
      clear HG HBE
      go_wp2
      go_ret
      exact HE.out
end Go.Proofs.Ytajpfidgepebgaa.cy
