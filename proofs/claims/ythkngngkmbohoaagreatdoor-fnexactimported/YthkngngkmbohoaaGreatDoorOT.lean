import Derived.Test.YthkngngkmbohoaaGreatDoorOS
import Derived.Test.YthkngngkmbohoaaGreatDoorNA
namespace Go.Proofs.YthkngngkmbohoaaGreatDoor.op
open Go.ChangeShapes Go.WideShapes Go.ChangeAt Go.RowKit Go.Deep
set_option linter.unusedVariables false
set_option linter.unusedSimpArgs false

/-! ### Options: the specification's choices, numbers and values -/

theorem RowL.heap {w w' : World} {g off : Nat} {ls : List (List UInt8)} (h : RowL w g off ls) (hh : w'.heap = w.heap) : RowL w' g off ls := fun i x hx => (World.cell?_of_block (a := ⟨g, off + i, none⟩) (by rw [hh])).trans (h i x hx)

theorem chW_no {ws : List (List UInt8)} {i : Nat} {x : List UInt8} (hx : ws[i]? = some x) (h : nL x = false ∨ x ∈ ws.take i) : chW ws = false := by
  unfold chW
  rcases h with h | h
  · have : ws.all nL = false := by
      cases e : ws.all nL with
      | false => rfl
      | true => rw [List.all_eq_true.1 e x (List.mem_of_getElem? hx)] at h; cases h
    rw [this]
    simp
  · have : ¬ ws.Nodup := fun hn => by
      obtain ⟨j, hj, e⟩ := List.getElem_of_mem h
      rw [List.length_take] at hj
      have hi := (List.getElem?_eq_some_iff.1 hx).1
      have e1 : ws[j] = x := by rw [← e, List.getElem_take]
      have e2 : ws[i] = x := (List.getElem?_eq_some_iff.1 hx).2
      exact (List.pairwise_iff_getElem.1 hn) j i (by omega) hi (by omega) (e1.trans e2.symm)
    rw [decide_eq_false this]
    simp

theorem nodup_more {ws : List (List UInt8)} {i : Nat} {x : List UInt8} (hx : ws[i]? = some x) (h : (ws.take i).Nodup) (hn : ¬ x ∈ ws.take i) : (ws.take (i + 1)).Nodup := by
  rw [List.take_add_one, hx]
  refine List.nodup_append.2 ⟨h, by simp, fun a ha b hb => ?_⟩
  have : b = x := by simpa using hb
  subst this
  exact fun e => hn (e ▸ ha)

theorem all_more {ws : List (List UInt8)} {i : Nat} {x : List UInt8} (hx : ws[i]? = some x) (h : ∀ y ∈ ws.take i, nL y = true) (hn : nL x = true) : ∀ y ∈ ws.take (i + 1), nL y = true := by
  intro y hy
  rw [List.take_add_one, hx] at hy
  rcases List.mem_append.1 hy with hy | hy
  · exact h y hy
  · have : y = x := by simpa using hy
    rw [this]; exact hn

/-- The words of a choice; none: it is no choice. -/
def cws (ws : List (List UInt8)) : List (List UInt8) := if chW ws = true then ws else []

theorem rtn_nil (w : World) (o : Obj) : Rtn [] (.returned (.slice (some ⟨w.heap.size, 0, none⟩) 0 0)) (w.alloc o) := ⟨_, 0, 0, rfl, Nat.le_refl _, fun i x h => by simp at h⟩

set_option maxHeartbeats 4000000 in
set_option maxRecDepth 100000 in
theorem schoice_any (s : ByteArray) (hs : s.size ≤ 1048576) (w : World) :
    Calls Tryz.prog 70 #[.string s] w fun e w' => Rtn (cws (spl 124 [] s.data.toList)) e w' ∧ Below w.heap.size w w' := by
  have HSP : Hid (Calls Tryz.prog 54 #[.string s, .int .u8 124] w fun e w' => Rtn (spl 124 [] s.data.toList) e w' ∧ Below w.heap.size w w') := ssplit_any 124 s hs w
  have hlen : (spl 124 [] s.data.toList).length ≤ 1048577 := by have := spl_long 124 s.data.toList; simp at this; omega
  have HSM : Hid (∀ x ∈ spl 124 [] s.data.toList, x.length ≤ 1048576) := fun x hx => by have := spl_small 124 s.data.toList [] x hx; simp at this; omega
  obtain ⟨ws, hws⟩ : ∃ ws, spl 124 [] s.data.toList = ws := ⟨_, rfl⟩
  rw [hws] at HSP hlen HSM ⊢
  clear hws
  go_enter Tryz.func70, Tryz.ntmps70
  go_wp2_with (go_at_call 54; refine HSP.out.mono ?_; rintro e w1 ⟨⟨g, off, cap, rfl, hcap, hrow⟩, hl1⟩; refine Hid.out ?_)
  refine Lib.hid ?_
  have HROW : Hid (RowL w1 g off ws) := hrow
  have HB1 : Hid (Below w.heap.size w w1) := hl1
  clear hrow hl1 HSP
  by_cases h2 : ws.length < 2
  · have h2' : (ws.length : Int) < 2 := by omega
    have HR : Hid (cws ws = []) := by
      show _ = _
      rw [cws, if_neg (by unfold chW; rw [decide_eq_false (by omega)]; simp)]
    go_wp2
    go_ret
    rw [HR.out]
    exact ⟨rtn_nil _ _, HB1.out.alloc HB1.out.size _⟩
  have h2' : ¬ (ws.length : Int) < 2 := by omega
  go_wp2
  go_loopw [4] (fun x wr => ∃ i : Nat, i ≤ ws.length ∧ x = .int .i64 (i : Int) ∧ (∀ y ∈ ws.take i, nL y = true) ∧ (ws.take i).Nodup ∧ RowL wr g off ws ∧ Below w.heap.size w wr) (fun x _ => ws.length - (intOf x).toNat)
  case atStart => exact ⟨0, Nat.zero_le _, rfl, by simp, by simp, HROW.out, HB1.out⟩
  case round =>
    obtain ⟨i, hi, rfl, hal, hnd, hrw, hbel⟩ := hrel
    have HAL : Hid (∀ y ∈ ws.take i, nL y = true) := hal
    have HND : Hid ((ws.take i).Nodup) := hnd
    have HRW : Hid (RowL wr g off ws) := hrw
    have HBE : Hid (Below w.heap.size w wr) := hbel
    clear hal hnd hrw hbel HROW HB1
    by_cases hlt : i < ws.length
    · have hlt' : (i : Int) < (ws.length : Int) := by omega
      have hic : (i : Int) ≤ (cap : Int) := by omega
      have hi0 : (0 : Int) ≤ (i : Int) := by omega
      obtain ⟨x, hx⟩ : ∃ x, ws[i]? = some x := ⟨_, List.getElem?_eq_getElem hlt⟩
      have c0 := HRW.out i x hx
      have HX : Hid (ws[i]? = some x) := hx
      have HNM : Hid (∀ W, Calls Tryz.prog 28 #[.string ⟨x.toArray⟩] W fun e w' => e = .returned (.bool (nL x)) ∧ w' = W) := fun W => nm.spec_any ⟨x.toArray⟩ (by show x.toArray.size ≤ _; have := HSM.out x (List.mem_of_getElem? hx); simpa using this) W
      have HHS : Hid (∀ W : World, W.heap = wr.heap → Calls Tryz.prog 35 #[.slice (some ⟨g, off, none⟩) i cap, .string ⟨x.toArray⟩] W fun e w' => e = .returned (.bool (decide (x ∈ ws.take i))) ∧ w' = W) := fun W hW => by
        have := hasL_any ws g off i cap ⟨x.toArray⟩ (by omega) hlen W (HRW.out.heap hW)
        simpa using this
      obtain ⟨X, hX⟩ : ∃ X : ByteArray, (⟨x.toArray⟩ : ByteArray) = X := ⟨_, rfl⟩
      rw [hX] at c0 HNM HHS
      clear hx hX
      cases hnb : nL x with
      | false =>
        rw [hnb] at HNM
        have HR : Hid (cws ws = []) := by
          show _ = _
          rw [cws, if_neg (by rw [chW_no HX.out (.inl hnb)]; simp)]
        clear hnb
        go_wp2_with fail
        go_quiet (first | (go_at_call 28; refine Calls.quiet_of_same (HNM.out _)))
        go_wp2
        go_ret
        rw [HR.out]
        exact ⟨rtn_nil _ _, (below_drewN HBE.out _).alloc HBE.out.size _⟩
      | true =>
        rw [hnb] at HNM
        have HT : Hid (nL x = true) := hnb
        clear hnb
        by_cases hin : x ∈ ws.take i
        · rw [decide_eq_true hin] at HHS
          have HR : Hid (cws ws = []) := by
            show _ = _
            rw [cws, if_neg (by rw [chW_no HX.out (.inr hin)]; simp)]
          clear hin
          go_wp2_with fail
          go_quiet (first | (go_at_call 28; refine Calls.quiet_of_same (HNM.out _)) | (go_at_call 35; refine Calls.quiet_of_same (HHS.out _ rfl)))
          go_wp2
          go_ret
          rw [HR.out]
          exact ⟨rtn_nil _ _, (below_drewN HBE.out _).alloc HBE.out.size _⟩
        · rw [decide_eq_false hin] at HHS
          have HNI : Hid (¬ x ∈ ws.take i) := hin
          clear hin
          go_wp2_with fail
          go_quiet (first | (go_at_call 28; refine Calls.quiet_of_same (HNM.out _)) | (go_at_call 35; refine Calls.quiet_of_same (HHS.out _ rfl)))
          go_wp2
          go_roundw
          case rel => exact ⟨i + 1, by omega, by go_num, all_more HX.out HAL.out HT.out, nodup_more HX.out HND.out HNI.out, HRW.out.heap rfl, below_drewN HBE.out _⟩
          case measure => simp [intOf]; omega
    · have hlt' : ¬ (i : Int) < (ws.length : Int) := by omega
      obtain rfl : i = ws.length := by omega
      have HR : Hid (cws ws = ws) := by
        show _ = _
        unfold cws
        refine if_pos ?_
        unfold chW
        have h1 := HAL.out
        have h3 := HND.out
        rw [List.take_length] at h1 h3
        rw [decide_eq_true (show 1 < ws.length by omega), List.all_eq_true.2 h1, decide_eq_true h3]
        rfl
      go_wp2
      go_ret
      rw [HR.out]
      exact ⟨⟨g, off, cap, rfl, hcap, HRW.out⟩, HBE.out⟩

theorem digit_any (c : UInt8) (w : World) :
    Calls Tryz.prog 51 #[.int .u8 (c.toNat : Int)] w fun e w' => e = .returned (.bool (dig c)) ∧ w' = w := by
  go_enter Tryz.func51, Tryz.ntmps51
  go_wp2
  all_goals go_ret
  all_goals refine ⟨ret_bool ?_, rfl⟩
  all_goals (rw [Bool.eq_iff_iff]; simp [dig]; omega)

theorem head_of {s : ByteArray} (h : 0 < s.size) : s.data.toList.head? = some s[0] := by
  rw [List.head?_eq_getElem?, List.getElem?_eq_getElem (by simpa using h)]
  rfl

theorem head_none {s : ByteArray} (h : s.size = 0) : s.data.toList.head? = none := by
  rw [List.head?_eq_none_iff]
  exact List.eq_nil_of_length_eq_zero (by simpa using h)

theorem dgs_len_le (s : ByteArray) : (dgs s.data.toList).length ≤ s.size := by
  unfold dgs
  split <;> simp

theorem take_dig {D : ByteArray} {k : Nat} (h : k < D.size) (ha : ∀ c ∈ D.data.toList.take k, dig c = true) (hf : dig D[k] = true) : ∀ c ∈ D.data.toList.take (k + 1), dig c = true := by
  intro c hc
  rw [List.take_succ_eq_append_getElem (by simpa using h)] at hc
  rcases List.mem_append.1 hc with hc | hc
  · exact ha c hc
  · have : c = D[k] := by rw [List.mem_singleton] at hc; exact hc
    rw [this]; exact hf

theorem intB_len {v : List UInt8} (h : (dgs v).length = 0 ∨ 15 < (dgs v).length) : intB v = false := by
  unfold intB
  rcases h with h | h
  · rw [decide_eq_false (by omega)]; rfl
  · rw [decide_eq_false (p := (dgs v).length ≤ 15) (by omega)]; simp

theorem intB_zero {v : List UInt8} (h : (dgs v).head? = some 48) (hv : ¬ v = [48]) : intB v = false := by
  unfold intB
  rw [decide_eq_false hv, decide_eq_true h]
  simp

theorem intB_bad {v : List UInt8} {c : UInt8} (hc : c ∈ dgs v) (h : dig c = false) : intB v = false := by
  unfold intB
  have : (dgs v).all dig = false := by
    cases e : (dgs v).all dig with
    | false => rfl
    | true => rw [List.all_eq_true.1 e c hc] at h; cases h
  rw [this]
  simp

theorem intB_yes {v : List UInt8} (h0 : 0 < (dgs v).length) (h1 : (dgs v).length ≤ 15) (h2 : ∀ c ∈ dgs v, dig c = true) (h3 : v = [48] ∨ ¬ (dgs v).head? = some 48) : intB v = true := by
  unfold intB
  rw [decide_eq_true h0, decide_eq_true h1, List.all_eq_true.2 h2]
  rcases h3 with h | h
  · rw [decide_eq_true h]; rfl
  · rw [decide_eq_false h]; simp

set_option maxHeartbeats 4000000 in
set_option maxRecDepth 100000 in
theorem sint_any (v : ByteArray) (hs : v.size ≤ 1048576) (w : World) :
    Calls Tryz.prog 71 #[.string v] w fun e w' => e = .returned (.bool (intB v.data.toList)) ∧ w' = w := by
  have hcase : ∃ D : ByteArray, dgs v.data.toList = D.data.toList ∧ D.size ≤ v.size ∧ ((∃ h : 0 < v.size, (v[0].toNat : Int) = 45 ∧ v.extract 1 v.size = D) ∨ (D = v ∧ (v.size = 0 ∨ ∃ h : 0 < v.size, ((v[0].toNat : Int) == 45) = false))) := by
    by_cases h0 : v.size = 0
    · exact ⟨v, by unfold dgs; rw [head_none h0]; simp, Nat.le_refl _, .inr ⟨rfl, .inl h0⟩⟩
    · have hp : 0 < v.size := by omega
      by_cases h45 : v[0] = 45
      · refine ⟨v.extract 1 v.size, ?_, by simp, .inl ⟨hp, by rw [h45]; rfl, rfl⟩⟩
        unfold dgs
        rw [head_of hp, h45, if_pos rfl, bytes_ext, List.take_of_length_le (by simp)]
      · refine ⟨v, ?_, Nat.le_refl _, .inr ⟨rfl, .inr ⟨hp, ?_⟩⟩⟩
        · unfold dgs
          rw [head_of hp, if_neg (by simpa using h45)]
        · have hbn : ¬ v[0].toNat = 45 := fun e => h45 (UInt8.toNat.inj e)
          simp; omega
  obtain ⟨D, hD, hsz, hcase⟩ := hcase
  have hlen : (dgs v.data.toList).length = D.size := by rw [hD]; simp
  have HL0 : Hid ((dgs v.data.toList).length = 0 ∨ 15 < (dgs v.data.toList).length → intB v.data.toList = false) := fun h => intB_len h
  have HZ : Hid (∀ h : 0 < D.size, D[0] = 48 → ¬ v.toList = [48] → intB v.data.toList = false) := fun h e hv => intB_zero (by rw [hD, head_of h, e]) (fun h => hv (by rw [ByteArray.toList_eq]; exact h))
  have HBD : Hid (∀ k, ∀ h : k < D.size, dig D[k] = false → intB v.data.toList = false) := fun k h e => intB_bad (c := D[k]) (by rw [hD]; exact List.getElem_mem (l := D.data.toList) (by simpa using h)) e
  have HYE : Hid (∀ h : 0 < D.size, D.size ≤ 15 → (∀ c ∈ D.data.toList.take D.size, dig c = true) → (v.toList = [48] ∨ ¬ D[0] = 48) → intB v.data.toList = true) := fun h0 h1 h2 h3 => intB_yes (by omega) (by omega) (by rw [hD]; rwa [List.take_of_length_le (by simp)] at h2) (h3.imp (fun h => by rw [ByteArray.toList_eq] at h; exact h) (fun h => by rw [hD, head_of h0]; simpa using h))
  rw [hlen] at HL0
  obtain ⟨R, hR⟩ : ∃ R, intB v.data.toList = R := ⟨_, rfl⟩
  rw [hR] at HL0 HZ HBD HYE ⊢
  clear hD hlen hR
  have hfive : D.size = 0 ∨ 15 < D.size ∨ (0 < D.size ∧ D.size ≤ 15) := by omega
  obtain ⟨V, hV⟩ : ∃ V, v.toList = V := ⟨_, rfl⟩
  rw [hV] at HZ HYE
  rcases hcase with ⟨hp, h45, hX⟩ | ⟨hE, h0 | ⟨hp, h45⟩⟩
  rotate_left
  all_goals try subst hE
  · go_enter Tryz.func71, Tryz.ntmps71
    go_wp2
    go_ret
    exact ⟨ret_bool (HL0.out (.inl h0)).symm, rfl⟩
  rotate_left
  all_goals (
    rcases hfive with h1 | h1 | ⟨h1, h15⟩
    · have h1' : (D.size : Int) < 1 := by omega
      go_enter Tryz.func71, Tryz.ntmps71
      go_wp2
      go_ret
      exact ⟨ret_bool (HL0.out (.inl h1)).symm, rfl⟩
    · have h1' : ¬ (D.size : Int) < 1 := by omega
      have h1'' : (15 : Int) < (D.size : Int) := by omega
      go_enter Tryz.func71, Tryz.ntmps71
      go_wp2
      go_ret
      exact ⟨ret_bool (HL0.out (.inr h1)).symm, rfl⟩
    · have h1' : ¬ (D.size : Int) < 1 := by omega
      have h15' : ¬ (15 : Int) < (D.size : Int) := by omega
      by_cases hz : D[0] = 48
      · have hzi : (D[0].toNat : Int) = 48 := by rw [hz]; rfl
        by_cases hv : V = [48]
        · have HOK : Hid ((∀ c ∈ D.data.toList.take D.size, dig c = true) → R = true) := fun h => HYE.out h1 h15 h (.inl hv)
          have hv' : (V == [48]) = true := by rw [hv]; rfl
          clear hz
          go_enter Tryz.func71, Tryz.ntmps71
          go_wp2
          go_loop [4] (fun x => ∃ k : Nat, k ≤ D.size ∧ x = .int .i64 (k : Int) ∧ ∀ c ∈ D.data.toList.take k, dig c = true) (fun x => D.size - (intOf x).toNat)
          case atStart => exact ⟨0, Nat.zero_le _, rfl, by simp⟩
          case round =>
            obtain ⟨k, hk, rfl, hok⟩ := hrel
            have HO : Hid (∀ c ∈ D.data.toList.take k, dig c = true) := hok
            clear hok
            by_cases hlt : k < D.size
            · have hlt' : (k : Int) < (D.size : Int) := by omega
              cases hd : dig D[k] with
              | true =>
                have HD : Hid (dig D[k] = true) := hd
                have HDG : Hid (∀ W, Calls Tryz.prog 51 #[.int .u8 (D[k].toNat : Int)] W fun e w' => e = .returned (.bool true) ∧ w' = W) := fun W => by have := digit_any D[k] W; rwa [hd] at this
                clear hd
                go_wp2_with (go_at_call 51; refine (HDG.out _).mono ?_; rintro e w' ⟨rfl, rfl⟩)
                go_round
                case rel => exact ⟨k + 1, by omega, by go_num, take_dig hlt HO.out HD.out⟩
                case measure => simp [intOf]; omega
              | false =>
                have HD : Hid (R = false) := HBD.out k hlt hd
                have HDG : Hid (∀ W, Calls Tryz.prog 51 #[.int .u8 (D[k].toNat : Int)] W fun e w' => e = .returned (.bool false) ∧ w' = W) := fun W => by have := digit_any D[k] W; rwa [hd] at this
                clear hd
                go_wp2_with (go_at_call 51; refine (HDG.out _).mono ?_; rintro e w' ⟨rfl, rfl⟩)
                go_ret
                exact ⟨ret_bool HD.out.symm, rfl⟩
            · have hlt' : ¬ (k : Int) < (D.size : Int) := by omega
              obtain rfl : k = D.size := by omega
              have HD : Hid (R = true) := HOK.out HO.out
              go_wp2
              go_ret
              exact ⟨ret_bool HD.out.symm, rfl⟩
        · have hv' : (V == [48]) = false := by simpa using hv
          have HR : Hid (R = false) := HZ.out h1 hz hv
          clear hz hv
          go_enter Tryz.func71, Tryz.ntmps71
          go_wp2
          go_ret
          exact ⟨ret_bool HR.out.symm, rfl⟩
      · have hzn : ¬ D[0].toNat = 48 := fun e => hz (UInt8.toNat.inj e)
        have hzi : ((D[0].toNat : Int) == 48) = false := by simp; omega
        have HOK : Hid ((∀ c ∈ D.data.toList.take D.size, dig c = true) → R = true) := fun h => HYE.out h1 h15 h (.inr hz)
        clear hz hzn
        go_enter Tryz.func71, Tryz.ntmps71
        go_wp2
        go_loop [4] (fun x => ∃ k : Nat, k ≤ D.size ∧ x = .int .i64 (k : Int) ∧ ∀ c ∈ D.data.toList.take k, dig c = true) (fun x => D.size - (intOf x).toNat)
        case atStart => exact ⟨0, Nat.zero_le _, rfl, by simp⟩
        case round =>
          obtain ⟨k, hk, rfl, hok⟩ := hrel
          have HO : Hid (∀ c ∈ D.data.toList.take k, dig c = true) := hok
          clear hok
          by_cases hlt : k < D.size
          · have hlt' : (k : Int) < (D.size : Int) := by omega
            cases hd : dig D[k] with
            | true =>
              have HD : Hid (dig D[k] = true) := hd
              have HDG : Hid (∀ W, Calls Tryz.prog 51 #[.int .u8 (D[k].toNat : Int)] W fun e w' => e = .returned (.bool true) ∧ w' = W) := fun W => by have := digit_any D[k] W; rwa [hd] at this
              clear hd
              go_wp2_with (go_at_call 51; refine (HDG.out _).mono ?_; rintro e w' ⟨rfl, rfl⟩)
              go_round
              case rel => exact ⟨k + 1, by omega, by go_num, take_dig hlt HO.out HD.out⟩
              case measure => simp [intOf]; omega
            | false =>
              have HD : Hid (R = false) := HBD.out k hlt hd
              have HDG : Hid (∀ W, Calls Tryz.prog 51 #[.int .u8 (D[k].toNat : Int)] W fun e w' => e = .returned (.bool false) ∧ w' = W) := fun W => by have := digit_any D[k] W; rwa [hd] at this
              clear hd
              go_wp2_with (go_at_call 51; refine (HDG.out _).mono ?_; rintro e w' ⟨rfl, rfl⟩)
              go_ret
              exact ⟨ret_bool HD.out.symm, rfl⟩
          · have hlt' : ¬ (k : Int) < (D.size : Int) := by omega
            obtain rfl : k = D.size := by omega
            have HD : Hid (R = true) := HOK.out HO.out
            go_wp2
            go_ret
            exact ⟨ret_bool HD.out.symm, rfl⟩)

end Go.Proofs.YthkngngkmbohoaaGreatDoor.op
