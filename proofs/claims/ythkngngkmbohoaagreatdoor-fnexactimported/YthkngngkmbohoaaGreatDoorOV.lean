import Derived.Test.YthkngngkmbohoaaGreatDoorOT
namespace Go.Proofs.YthkngngkmbohoaaGreatDoor.op
open Go.ChangeShapes Go.WideShapes Go.ChangeAt Go.RowKit Go.Deep
set_option linter.unusedVariables false
set_option linter.unusedSimpArgs false

/-! ### Options: the specification's ValueOk -/

theorem val_bool {k v : List UInt8} (h : k = tBool) : valB k v = (decide (v = vTrue) || decide (v = vFalse)) := by
  subst h; rfl
theorem val_int {k v : List UInt8} (h : k = tInt) : valB k v = intB v := by
  subst h; rfl
theorem val_text {k v : List UInt8} (h : k = tText) : valB k v = decide (v.length ≤ 4000) := by
  subst h; rfl
theorem val_list {k v : List UInt8} (h : k = tList) : valB k v = (decide (v = []) || (spl 32 [] v).all nL) := by
  subst h; rfl
theorem val_choice {k v : List UInt8} (h1 : ¬ k = tBool) (h2 : ¬ k = tInt) (h3 : ¬ k = tText) (h4 : ¬ k = tList) : valB k v = decide (v ∈ cws (spl 124 [] k)) := by
  unfold valB cws chB
  rw [if_neg h1, if_neg h2, if_neg h3, if_neg h4]
  cases e : chW (spl 124 [] k) with
  | false => simp
  | true => simp

theorem all_no {ls : List (List UInt8)} {j : Nat} {x : List UInt8} (hx : ls[j]? = some x) (h : nL x = false) : ls.all nL = false := by
  cases e : ls.all nL with
  | false => rfl
  | true => rw [List.all_eq_true.1 e x (List.mem_of_getElem? hx)] at h; cases h

set_option maxHeartbeats 4000000 in
set_option maxRecDepth 100000 in
theorem sval_any (k v : ByteArray) (hk : k.size ≤ 1048576) (hs : v.size ≤ 1048576) (w : World) :
    Calls Tryz.prog 53 #[.string k, .string v] w fun e w' => e = .returned (.bool (valB k.data.toList v.data.toList)) ∧ Below w.heap.size w w' := by
  have hvl : v.data.toList.length = v.size := by simp
  have ek : k.data.toList = k.toList := (ByteArray.toList_eq k).symm
  have ev : v.data.toList = v.toList := (ByteArray.toList_eq v).symm
  have HIN : Hid (∀ W, Calls Tryz.prog 71 #[.string v] W fun e w' => e = .returned (.bool (intB v.data.toList)) ∧ w' = W) := fun W => sint_any v hs W
  have HCH : Hid (∀ W : World, Calls Tryz.prog 70 #[.string k] W fun e w' => Rtn (cws (spl 124 [] k.data.toList)) e w' ∧ Below W.heap.size W w') := fun W => schoice_any k hk W
  have HSP : Hid (∀ W : World, Calls Tryz.prog 54 #[.string v, .int .u8 32] W fun e w' => Rtn (spl 32 [] v.data.toList) e w' ∧ Below W.heap.size W w') := fun W => ssplit_any 32 v hs W
  have hcl : (cws (spl 124 [] k.data.toList)).length ≤ 1048577 := by
    have := spl_long 124 k.data.toList
    simp at this
    unfold cws
    split
    · omega
    · simp
  have hpl : (spl 32 [] v.data.toList).length ≤ 1048577 := by have := spl_long 32 v.data.toList; simp at this; omega
  have HSM : Hid (∀ x ∈ spl 32 [] v.data.toList, x.length ≤ 1048576) := fun x hx => by have := spl_small 32 v.data.toList [] x hx; simp at this; omega
  obtain ⟨R, hR⟩ : ∃ R, valB k.data.toList v.data.toList = R := ⟨_, rfl⟩
  have HR : Hid (valB k.data.toList v.data.toList = R) := hR
  rw [hR]
  clear hR
  by_cases k1 : k.toList = [98, 111, 111, 108]
  · have HV : Hid (R = (decide (v.toList = vTrue) || decide (v.toList = vFalse))) := by show _ = _; rw [← HR.out, val_bool (by rw [ek]; exact k1), ev]
    clear HIN HCH HSP HR hvl ek ev
    by_cases v1 : v.toList = [116, 114, 117, 101]
    · have HT : Hid (R = true) := by show _ = _; rw [HV.out, decide_eq_true (show v.toList = vTrue from v1)]; rfl
      go_enter Tryz.func53, Tryz.ntmps53
      go_wp2
      go_ret
      exact ⟨ret_bool (by rw [HT.out]), Below.refl _ _⟩
    · have v1' : (v.toList == [116, 114, 117, 101]) = false := by simpa using v1
      by_cases v2 : v.toList = [102, 97, 108, 115, 101]
      · have HT : Hid (R = true) := by show _ = _; rw [HV.out, decide_eq_true (show v.toList = vFalse from v2)]; simp
        go_enter Tryz.func53, Tryz.ntmps53
        go_wp2
        go_ret
        exact ⟨ret_bool (by rw [HT.out]), Below.refl _ _⟩
      · have v2' : (v.toList == [102, 97, 108, 115, 101]) = false := by simpa using v2
        have HT : Hid (R = false) := by show _ = _; rw [HV.out, decide_eq_false (show ¬ v.toList = vFalse from v2), decide_eq_false (show ¬ v.toList = vTrue from v1)]; rfl
        go_enter Tryz.func53, Tryz.ntmps53
        go_wp2
        go_ret
        exact ⟨ret_bool (by rw [HT.out]), Below.refl _ _⟩
  have k1' : (k.toList == [98, 111, 111, 108]) = false := by simpa using k1
  by_cases k2 : k.toList = [105, 110, 116]
  · have HV : Hid (R = intB v.data.toList) := by show _ = _; rw [← HR.out, val_int (by rw [ek]; exact k2)]
    rw [← HV.out] at HIN
    clear HCH HSP HR hvl ek ev
    go_enter Tryz.func53, Tryz.ntmps53
    go_wp2_with (go_at_call 71; refine (HIN.out _).mono ?_; rintro e w1 ⟨rfl, hw1⟩; obtain rfl := hw1.symm; clear hw1)
    go_ret
    exact ⟨rfl, Below.refl _ _⟩
  have k2' : (k.toList == [105, 110, 116]) = false := by simpa using k2
  by_cases k3 : k.toList = [116, 101, 120, 116]
  · have HV : Hid (R = decide (v.size ≤ 4000)) := by show _ = _; rw [← HR.out, val_text (by rw [ek]; exact k3), hvl]
    clear HIN HCH HSP HR hvl ek ev
    by_cases h4 : v.size ≤ 4000
    · have h4' : (v.size : Int) ≤ 4000 := by omega
      go_enter Tryz.func53, Tryz.ntmps53
      go_wp2
      go_ret
      exact ⟨by rw [HV.out]; simp [h4], Below.refl _ _⟩
    · have h4' : ¬ (v.size : Int) ≤ 4000 := by omega
      go_enter Tryz.func53, Tryz.ntmps53
      go_wp2
      go_ret
      exact ⟨by rw [HV.out]; simp [h4], Below.refl _ _⟩
  have k3' : (k.toList == [116, 101, 120, 116]) = false := by simpa using k3
  by_cases k4 : k.toList = [108, 105, 115, 116]
  · have HV : Hid (R = (decide (v.toList = []) || (spl 32 [] v.data.toList).all nL)) := by show _ = _; rw [← HR.out, val_list (by rw [ek]; exact k4), ev]
    clear HIN HCH HR hvl ek ev hcl
    obtain ⟨ps, hps⟩ : ∃ ps, spl 32 [] v.data.toList = ps := ⟨_, rfl⟩
    rw [hps] at HSP HV hpl HSM
    clear hps
    go_enter Tryz.func53, Tryz.ntmps53
    go_wp2_with (go_at_call 54; refine (HSP.out _).mono ?_; rintro e w1 ⟨⟨g, off, cap, rfl, hcap, hrow⟩, hl1⟩; refine Hid.out ?_)
    refine Lib.hid ?_
    have HRW : Hid (RowL w1 g off ps) := hrow
    have HB1 : Hid (Below w.heap.size w w1) := hl1
    clear hrow hl1 HSP
    go_wp2
    go_loopw [6] (fun x wr => ∃ j : Nat, j ≤ ps.length ∧ x = .int .i64 (j : Int) ∧ (∀ y ∈ ps.take j, nL y = true) ∧ wr = w1) (fun x _ => ps.length - (intOf x).toNat)
    case atStart => exact ⟨0, Nat.zero_le _, rfl, by simp, rfl⟩
    case round =>
      obtain ⟨j, hj, rfl, hal, rfl⟩ := hrel
      have HAL : Hid (∀ y ∈ ps.take j, nL y = true) := hal
      clear hal
      by_cases hlt : j < ps.length
      · have hlt' : (j : Int) < (ps.length : Int) := by omega
        have hj0 : (0 : Int) ≤ (j : Int) := by omega
        by_cases he : v.toList = []
        · have he' : v.toList.isEmpty = true := by rw [he]; rfl
          have HT : Hid (R = true) := by show _ = _; rw [HV.out, decide_eq_true he]; rfl
          clear he
          go_wp2
          go_ret
          exact ⟨ret_bool (by rw [HT.out]), HB1.out⟩
        · have he' : v.toList.isEmpty = false := by simpa using he
          obtain ⟨x, hx⟩ : ∃ x, ps[j]? = some x := ⟨_, List.getElem?_eq_getElem hlt⟩
          have c0 := HRW.out j x hx
          have HX : Hid (ps[j]? = some x) := hx
          have HNM : Hid (∀ W, Calls Tryz.prog 28 #[.string ⟨x.toArray⟩] W fun e w' => e = .returned (.bool (nL x)) ∧ w' = W) := fun W => nm.spec_any ⟨x.toArray⟩ (by show x.toArray.size ≤ _; have := HSM.out x (List.mem_of_getElem? hx); simpa using this) W
          obtain ⟨X, hX⟩ : ∃ X : ByteArray, (⟨x.toArray⟩ : ByteArray) = X := ⟨_, rfl⟩
          rw [hX] at c0 HNM
          clear hx hX
          cases hnb : nL x with
          | false =>
            rw [hnb] at HNM
            have HF : Hid (R = false) := by show _ = _; rw [HV.out, decide_eq_false he, all_no HX.out hnb]; rfl
            clear hnb he
            go_wp2_with (go_at_call 28; refine (HNM.out _).mono ?_; rintro e w2 ⟨rfl, hw2⟩; obtain rfl := hw2.symm; clear hw2)
            go_ret
            exact ⟨ret_bool (by rw [HF.out]), HB1.out⟩
          | true =>
            rw [hnb] at HNM
            have HT : Hid (nL x = true) := hnb
            clear hnb he
            go_wp2_with (go_at_call 28; refine (HNM.out _).mono ?_; rintro e w2 ⟨rfl, hw2⟩; obtain rfl := hw2.symm; clear hw2)
            go_roundw
            case rel => exact ⟨j + 1, by omega, by go_num, all_more HX.out HAL.out HT.out, by first | rfl | trivial⟩
            case measure => simp [intOf]; omega
      · have hlt' : ¬ (j : Int) < (ps.length : Int) := by omega
        obtain rfl : j = ps.length := by omega
        have HT : Hid (R = true) := by
          show _ = _
          have h1 := HAL.out
          rw [List.take_length] at h1
          rw [HV.out, List.all_eq_true.2 h1]
          simp
        go_wp2
        go_ret
        exact ⟨ret_bool (by rw [HT.out]), HB1.out⟩
  have k4' : (k.toList == [108, 105, 115, 116]) = false := by simpa using k4
  have HV : Hid (R = decide (v.data.toList ∈ cws (spl 124 [] k.data.toList))) := by show _ = _; rw [← HR.out, val_choice (by rw [ek]; exact k1) (by rw [ek]; exact k2) (by rw [ek]; exact k3) (by rw [ek]; exact k4)]
  obtain ⟨ps, hps⟩ : ∃ ps, cws (spl 124 [] k.data.toList) = ps := ⟨_, rfl⟩
  rw [hps] at HCH HV hcl
  have HHS : Hid (∀ (W : World) (g off cap : Nat), RowL W g off ps → Calls Tryz.prog 35 #[.slice (some ⟨g, off, none⟩) ps.length cap, .string v] W fun e w' => e = .returned (.bool R) ∧ w' = W) := fun W g off cap h => by
    have := hasL_any ps g off ps.length cap v (Nat.le_refl _) hcl W h
    rwa [List.take_length, ← HV.out] at this
  clear HIN HSP HR hvl ek ev hpl HSM hps
  go_enter Tryz.func53, Tryz.ntmps53
  go_wp2_with (first
    | (go_at_call 70; refine (HCH.out _).mono ?_; rintro e w1 ⟨⟨g, off, cap, rfl, hcap, hrow⟩, hl1⟩; have HRW : Hid (RowL w1 g off ps) := hrow; have HB1 : Hid (Below w.heap.size w w1) := hl1; clear hrow hl1)
    | (go_at_call 35; refine (HHS.out _ _ _ _ HRW.out).mono ?_; rintro e w2 ⟨rfl, hw2⟩; obtain rfl := hw2.symm; clear hw2))
  go_ret
  exact ⟨rfl, HB1.out⟩

end Go.Proofs.YthkngngkmbohoaaGreatDoor.op
