import Derived.Test.YtklgeahgaeodiaaDoorCA
namespace Go.Proofs.YtklgeahgaeodiaaDoor.cd
open Go.ChangeShapes Go.WideShapes Go.ChangeAt Go.RowKit Go.Deep
set_option linter.unusedVariables false
set_option linter.unusedSimpArgs false

/-! ### The specification's side -/

set_option maxRecDepth 100000 in
theorem part_any (E : Nat → Cn) (b n p len cap i z : Nat) (w : World) (hX : XsB w b n E) (hp : p + len ≤ n) (hn : n ≤ 3000) (hc : len ≤ cap ∧ cap ≤ 9223372036854775807) (hi : i < len) (hz : (E (p + i)).size = (z : Int)) (hf : i + (z + 1) ≤ len) :
    Calls Tryd.prog 27 #[.slice (some ⟨b, p * 3, none⟩) len cap, .int .i64 (i : Int)] w fun e w' => e = .returned (.slice (some ⟨b, (p + i) * 3, none⟩) (z + 1) (cap - i)) ∧ w' = w := by
  obtain ⟨g0, g1, g2⟩ := hX (p + i) (by omega)
  rw [hz, show (p + i) * 3 + 2 = p * 3 + i * 3 + 2 by omega] at g2
  have hi' : (i : Int) < (len : Int) := by omega
  have h1 : (i : Int) ≤ (i : Int) + 1 + (z : Int) := by omega
  have h2 : (i : Int) + 1 + (z : Int) ≤ (cap : Int) := by omega
  have HP : Hid ((p + i) * 3 = p * 3 + i * 3) := by show _ = _; omega
  have hne : ¬ cap = i := by omega
  clear g0 g1 hz hX
  go_enter Tryd.func27, Tryd.ntmps27
  go_wp2
  go_ret
  refine ⟨?_, rfl⟩
  rw [HP.out]
  simp [hne]
  omega

/-- What is left to be asked at a place, with so many parts counted. -/
def lft (E : Nat → Cn) (r p q left m : Nat) : Bool := match cutP E q left with
  | none => false
  | some qs => (qs.all fun q => ok E r q ((E q).size.toNat + 1)) && fitB (E p) (m + qs.length)

theorem lft_ok {E : Nat → Cn} {r p len : Nat} (hz : (E p).size = (len : Int) - 1) : ok E (r + 1) p len = lft E r p (p + 1) (len - 1) 0 := by
  unfold lft
  rw [ok]
  cases cutP E (p + 1) (len - 1) <;> simp [hz]
theorem lft_bad {E : Nat → Cn} {r p q left m : Nat} (h : 0 < left) (hb : (E q).size < 0 ∨ (left : Int) ≤ (E q).size) : lft E r p q left m = false := by unfold lft; rw [cut_bad h hb]
theorem lft_no {E : Nat → Cn} {r p q left m : Nat} (h : 0 < left) (hb : ¬ ((E q).size < 0 ∨ (left : Int) ≤ (E q).size)) (ho : ok E r q ((E q).size.toNat + 1) = false) : lft E r p q left m = false := by
  unfold lft; rw [cut_step h hb]
  cases cutP E (q + ((E q).size.toNat + 1)) (left - ((E q).size.toNat + 1)) <;> simp [ho]
theorem lft_yes {E : Nat → Cn} {r p q left m : Nat} (h : 0 < left) (hb : ¬ ((E q).size < 0 ∨ (left : Int) ≤ (E q).size)) (ho : ok E r q ((E q).size.toNat + 1) = true) : lft E r p q left m = lft E r p (q + ((E q).size.toNat + 1)) (left - ((E q).size.toNat + 1)) (m + 1) := by
  unfold lft; rw [cut_step h hb]
  cases cutP E (q + ((E q).size.toNat + 1)) (left - ((E q).size.toNat + 1)) with
  | none => rfl
  | some qs => simp [ho, Nat.add_assoc, Nat.add_comm 1]
theorem lft_end {E : Nat → Cn} {r p q m : Nat} : lft E r p q 0 m = fitB (E p) m := by unfold lft; rw [cut_zero]; simp

set_option maxRecDepth 100000 in
set_option maxHeartbeats 4000000 in
theorem l7Ok_any (E : Nat → Cn) (b n : Nat) (hn : n ≤ 3000) (hs : ∀ i, i < n → (E i).name.size ≤ 1048576) : ∀ (r ar : Nat), ar + r = 61 → ∀ (p len cap : Nat) (w : World), XsB w b n E → 0 < len → p + len ≤ n → len ≤ cap → cap ≤ 9223372036854775807 →
    Calls Tryd.prog 19 #[.slice (some ⟨b, p * 3, none⟩) len cap, .int .i64 (ar : Int)] w fun e w' => e = .returned (.bool (ok E r p len)) ∧ w' = w := by
  intro r
  induction r with
  | zero =>
    intro ar har p len cap w hX hl hp hc hcap
    obtain rfl : ar = 61 := by omega
    have hl' : ¬ (len : Int) = 0 := by omega
    clear hX
    go_enter Tryd.func19, Tryd.ntmps19
    go_wp2
    go_ret
    exact ⟨rfl, rfl⟩
  | succ r ih =>
    intro ar har p len cap w hX hl hp hc hcap
    obtain ⟨g0, g1, g2⟩ := hX p (by omega)
    have hl' : ¬ (len : Int) = 0 := by omega
    have hl0 : (0 : Int) < (len : Int) := by omega
    have har' : ¬ (60 : Int) < (ar : Int) := by omega
    have hsp := hs p (by omega)
    by_cases hz : (E p).size = (len : Int) - 1
    · have HK : Hid (ok E (r + 1) p len = lft E r p (p + 1) (len - 1) 0) := lft_ok hz
      rw [hz] at g2
      clear hz
      go_enter Tryd.func19, Tryd.ntmps19
      go_wp2
      go_loop [5, 6] (fun c i => ∃ (m j : Nat), c = .int .i64 (m : Int) ∧ i = .int .i64 (j : Int) ∧ 1 ≤ j ∧ j ≤ len ∧ m < j ∧ lft E r p (p + 1) (len - 1) 0 = lft E r p (p + j) (len - j) m) (fun _ i => len - (intOf i).toNat)
      case atStart => exact ⟨0, 1, rfl, rfl, by omega, by omega, by omega, rfl⟩
      case round =>
        obtain ⟨m, j, rfl, rfl, hj1, hjl, hmj, hlf⟩ := hrel
        have HL : Hid (lft E r p (p + 1) (len - 1) 0 = lft E r p (p + j) (len - j) m) := hlf
        clear hlf
        by_cases hjt : j < len
        · have hjt' : (j : Int) < (len : Int) := by omega
          obtain ⟨e0, e1, e2⟩ := hX (p + j) (by omega)
          rw [show (p + j) * 3 + 2 = p * 3 + j * 3 + 2 by omega] at e2
          clear e0 e1
          by_cases hb : (E (p + j)).size < 0 ∨ ((len - j : Nat) : Int) ≤ (E (p + j)).size
          · have HN : Hid (ok E (r + 1) p len = false) := by show _ = _; rw [HK.out, HL.out, lft_bad (by omega) hb]
            by_cases hb0 : (E (p + j)).size < 0
            · clear hb
              go_wp2
              go_ret
              exact ⟨ret_bool HN.out.symm, rfl⟩
            · have hb1 : (len : Int) - (j : Int) - 1 < (E (p + j)).size := by omega
              clear hb
              go_wp2
              go_ret
              exact ⟨ret_bool HN.out.symm, rfl⟩
          · have hb0 : ¬ (E (p + j)).size < 0 := by omega
            have hb1 : ¬ (len : Int) - (j : Int) - 1 < (E (p + j)).size := by omega
            obtain ⟨z, hz⟩ : ∃ z : Nat, (E (p + j)).size = z := ⟨(E (p + j)).size.toNat, by omega⟩
            have hzt : (E (p + j)).size.toNat = z := by omega
            have HNO : ok E r (p + j) (z + 1) = false → ok E (r + 1) p len = false := fun h => by rw [HK.out, HL.out, lft_no (by omega) hb (by rw [hzt]; exact h)]
            have HYE : ok E r (p + j) (z + 1) = true → lft E r p (p + 1) (len - 1) 0 = lft E r p (p + (j + (z + 1))) (len - (j + (z + 1))) (m + 1) := fun h => by
              rw [HL.out, lft_yes (by omega) hb (by rw [hzt]; exact h), hzt]
              rw [show p + j + (z + 1) = p + (j + (z + 1)) by omega, show len - j - (z + 1) = len - (j + (z + 1)) by omega]
            have HP : Hid (∀ W, W = w → Calls Tryd.prog 27 #[.slice (some ⟨b, p * 3, none⟩) len cap, .int .i64 (j : Int)] W fun e w' => e = .returned (.slice (some ⟨b, (p + j) * 3, none⟩) (z + 1) (cap - j)) ∧ w' = W) := fun W h => by subst h; exact part_any E b n p len cap j z W hX hp hn ⟨hc, hcap⟩ hjt hz (by omega)
            have HI := ih (ar + 1) (by omega) (p + j) (z + 1) (cap - j) w hX (by omega) (by omega) (by omega) (by omega)
            have HI1 : Calls Tryd.prog 19 #[.slice (some ⟨b, (p + j) * 3, none⟩) (z + 1) (cap - j), .int .i64 ((ar : Int) + 1)] w fun e w' => e = .returned (.bool (ok E r (p + j) (z + 1))) ∧ w' = w := by simpa using HI
            have hzl : j + (z + 1) ≤ len := by omega
            rw [hz] at e2 hb0 hb1
            clear hb hz hzt HI ih
            cases hok : ok E r (p + j) (z + 1) with
            | false =>
              have HN : Hid (ok E (r + 1) p len = false) := HNO hok
              have HI' : Hid (∀ W, W = w → Calls Tryd.prog 19 #[.slice (some ⟨b, (p + j) * 3, none⟩) (z + 1) (cap - j), .int .i64 ((ar : Int) + 1)] W fun e w' => e = .returned (.bool false) ∧ w' = W) := fun W h => by subst h; rw [hok] at HI1; exact HI1
              clear HI1 HNO HYE hok
              go_wp2_with (first
                | (go_at_call 27; refine (HP.out _ rfl).mono ?_; rintro e wx ⟨rfl, hw⟩; obtain rfl := hw.symm; clear hw)
                | (go_at_call 19; refine (HI'.out _ rfl).mono ?_; rintro e wx ⟨rfl, hw⟩; obtain rfl := hw.symm; clear hw))
              go_ret
              exact ⟨ret_bool HN.out.symm, rfl⟩
            | true =>
              have HY : Hid (lft E r p (p + 1) (len - 1) 0 = lft E r p (p + (j + (z + 1))) (len - (j + (z + 1))) (m + 1)) := HYE hok
              have HI' : Hid (∀ W, W = w → Calls Tryd.prog 19 #[.slice (some ⟨b, (p + j) * 3, none⟩) (z + 1) (cap - j), .int .i64 ((ar : Int) + 1)] W fun e w' => e = .returned (.bool true) ∧ w' = W) := fun W h => by subst h; rw [hok] at HI1; exact HI1
              clear HI1 HNO HYE hok
              go_wp2_with (first
                | (go_at_call 27; refine (HP.out _ rfl).mono ?_; rintro e wx ⟨rfl, hw⟩; obtain rfl := hw.symm; clear hw)
                | (go_at_call 19; refine (HI'.out _ rfl).mono ?_; rintro e wx ⟨rfl, hw⟩; obtain rfl := hw.symm; clear hw))
              go_round
              case rel => exact ⟨m + 1, j + (z + 1), by go_num, by congr 1; omega, by omega, by omega, by omega, HY.out⟩
              case measure => simp [intOf]; omega
        · have hjt' : ¬ (j : Int) < (len : Int) := by omega
          obtain rfl : j = len := by omega
          have HV : Hid (ok E (r + 1) p j = fitB (E p) m) := by show _ = _; rw [HK.out, HL.out, show j - j = 0 by omega, lft_end]
          have HV' : Hid (ok E (r + 1) p j = fitB ⟨(E p).kind, (E p).name, 0⟩ m) := HV.out
          clear ih HK HL HV
          generalize (E p).kind = K at *
          generalize (E p).name = T at *
          by_cases hk1 : K = 1
          · subst hk1
            have HF : Hid (ok E (r + 1) p j = (decide (m = 0) && (nm.nameB T && (!(T.toList == tw) && !(T.toList == fw))))) := by show _ = _; rw [HV'.out]; simp [fitB]
            clear HV'
            by_cases hm0 : m = 0
            · subst hm0
              cases hnb : nm.nameB T with
              | false =>
                go_wp2_with (go_at_call 28; refine (nm.spec_any _ hsp _).mono ?_; rw [hnb]; rintro e wx ⟨rfl, hw⟩; obtain rfl := hw.symm; clear hw)
                go_ret
                exact ⟨ret_bool (by rw [HF.out, hnb]; simp), rfl⟩
              | true =>
                cases ht : (T.toList == tw) with
                | true =>
                  have hte : T.toList = [116, 114, 117, 101] := by rw [beq_iff_eq] at ht; exact ht
                  go_wp2_with (go_at_call 28; refine (nm.spec_any _ hsp _).mono ?_; rw [hnb]; rintro e wx ⟨rfl, hw⟩; obtain rfl := hw.symm; clear hw)
                  all_goals first
                    | (go_ret; exact ⟨ret_bool (by rw [HF.out, ht]; simp [hte]), rfl⟩)
                    | (exfalso; simp_all)
                | false =>
                  have htn : ¬ T.toList = [116, 114, 117, 101] := by rw [beq_eq_false_iff_ne] at ht; exact ht
                  cases hf : (T.toList == fw) with
                  | true =>
                    have hfe : T.toList = [102, 97, 108, 115, 101] := by rw [beq_iff_eq] at hf; exact hf
                    go_wp2_with (go_at_call 28; refine (nm.spec_any _ hsp _).mono ?_; rw [hnb]; rintro e wx ⟨rfl, hw⟩; obtain rfl := hw.symm; clear hw)
                    all_goals first
                      | (go_ret; exact ⟨ret_bool (by rw [HF.out, hf]; simp [hfe]), rfl⟩)
                      | (exfalso; simp_all)
                  | false =>
                    have hfn : ¬ T.toList = [102, 97, 108, 115, 101] := by rw [beq_eq_false_iff_ne] at hf; exact hf
                    go_wp2_with (go_at_call 28; refine (nm.spec_any _ hsp _).mono ?_; rw [hnb]; rintro e wx ⟨rfl, hw⟩; obtain rfl := hw.symm; clear hw)
                    all_goals first
                      | (go_ret; exact ⟨ret_bool (by rw [HF.out, hf, ht, hnb]; simp [htn, hfn]), rfl⟩)
                      | (exfalso; simp_all)
            · have hm0' : ¬ (m : Int) = 0 := by omega
              go_wp2
              go_ret
              exact ⟨ret_bool (by rw [HF.out]; simp [hm0]), rfl⟩
          · have HF : Hid (ok E (r + 1) p j = (T.toList.isEmpty && (if K = 2 ∨ K = 3 then decide (m = 0) else if K = 4 then decide (m = 1) else decide (K = 5 ∨ K = 6) && decide (2 ≤ m)))) := by show _ = _; rw [HV'.out]; unfold fitB; rw [if_neg hk1]
            clear HV'
            by_cases h23 : K = 2 ∨ K = 3
            · have HV2 : Hid (ok E (r + 1) p j = (T.toList.isEmpty && decide (m = 0))) := by show _ = _; rw [HF.out, if_pos h23]
              clear HF
              rcases h23 with rfl | rfl
              · go_wp2
                all_goals (go_ret; exact ⟨ret_bool (by rw [HV2.out, Bool.eq_iff_iff]; simp [*] <;> omega), rfl⟩)
              · go_wp2
                all_goals (go_ret; exact ⟨ret_bool (by rw [HV2.out, Bool.eq_iff_iff]; simp [*] <;> omega), rfl⟩)
            · by_cases h4 : K = 4
              · subst h4
                have HV2 : Hid (ok E (r + 1) p j = (T.toList.isEmpty && decide (m = 1))) := by show _ = _; rw [HF.out]; simp
                clear h23 HF
                go_wp2
                all_goals (go_ret; exact ⟨ret_bool (by rw [HV2.out, Bool.eq_iff_iff]; simp [*] <;> omega), rfl⟩)
              · have HV2 : Hid (ok E (r + 1) p j = (T.toList.isEmpty && (decide (K = 5 ∨ K = 6) && decide (2 ≤ m)))) := by show _ = _; rw [HF.out, if_neg h23, if_neg h4]
                have h2' : ¬ K = 2 := by omega
                have h3' : ¬ K = 3 := by omega
                clear h23 HF
                by_cases h5 : K = 5
                · subst h5
                  go_wp2
                  all_goals (go_ret; exact ⟨ret_bool (by rw [HV2.out, Bool.eq_iff_iff]; simp [*] <;> omega), rfl⟩)
                · by_cases h6 : K = 6
                  · subst h6
                    go_wp2
                    all_goals (go_ret; exact ⟨ret_bool (by rw [HV2.out, Bool.eq_iff_iff]; simp [*] <;> omega), rfl⟩)
                  · go_wp2
                    all_goals (go_ret; exact ⟨ret_bool (by rw [HV2.out]; simp [*]), rfl⟩)
    · have HN : Hid (ok E (r + 1) p len = false) := ok_size hz
      have hzb : ((E p).size != (len : Int) - 1) = true := by simp [hz]
      have hlb : ((len : Int) == 0) = false := by simp; omega
      clear hX ih
      go_enter Tryd.func19, Tryd.ntmps19
      go_wp2
      go_ret
      exact ⟨ret_bool HN.out.symm, rfl⟩

end Go.Proofs.YtklgeahgaeodiaaDoor.cd
