import Derived.Test.YthklplfpnciodaaGreatDoorXE
import Derived.Deep.Light
namespace Go.Proofs.YthklplfpnciodaaGreatDoor.ex
open Go.ChangeShapes Go.WideShapes Go.ChangeAt Go.RowKit Go.Deep Go.Maps
set_option linter.unusedVariables false
set_option linter.unusedSimpArgs false

theorem all_isX (E : Nat → Ex) {n : Nat} (h0 : 0 < n) (h1 : n ≤ 3000) : okAll E n = (isX (E 0).kind && ok E 61 0 n) := by
  unfold okAll
  rw [decide_eq_true (show 0 < n ∧ n ≤ 3000 from ⟨h0, h1⟩), Bool.true_and]
  cases ho : ok E 61 0 n with
  | false => simp
  | true =>
    have := ok_kind ho
    simp only [okKind, decide_eq_true_eq] at this
    rw [Bool.and_true, Bool.and_true]
    simp only [exprK, isX, decide_eq_decide]
    omega
theorem all_out (E : Nat → Ex) {n : Nat} (h : ¬ (0 < n ∧ n ≤ 3000)) : okAll E n = false := by simp [okAll, h]

set_option maxRecDepth 100000 in
set_option maxHeartbeats 1000000 in
theorem iok_any (E : Nat → Ex) (b n cap : Nat) (hn : n ≤ 1048576) (hc : n ≤ cap ∧ cap ≤ 1099511627776) (ht : ∀ i, i < n → (E i).text.size ≤ 1048576) (w : World) (hX : XsB w b n E) (T : Tabs w) :
    Calls Tryz.prog 17 #[.slice (some ⟨b, 0, none⟩) n cap] w fun e w' => e = .returned (.bool (okAll E n)) ∧ Below w.heap.size w w' := by
  by_cases h0 : n = 0
  · subst h0
    have HO : Hid (okAll E 0 = false) := all_out E (by omega)
    go_enter Tryz.func17, Tryz.ntmps17
    go_wp2_with fail
    go_ret
    exact ⟨ret_bool HO.out.symm, Below.refl _ _⟩
  have h0' : (0 : Int) < (n : Int) := by omega
  have h0n : ¬ n = 0 := h0
  by_cases h1 : n ≤ 3000
  · have h1' : ¬ (3000 : Int) < (n : Int) := by omega
    obtain ⟨g0, _, _, _⟩ := hX 0 (by omega)
    rw [Nat.zero_mul] at g0
    have HO : Hid (okAll E n = (isX (E 0).kind && ok E 61 0 n)) := all_isX E (by omega) h1
    have HN : Hid (Calls Tryz.prog 33 #[.slice (some ⟨b, 0, none⟩) n cap, .int .i64 0] w fun e w' => e = .returned (.bool (ok E 61 0 n)) ∧ Below w.heap.size w w') := by
      have := node_any E b n h1 ht 61 (Nat.le_refl _) 0 n cap w hX T (by omega) (by omega) hc.1 hc.2
      show Calls _ _ _ _ _
      simpa using this
    cases hx : isX (E 0).kind with
    | false =>
      rw [hx] at HO
      go_enter Tryz.func17, Tryz.ntmps17
      go_wp2_with (go_at_call 32; refine (isX_any _ _).mono ?_; rw [hx]; rintro e w' ⟨rfl, rfl⟩)
      go_ret
      exact ⟨ret_bool HO.out.symm, Below.refl _ _⟩
    | true =>
      rw [hx, Bool.true_and] at HO
      go_enter Tryz.func17, Tryz.ntmps17
      go_wp2_with (first
        | (go_at_call 32; refine (isX_any _ _).mono ?_; rw [hx]; rintro e w' ⟨rfl, rfl⟩)
        | (go_at_call 33; refine HN.out.mono ?_; rintro e w1 ⟨rfl, hl1⟩))
      go_ret
      exact ⟨ret_bool HO.out.symm, hl1⟩
  · have h1' : (3000 : Int) < (n : Int) := by omega
    have HO : Hid (okAll E n = false) := all_out E (by omega)
    go_enter Tryz.func17, Tryz.ntmps17
    go_wp2_with fail
    go_ret
    exact ⟨ret_bool HO.out.symm, Below.refl _ _⟩

/-! ### The document's side -/

theorem wordS {s : ByteArray} (hp : 0 < s.size) (h60 : s.size ≤ 60) (hf : lx.isFirst s[0] = true) (hk : kwB s 10 = false) : wordB s = decide (lx.run lx.isWord (lx.suf s 0) = s.size) := by
  rw [word_rest hp hf hk]
  simp [h60]
theorem word_long {s : ByteArray} (h : 60 < s.size) : wordB s = false := by
  unfold wordB
  split
  · rfl
  · have : ¬ s.size ≤ 60 := by omega
    simp [this]

set_option maxRecDepth 100000 in
set_option maxHeartbeats 1000000 in
theorem sword_any (s : ByteArray) (hs : s.size ≤ 1048576) (w : World) :
    Calls Tryz.prog 59 #[.string s] w fun e w' => e = .returned (.bool (wordB s)) ∧ Below w.heap.size w w' := by
  by_cases hp : 0 < s.size
  · have hp' : ¬ (s.size : Int) < 1 := by omega
    have hpi : (0 : Int) < (s.size : Int) := by omega
    by_cases h60 : s.size ≤ 60
    · have h60' : ¬ (60 : Int) < (s.size : Int) := by omega
      have hb255 : (s[0].toNat : Int) ≤ 255 := by have := s[0].toNat_lt; omega
      cases hf : lx.isFirst s[0] with
      | false =>
        have HW : Hid (wordB s = false) := word_first hp hf
        have hf' := hf
        simp only [lx.isFirst, Bool.or_eq_false_iff] at hf'
        obtain ⟨f1, f2⟩ := hf'
        unfold lx.isB at f2
        have f3 : ((s[0].toNat : Int) != 95) = true := by simp only [bne, f2]; rfl
        clear hf
        go_enter Tryz.func59, Tryz.ntmps59
        go_wp2_with (go_at_call 75; refine (lx.letter_any _ _).mono ?_; rw [f1]; rintro e w' ⟨rfl, rfl⟩)
        go_ret
        exact ⟨ret_bool HW.out.symm, Below.refl _ _⟩
      | true =>
        cases hk : kwB s 10 with
        | true =>
          have HW : Hid (wordB s = false) := word_kw hk
          cases hlt : lx.isLet s[0] with
          | true =>
            go_enter Tryz.func59, Tryz.ntmps59
            go_wp2_with (first
              | (go_at_call 75; refine (lx.letter_any _ _).mono ?_; rw [hlt]; rintro e w' ⟨rfl, rfl⟩)
              | (go_at_call 76; refine (skw_any _ _).mono ?_; rw [hk]; rintro e w1 ⟨rfl, hl1⟩))
            go_ret
            exact ⟨ret_bool HW.out.symm, hl1⟩
          | false =>
            have h95e : ((s[0].toNat : Int) == 95) = true := by simpa [lx.isFirst, hlt, lx.isB] using hf
            have h95 : ((s[0].toNat : Int) != 95) = false := by simp only [bne, h95e]; rfl
            clear h95e
            go_enter Tryz.func59, Tryz.ntmps59
            go_wp2_with (first
              | (go_at_call 75; refine (lx.letter_any _ _).mono ?_; rw [hlt]; rintro e w' ⟨rfl, rfl⟩)
              | (go_at_call 76; refine (skw_any _ _).mono ?_; rw [hk]; rintro e w1 ⟨rfl, hl1⟩))
            go_ret
            exact ⟨ret_bool HW.out.symm, hl1⟩
        | false =>
          have HW : Hid (wordB s = decide (lx.run lx.isWord (lx.suf s 0) = s.size)) := wordS hp h60 hf hk
          have hsl := lx.suf_len s 0
          have hrl := lx.run_le lx.isWord (lx.suf s 0)
          have h95 : lx.isLet s[0] = true ∨ (lx.isLet s[0] = false ∧ ((s[0].toNat : Int) != 95) = false) := by
            cases hlt : lx.isLet s[0] with
            | true => exact .inl rfl
            | false =>
              have : ((s[0].toNat : Int) == 95) = true := by simpa [lx.isFirst, hlt, lx.isB] using hf
              exact .inr ⟨rfl, by simp only [bne, this]; rfl⟩
          rcases h95 with hlt | ⟨hlt, h95⟩
          all_goals (
            go_enter Tryz.func59, Tryz.ntmps59
            go_wp2_with (first
              | (go_at_call 75; refine (lx.letter_any _ _).mono ?_; rw [hlt]; rintro e w' ⟨rfl, rfl⟩)
              | (go_at_call 76; refine (skw_any _ _).mono ?_; rw [hk]; rintro e w1 ⟨rfl, hl1⟩))
            go_loop [3] (fun i => ∃ k : Nat, k ≤ lx.run lx.isWord (lx.suf s 0) ∧ i = .int .i64 (k : Int)) (fun i => s.size - (intOf i).toNat)
            case atStart => exact ⟨0, Nat.zero_le _, rfl⟩
            case round =>
              obtain ⟨k, hkr, rfl⟩ := hrel
              by_cases hks : k < s.size
              · have HG : Hid ((lx.suf s 0)[k]? = some s[k]) := lx.suf_get0 hks
                have hks' : (k : Int) < (s.size : Int) := by omega
                cases hw : lx.isWord s[k] with
                | true =>
                  have hk2 := lx.run_lt hkr HG.out hw
                  go_wp2_with (go_at_call 77; refine (lx.wordByte_any _ _).mono ?_; rw [hw]; rintro e w' ⟨rfl, rfl⟩)
                  go_round
                  case rel => exact ⟨k + 1, by omega, by go_num⟩
                  case measure => simp [intOf]; omega
                | false =>
                  have hke := lx.run_stop hkr HG.out hw
                  have HF : Hid (wordB s = false) := by show _ = _; rw [HW.out]; simp; omega
                  clear hke
                  go_wp2_with (go_at_call 77; refine (lx.wordByte_any _ _).mono ?_; rw [hw]; rintro e w' ⟨rfl, rfl⟩)
                  go_ret
                  exact ⟨ret_bool HF.out.symm, hl1⟩
              · have hks' : ¬ (k : Int) < (s.size : Int) := by omega
                have HF : Hid (wordB s = true) := by show _ = _; rw [HW.out]; simp; omega
                go_wp2_with fail
                go_ret
                exact ⟨ret_bool HF.out.symm, hl1⟩)
    · have h60' : (60 : Int) < (s.size : Int) := by omega
      have HW : Hid (wordB s = false) := word_long (by omega)
      go_enter Tryz.func59, Tryz.ntmps59
      go_wp2_with fail
      go_ret
      exact ⟨ret_bool HW.out.symm, Below.refl _ _⟩
  · have hp' : (s.size : Int) < 1 := by omega
    have HW : Hid (wordB s = false) := by
      show wordB s = false
      unfold wordB
      split
      · rfl
      · rename_i b r hb
        have := congrArg List.length hb
        simp at this
        omega
    go_enter Tryz.func59, Tryz.ntmps59
    go_wp2_with fail
    go_ret
    exact ⟨ret_bool HW.out.symm, Below.refl _ _⟩

theorem count_any (k : Int) (w : World) : Calls Tryz.prog 48 #[.int .i64 k] w fun e w' => e = .returned (.tuple #[.int .i64 (lowS k), .int .i64 (highS k)]) ∧ w' = w := by
  go_enter Tryz.func48, Tryz.ntmps48
  go_wp2
  all_goals go_ret2
  all_goals refine ⟨?_, rfl⟩
  all_goals (go_light; simp_all [lowS, highS])

end Go.Proofs.YthklplfpnciodaaGreatDoor.ex
