import Derived.Test.YthklplfpnciodaaGreatDoorXF
namespace Go.Proofs.YthklplfpnciodaaGreatDoor.ex
open Go.ChangeShapes Go.WideShapes Go.ChangeAt Go.RowKit Go.Deep Go.Maps
set_option linter.unusedVariables false
set_option linter.unusedSimpArgs false

theorem use_other {k : Int} (h2 : ¬ k = 2) (h3 : ¬ (k = 3 ∨ k = 6 ∨ k = 7 ∨ k = 13 ∨ k = 15 ∨ k = 16 ∨ k = 17)) (h18 : ¬ k = 18) : useOf k = 0 := by
  simp only [useOf, if_neg h2, if_neg h3, if_neg h18]

theorem nodeS_of {k n z : Int} {s : ByteArray} {u : Int} {m : Int} (hu : useOf k = u) (hm : mostN k = m) : nodeS ⟨k, s, n, z⟩ = (decide (0 ≤ n ∧ n ≤ m) && textB s u) := by
  simp only [nodeS, nB, hu, hm]

theorem text0 (s : ByteArray) : textB s 0 = s.toList.isEmpty := by simp [textB]
theorem text1 (s : ByteArray) : textB s 1 = !((es.showA s).toList.isEmpty) := by simp [textB]
theorem text2 (s : ByteArray) : textB s 2 = wordB s := by simp [textB]
theorem text3 (s : ByteArray) : textB s 3 = opB s 15 := by simp [textB]
theorem zero_n (n : Int) : decide (0 ≤ n ∧ n ≤ 0) = (n == 0) := by
  rw [Bool.eq_iff_iff]
  simp
  omega

set_option maxRecDepth 100000 in
set_option maxHeartbeats 2000000 in
theorem snode_any (k n z : Int) (s : ByteArray) (hs : s.size ≤ 1048576) (w : World) :
    Calls Tryz.prog 47 #[.agg #[.int .i64 k, .string s, .int .i64 n, .int .i64 z]] w fun e w' => e = .returned (.bool (nodeS ⟨k, s, n, z⟩)) ∧ Below w.heap.size w w' := by
  have b0 : Below w.heap.size w (w.alloc (.cells #[.int .i64 k, .string s, .int .i64 n, .int .i64 z] 38)) := (Below.refl _ _).alloc (Nat.le_refl _) _
  have hbx := lx.four_lit w (.int .i64 k) (.string s) (.int .i64 n) (.int .i64 z) 38
  have hs0 : w.heap.size < (w.alloc (.cells #[.int .i64 k, .string s, .int .i64 n, .int .i64 z] 38)).heap.size := by simp
  by_cases h1 : k = 1
  · subst h1
    have HS : Hid (nodeS ⟨1, s, n, z⟩ = (decide (0 ≤ n ∧ n ≤ 9007199254740992) && s.toList.isEmpty)) := by show _ = _; rw [nodeS_of (u := 0) (m := 9007199254740992) rfl rfl, text0]
    clear hbx
    go_enter Tryz.func47, Tryz.ntmps47
    go_wp2_with fail
    all_goals go_ret
    all_goals (go_light; refine ⟨ret_bool ?_, b0⟩; rw [HS.out, Bool.eq_iff_iff]; simp_all; try omega)
  by_cases h2 : k = 2
  · subst h2
    have HS : Hid (nodeS ⟨2, s, n, z⟩ = ((n == 0) && !((es.showA s).toList.isEmpty))) := by show _ = _; rw [nodeS_of (u := 1) (m := 0) rfl rfl, text1, zero_n]
    clear h1
    go_enter Tryz.func47, Tryz.ntmps47
    cases hsh : (es.showA s).toList.isEmpty with
    | true =>
      go_wp2_with (go_at_call 58; refine (es.spec_any _ hs _).mono ?_; rintro e w1 ⟨rfl, hl1⟩; obtain ⟨x0, x1, x2, x3⟩ := hbx; have y2 := (hl1.cell (p := ⟨w.heap.size, 2, none⟩) hs0).trans x2)
      go_ret
      exact ⟨ret_bool (by rw [HS.out, hsh]; simp), b0.trans (hl1.mono b0.size)⟩
    | false =>
      go_wp2_with (go_at_call 58; refine (es.spec_any _ hs _).mono ?_; rintro e w1 ⟨rfl, hl1⟩; obtain ⟨x0, x1, x2, x3⟩ := hbx; have y2 := (hl1.cell (p := ⟨w.heap.size, 2, none⟩) hs0).trans x2)
      go_ret
      exact ⟨ret_bool (by rw [HS.out, hsh]; simp), b0.trans (hl1.mono b0.size)⟩
  by_cases hw : k = 3 ∨ k = 6 ∨ k = 7 ∨ k = 13 ∨ k = 15 ∨ k = 16 ∨ k = 17
  · have HS : Hid (nodeS ⟨k, s, n, z⟩ = ((n == 0) && wordB s)) := by
      show _ = _
      rw [nodeS_of (u := 2) (m := 0) (by rw [useOf, if_neg h2, if_pos hw]) (by rw [mostN, if_neg h1, if_neg (by omega)]), text2, zero_n]
    clear h1 h2
    obtain ⟨x0, x1, x2, x3⟩ := hbx
    cases hx : wordB s with
    | true =>
      rcases hw with rfl | rfl | rfl | rfl | rfl | rfl | rfl
      all_goals (
        go_enter Tryz.func47, Tryz.ntmps47
        go_wp2_with (go_at_call 59; refine (sword_any _ hs _).mono ?_; rw [hx]; rintro e w1 ⟨rfl, hl1⟩; have y2 := (hl1.cell (p := ⟨w.heap.size, 2, none⟩) hs0).trans x2)
        go_ret
        exact ⟨ret_bool (by rw [HS.out, hx]; simp), b0.trans (hl1.mono b0.size)⟩)
    | false =>
      rcases hw with rfl | rfl | rfl | rfl | rfl | rfl | rfl
      all_goals (
        go_enter Tryz.func47, Tryz.ntmps47
        go_wp2_with (go_at_call 59; refine (sword_any _ hs _).mono ?_; rw [hx]; rintro e w1 ⟨rfl, hl1⟩)
        go_ret
        exact ⟨ret_bool (by rw [HS.out, hx]; simp), b0.trans (hl1.mono b0.size)⟩)
  by_cases h18 : k = 18
  · subst h18
    have HS : Hid (nodeS ⟨18, s, n, z⟩ = ((n == 0) && opB s 15)) := by show _ = _; rw [nodeS_of (u := 3) (m := 0) rfl rfl, text3, zero_n]
    clear h1 h2 hw
    obtain ⟨x0, x1, x2, x3⟩ := hbx
    cases hx : opB s 15 with
    | true =>
      go_enter Tryz.func47, Tryz.ntmps47
      go_wp2_with (go_at_call 60; refine (sop_any _ _).mono ?_; rw [hx]; rintro e w1 ⟨rfl, hl1⟩; have y2 := (hl1.cell (p := ⟨w.heap.size, 2, none⟩) hs0).trans x2)
      go_ret
      exact ⟨ret_bool (by rw [HS.out, hx]; simp), b0.trans (hl1.mono b0.size)⟩
    | false =>
      go_enter Tryz.func47, Tryz.ntmps47
      go_wp2_with (go_at_call 60; refine (sop_any _ _).mono ?_; rw [hx]; rintro e w1 ⟨rfl, hl1⟩)
      go_ret
      exact ⟨ret_bool (by rw [HS.out, hx]; simp), b0.trans (hl1.mono b0.size)⟩
  have hu := use_other h2 hw h18
  clear hbx
  by_cases h5 : k = 5 ∨ k = 14
  · have HS : Hid (nodeS ⟨k, s, n, z⟩ = (decide (0 ≤ n ∧ n ≤ 1) && s.toList.isEmpty)) := by show _ = _; rw [nodeS_of hu (m := 1) (by rw [mostN, if_neg h1, if_pos h5]), text0]
    clear h1 h2 hw h18 hu
    rcases h5 with rfl | rfl
    all_goals (
      go_enter Tryz.func47, Tryz.ntmps47
      go_wp2_with fail)
    all_goals go_ret
    all_goals (go_light; refine ⟨ret_bool ?_, b0⟩; rw [HS.out, Bool.eq_iff_iff]; simp_all; try omega)
  · have HS : Hid (nodeS ⟨k, s, n, z⟩ = ((n == 0) && s.toList.isEmpty)) := by show _ = _; rw [nodeS_of hu (m := 0) (by rw [mostN, if_neg h1, if_neg h5]), text0, zero_n]
    have e1 : (k == 1) = false := by simpa using h1
    have e2 : (k == 2) = false := by simpa using h2
    have e3 : (k == 3) = false := by simp; omega
    have e6 : (k == 6) = false := by simp; omega
    have e7 : (k == 7) = false := by simp; omega
    have e13 : (k == 13) = false := by simp; omega
    have e15 : (k == 15) = false := by simp; omega
    have e16 : (k == 16) = false := by simp; omega
    have e17 : (k == 17) = false := by simp; omega
    have e18 : (k == 18) = false := by simp; omega
    have e5 : (k == 5) = false := by simp; omega
    have e14 : (k == 14) = false := by simp; omega
    clear h1 h2 hw h18 hu h5
    go_enter Tryz.func47, Tryz.ntmps47
    go_wp2_with fail
    all_goals go_ret
    all_goals (go_light; refine ⟨ret_bool ?_, b0⟩; rw [HS.out, Bool.eq_iff_iff]; simp_all; try omega)

end Go.Proofs.YthklplfpnciodaaGreatDoor.ex
