import Derived.Test.YthklplfpnciodaaGreatDoorXA
namespace Go.Proofs.YthklplfpnciodaaGreatDoor.ex
open Go.ChangeShapes Go.WideShapes Go.ChangeAt Go.RowKit Go.Deep
set_option linter.unusedVariables false
set_option linter.unusedSimpArgs false

def SHP : Array Value := #[.int .i64 0, .int .i64 0, .int .i64 0, .int .i64 0, .int .i64 0, .int .i64 0, .int .i64 0, .int .i64 0, .int .i64 0, .int .i64 9007199254740992, .int .i64 0, .int .i64 0, .int .i64 0, .int .i64 1, .int .i64 0, .int .i64 0, .int .i64 0, .int .i64 0, .int .i64 2, .int .i64 0, .int .i64 0, .int .i64 0, .int .i64 3000, .int .i64 0, .int .i64 0, .int .i64 6, .int .i64 0, .int .i64 0, .int .i64 0, .int .i64 1, .int .i64 0, .int .i64 1, .int .i64 1, .int .i64 2, .int .i64 0, .int .i64 0, .int .i64 0, .int .i64 0, .int .i64 2, .int .i64 0, .int .i64 6, .int .i64 1, .int .i64 1, .int .i64 0, .int .i64 0, .int .i64 0, .int .i64 2, .int .i64 2, .int .i64 0, .int .i64 0, .int .i64 0, .int .i64 2, .int .i64 2, .int .i64 0, .int .i64 0, .int .i64 0, .int .i64 2, .int .i64 2, .int .i64 0, .int .i64 0, .int .i64 0, .int .i64 3, .int .i64 3, .int .i64 0, .int .i64 0, .int .i64 0, .int .i64 1, .int .i64 1, .int .i64 2, .int .i64 0, .int .i64 15, .int .i64 1, .int .i64 1, .int .i64 0, .int .i64 1, .int .i64 0, .int .i64 0, .int .i64 1, .int .i64 2, .int .i64 0, .int .i64 0, .int .i64 1, .int .i64 2, .int .i64 2, .int .i64 0, .int .i64 0, .int .i64 1, .int .i64 1, .int .i64 2, .int .i64 0, .int .i64 0, .int .i64 2, .int .i64 2, .int .i64 3, .int .i64 0, .int .i64 0, .int .i64 1, .int .i64 1, .int .i64 0, .int .i64 0, .int .i64 0, .int .i64 1, .int .i64 1, .int .i64 0, .int .i64 0]

/-- The table of shapes, in its own block. -/
def ShpB (w : World) : Prop := ∃ t fr, w.heap[0]? = some (.cells SHP t fr)

theorem ShpB.below {w w' : World} (h : ShpB w) (hb : Below w.heap.size w w') : ShpB w' := by
  obtain ⟨t, fr, h⟩ := h
  exact ⟨t, fr, by rw [hb.block 0 (Array.getElem?_eq_some_iff.1 h).1]; exact h⟩

theorem shp_at {m : Nat} (hm : 1 ≤ m ∧ m ≤ 20) : SHP[m * 5]? = some (.int .i64 (aheadOf m)) ∧ SHP[m * 5 + 1]? = some (.int .i64 (leastOf m)) ∧ SHP[m * 5 + 2]? = some (.int .i64 (mostOf m)) ∧ SHP[m * 5 + 3]? = some (.int .i64 (useOf m)) ∧ SHP[m * 5 + 4]? = some (.int .i64 (mostN m)) := by
  have h : m = 1 ∨ m = 2 ∨ m = 3 ∨ m = 4 ∨ m = 5 ∨ m = 6 ∨ m = 7 ∨ m = 8 ∨ m = 9 ∨ m = 10 ∨ m = 11 ∨ m = 12 ∨ m = 13 ∨ m = 14 ∨ m = 15 ∨ m = 16 ∨ m = 17 ∨ m = 18 ∨ m = 19 ∨ m = 20 := by omega
  rcases h with rfl | rfl | rfl | rfl | rfl | rfl | rfl | rfl | rfl | rfl | rfl | rfl | rfl | rfl | rfl | rfl | rfl | rfl | rfl | rfl <;> exact ⟨rfl, rfl, rfl, rfl, rfl⟩

theorem ShpB.cells {w : World} (h : ShpB w) {m : Nat} (hm : 1 ≤ m ∧ m ≤ 20) : w.cell? ⟨0, m * 5, none⟩ = some (.int .i64 (aheadOf m)) ∧ w.cell? ⟨0, m * 5 + 1, none⟩ = some (.int .i64 (leastOf m)) ∧ w.cell? ⟨0, m * 5 + 2, none⟩ = some (.int .i64 (mostOf m)) ∧ w.cell? ⟨0, m * 5 + 3, none⟩ = some (.int .i64 (useOf m)) ∧ w.cell? ⟨0, m * 5 + 4, none⟩ = some (.int .i64 (mostN m)) := by
  obtain ⟨t, fr, h⟩ := h
  simp only [World.cell?, h]
  exact shp_at hm

theorem word_first {s : ByteArray} (hp : 0 < s.size) (h : lx.isFirst s[0] = false) : wordB s = false := by
  unfold wordB
  split
  · rfl
  · rename_i b r hb
    have : s[0] = b := by
      have h1 : s.data.toList[0]? = some s[0] := by rw [List.getElem?_eq_getElem (by simpa using hp)]; rfl
      rw [hb] at h1
      simpa using h1.symm
    rw [this] at h
    simp [h]

theorem run_whole {f : UInt8 → Bool} : ∀ (l : List UInt8), (lx.run f l = l.length) ↔ l.all f = true
  | [] => by simp [lx.run]
  | b :: r => by
    have ih := run_whole (f := f) r
    have hr := lx.run_le f r
    unfold lx.run at *
    by_cases h : f b = true
    · simp [List.takeWhile_cons, h] at *
      exact ih
    · simp [List.takeWhile_cons, h]

theorem word_rest {s : ByteArray} (hp : 0 < s.size) (h : lx.isFirst s[0] = true) (hk : kwB s 10 = false) : wordB s = decide (lx.run lx.isWord (lx.suf s 0) = s.size ∧ s.size ≤ 60) := by
  unfold wordB
  split
  · rename_i hb
    have := congrArg List.length hb
    simp at this
    rw [this] at hp
    simp at hp
  · rename_i b r hb
    have h0 : s[0] = b := by
      have h1 : s.data.toList[0]? = some s[0] := by rw [List.getElem?_eq_getElem (by simpa using hp)]; rfl
      rw [hb] at h1
      simpa using h1.symm
    rw [h0] at h
    have hw := run_whole (f := lx.isWord) (lx.suf s 0)
    have hl := lx.suf_len s 0
    have hs : lx.suf s 0 = b :: r := by simp [lx.suf, hb]
    rw [hl, Nat.sub_zero] at hw
    rw [h, hk, Bool.true_and, Bool.not_false, Bool.and_true, ← hs, Bool.eq_iff_iff]
    simp only [Bool.and_eq_true, decide_eq_true_eq]
    rw [hw]

theorem optV_word (l : List UInt8) : ∃ a b c, lx.optV (lx.word l) = .tuple #[.agg #[.int .i64 a, .string b, .int .i64 c, .int .i64 0], .int .i64 (if 60 < lx.run lx.isWord l then 0 else (lx.run lx.isWord l : Int))] := by
  unfold lx.word
  split
  · exact ⟨_, _, _, rfl⟩
  · exact ⟨_, _, _, rfl⟩

theorem word_kw {s : ByteArray} (hk : kwB s 10 = true) : wordB s = false := by
  unfold wordB
  split <;> simp [hk]

theorem empty_iff (s : ByteArray) : s.toList.isEmpty = true ↔ s.size = 0 := by
  simp [ByteArray.toList_eq, ← ByteArray.size_data]

set_option maxRecDepth 100000 in
theorem plain_any (s : ByteArray) (hs : s.size ≤ 1048576) (w : World) :
    Calls Tryz.prog 79 #[.string s] w fun e w' => e = .returned (.bool (wordB s)) ∧ Below w.heap.size w w' := by
  by_cases hp : 0 < s.size
  · have he : s.toList.isEmpty = false := by rw [Bool.eq_false_iff]; intro h; have := (empty_iff s).1 h; omega
    have hpi : (0 : Int) < (s.size : Int) := by omega
    have hb255 : (s[0].toNat : Int) ≤ 255 := by have := s[0].toNat_lt; omega
    cases hf : lx.isFirst s[0] with
    | false =>
      have HW : Hid (wordB s = false) := word_first hp hf
      go_enter Tryz.func79, Tryz.ntmps79
      go_wp2_with (go_at_call 89; refine (lx.inWord_yes _ _).mono ?_; rw [hf]; rintro e w' ⟨rfl, rfl⟩)
      go_ret
      exact ⟨ret_bool HW.out.symm, Below.refl _ _⟩
    | true =>
      cases hk : kwB s 10 with
      | true =>
        have HW : Hid (wordB s = false) := word_kw hk
        go_enter Tryz.func79, Tryz.ntmps79
        go_wp2_with (first
          | (go_at_call 89; refine (lx.inWord_yes _ _).mono ?_; rw [hf]; rintro e w' ⟨rfl, rfl⟩)
          | (go_at_call 90; refine (ikw_any _ _).mono ?_; rw [hk]; rintro e w' ⟨rfl, rfl⟩))
        go_ret
        exact ⟨ret_bool HW.out.symm, Below.refl _ _⟩
      | false =>
        have HW : Hid (wordB s = decide (lx.run lx.isWord (lx.suf s 0) = s.size ∧ s.size ≤ 60)) := word_rest hp hf hk
        obtain ⟨a, b, c, ho⟩ := optV_word (lx.suf s 0)
        go_enter Tryz.func79, Tryz.ntmps79
        go_wp2_with (first
          | (go_at_call 89; refine (lx.inWord_yes _ _).mono ?_; rw [hf]; rintro e w' ⟨rfl, rfl⟩)
          | (go_at_call 90; refine (ikw_any _ _).mono ?_; rw [hk]; rintro e w' ⟨rfl, rfl⟩)
          | (go_at_call 91; refine (lx.wordOf_any _ hs hp hf _).mono ?_; rw [ho]; rintro e w1 ⟨rfl, hl1⟩))
        all_goals go_ret
        all_goals refine ⟨ret_bool ?_, hl1.alloc (hl1.size) _⟩
        all_goals (rw [HW.out, Bool.eq_iff_iff]; simp; omega)
  · have he : s.toList.isEmpty = true := (empty_iff s).2 (by omega)
    have HW : Hid (wordB s = false) := by
      show wordB s = false
      unfold wordB
      split
      · rfl
      · rename_i b r hb
        have := congrArg List.length hb
        simp at this
        omega
    go_enter Tryz.func79, Tryz.ntmps79
    go_wp2
    go_ret
    exact ⟨ret_bool HW.out.symm, Below.refl _ _⟩

set_option maxRecDepth 100000 in
theorem fits_any (s : ByteArray) (u : Int) (hu : 0 ≤ u ∧ u ≤ 3) (hs : s.size ≤ 1048576) (w : World) (hE : es.EscB w) (hB : BetB w) :
    Calls Tryz.prog 61 #[.string s, .int .i64 u] w fun e w' => e = .returned (.bool (textB s u)) ∧ Below w.heap.size w w' := by
  have h : u = 0 ∨ u = 1 ∨ u = 2 ∨ u = 3 := by omega
  rcases h with rfl | rfl | rfl | rfl
  · go_enter Tryz.func61, Tryz.ntmps61
    go_wp2
    go_ret
    exact ⟨ret_bool (by simp [textB]), Below.refl _ _⟩
  · go_enter Tryz.func61, Tryz.ntmps61
    go_wp2_with (go_at_call 78; refine (es.impl_any _ hs _ hE).mono ?_; rintro e w1 ⟨rfl, hl1⟩)
    go_ret
    exact ⟨ret_bool (by simp [textB]), hl1⟩
  · go_enter Tryz.func61, Tryz.ntmps61
    go_wp2_with (go_at_call 79; refine (plain_any _ hs _).mono ?_; rintro e w1 ⟨rfl, hl1⟩)
    go_ret
    exact ⟨ret_bool (by simp [textB]), hl1⟩
  · go_enter Tryz.func61, Tryz.ntmps61
    go_wp2_with (go_at_call 80; refine (iop_any _ _ hB).mono ?_; rintro e w1 ⟨rfl, hl1⟩)
    go_ret
    exact ⟨ret_bool (by simp [textB]), hl1⟩

theorem two_bel (w : World) (x y : Obj) : Below w.heap.size w ((w.alloc x).alloc y) := ((Below.refl _ _).alloc (Nat.le_refl _) _).alloc (by simp) _

theorem use_le (k : Int) : 0 ≤ useOf k ∧ useOf k ≤ 3 := by
  unfold useOf
  repeat' split
  all_goals omega

set_option maxRecDepth 100000 in
set_option maxHeartbeats 1000000 in
theorem head_any (k n z : Int) (s : ByteArray) (hs : s.size ≤ 1048576) (w : World) (hE : es.EscB w) (hB : BetB w) (hS : ShpB w) :
    Calls Tryz.prog 50 #[.agg #[.int .i64 k, .string s, .int .i64 n, .int .i64 z]] w fun e w' => e = .returned (.bool (headB ⟨k, s, n, z⟩)) ∧ Below w.heap.size w w' := by
  by_cases hk : okKind k = true
  · have hk' := hk
    simp only [okKind, decide_eq_true_eq] at hk'
    obtain ⟨m, rfl⟩ : ∃ m : Nat, k = m := ⟨k.toNat, by omega⟩
    have h1 : ¬ (m : Int) < 1 := by omega
    have h2 : ¬ (20 : Int) < (m : Int) := by omega
    have HH : Hid (headB ⟨m, s, n, z⟩ = (decide (0 ≤ n ∧ n ≤ mostN m) && textB s (useOf m))) := by
      show headB _ = _
      simp only [headB, hk, Bool.true_and, nB]
    have b1 : Below w.heap.size w (w.alloc (.cells #[.int .i64 m, .string s, .int .i64 n, .int .i64 z] 38)) := (Below.refl _ _).alloc (Nat.le_refl _) _
    obtain ⟨c0, c1, c2, c3, c4⟩ := (hS.below b1).cells (m := m) (by omega)
    clear hk hk'
    by_cases hn : 0 ≤ n ∧ n ≤ mostN m
    · have hn0 : 0 ≤ n := hn.1
      have hn1 : n ≤ mostN m := hn.2
      go_enter Tryz.func50, Tryz.ntmps50
      go_wp2_with (go_at_call 61; refine (fits_any _ _ (use_le _) hs _ (hE.below (two_bel _ _ _)) (hB.below (two_bel _ _ _))).mono ?_; rintro e w1 ⟨rfl, hl1⟩)
      go_ret
      exact ⟨ret_bool (by rw [HH.out]; simp [hn0, hn1]), (two_bel _ _ _).trans (hl1.mono (by simp; omega))⟩
    · by_cases hn0 : 0 ≤ n
      · have hn1 : ¬ n ≤ mostN m := fun h => hn ⟨hn0, h⟩
        clear hn
        go_enter Tryz.func50, Tryz.ntmps50
        go_wp2
        go_ret
        exact ⟨ret_bool (by rw [HH.out]; simp [hn0]; omega), two_bel _ _ _⟩
      · clear hn
        go_enter Tryz.func50, Tryz.ntmps50
        go_wp2
        go_ret
        exact ⟨ret_bool (by rw [HH.out]; simp; omega), two_bel _ _ _⟩
  · have hk' : ¬ (1 ≤ k ∧ k ≤ 20) := by simpa [okKind] using hk
    have HH : Hid (headB ⟨k, s, n, z⟩ = false) := by
      show headB _ = _
      have : okKind k = false := by simpa using hk
      simp [headB, this]
    clear hk
    by_cases h1 : k < 1
    · go_enter Tryz.func50, Tryz.ntmps50
      go_wp2
      go_ret
      exact ⟨ret_bool HH.out.symm, (Below.refl _ _).alloc (Nat.le_refl _) _⟩
    · have h2 : 20 < k := by omega
      go_enter Tryz.func50, Tryz.ntmps50
      go_wp2
      go_ret
      exact ⟨ret_bool HH.out.symm, (Below.refl _ _).alloc (Nat.le_refl _) _⟩

end Go.Proofs.YthklplfpnciodaaGreatDoor.ex
