import Derived.Test.YtihjdggmmmlpkaaDoorWD
import Derived.Test.YtihjdggmmmlpkaaDoorNA
namespace Go.Proofs.YtihjdggmmmlpkaaDoor.wd
open Go.ChangeShapes Go.WideShapes Go.ChangeAt Go.RowKit Go.Deep Go.Maps
set_option linter.unusedVariables false
set_option maxRecDepth 100000

def aokB (s : ByteArray) : Bool := decide (15 ≤ s.size) && ((((s.data.toList[13]?.getD 0).toNat : Int) == 45) && (rwB (s.extract 0 13) && nm.nameB (s.extract 14 s.size)))

theorem rspec_b {s : ByteArray} (hs : Hid (s.size ≤ 1048576)) {b : Bool} (h : Hid (rwB s = b)) (w : World) :
    Calls Tryd.prog 69 #[.string s] w fun e w' => ∃ x, e = .returned (.tuple #[.int .u64 x, .bool b]) ∧ w' = w :=
  (rspec_any s hs.out w).mono fun e w' ⟨he, hw⟩ => ⟨_, he.trans (ret_two rfl h.out), hw⟩

theorem rword_b {s : ByteArray} (hs : Hid (s.size ≤ 1048576)) {b : Bool} (h : Hid (rwB s = b)) {mb : Nat} {w : World} (hown : w.ownsMap Tryd.prog 5 (plainElem Tryd.prog 74) mb 32 (lvD 32)) :
    Calls Tryd.prog 76 #[.string s, .map (some mb)] w fun e w' => ∃ x, e = .returned (.tuple #[.int .u64 x, .bool b]) ∧ w' = w :=
  (rword_any s hs.out mb w hown).mono fun e w' ⟨he, hw⟩ => ⟨_, he.trans (ret_two rfl h.out), hw⟩

theorem nspec_b {s : ByteArray} (hs : Hid (s.size ≤ 1048576)) {b : Bool} (h : Hid (nm.nameB s = b)) (w : World) :
    Calls Tryd.prog 38 #[.string s] w fun e w' => e = .returned (.bool b) ∧ w' = w :=
  (nm.spec_any s hs.out w).mono fun e w' ⟨he, hw⟩ => ⟨he.trans (ret_bool h.out), hw⟩

theorem nimpl_b {s : ByteArray} (hs : Hid (s.size ≤ 1048576)) {b : Bool} (h : Hid (nm.nameB s = b)) (w : World) :
    Calls Tryd.prog 49 #[.string s] w fun e w' => e = .returned (.bool b) ∧ w' = w :=
  (nm.impl_any s hs.out w).mono fun e w' ⟨he, hw⟩ => ⟨he.trans (ret_bool h.out), hw⟩

theorem aspec_any (s : ByteArray) (hs : s.size ≤ 1048576) (w : World) :
    Calls Tryd.prog 40 #[.string s] w fun e w' => e = .returned (.bool (aokB s)) ∧ w' = w := by
  by_cases h1 : s.size < 15
  · go_enter Tryd.func40, Tryd.ntmps40
    go_wp2
    go_ret
    exact ⟨ret_bool (by simp [aokB]; omega), rfl⟩
  have h13 : 13 < s.size := by omega
  have i1 : (13 : Int) < (s.size : Int) := by omega
  have HG : Hid (s.data.toList[13]?.getD 0 = s[13]) := get_at h13
  by_cases h2 : ((s[13].toNat : Int) == 45) = true
  · have hA : Hid (aokB s = (rwB (s.extract 0 13) && nm.nameB (s.extract 14 s.size))) := by
      show aokB s = _
      unfold aokB
      rw [HG.out, h2]
      simp
      omega
    have hz : Hid ((s.extract 0 13).size ≤ 1048576) := by show _ ≤ _; simp; omega
    have hz2 : Hid ((s.extract 14 s.size).size ≤ 1048576) := by show _ ≤ _; simp; omega
    have hne : ((s[13].toNat : Int) != 45) = false := by simpa using h2
    clear h2
    obtain ⟨b, HB⟩ : ∃ b, Hid (rwB (s.extract 0 13) = b) := ⟨_, rfl⟩
    obtain ⟨c, HC⟩ : ∃ c, Hid (nm.nameB (s.extract 14 s.size) = c) := ⟨_, rfl⟩
    have hA' : Hid (aokB s = (b && c)) := by
      show aokB s = _
      rw [hA.out, HB.out, HC.out]
    have i2 : ¬ (s.size : Int) < 15 := by omega
    clear hA HG h1 i1
    have i1 : (13 : Int) < (s.size : Int) := by omega

    cases b
    · go_enter Tryd.func40, Tryd.ntmps40
      go_wp2_with (go_at_call 69; refine (rspec_b hz HB _).mono ?_; rintro e w' ⟨x, rfl, rfl⟩)
      go_ret
      exact ⟨ret_bool hA'.out.symm, rfl⟩
    · go_enter Tryd.func40, Tryd.ntmps40
      go_wp2_with (first
        | (go_at_call 69; refine (rspec_b hz HB _).mono ?_; rintro e w' ⟨x, rfl, rfl⟩)
        | (go_at_call 38; refine (nspec_b hz2 HC _).mono ?_; rintro e w' ⟨rfl, rfl⟩))
      go_ret
      exact ⟨ret_bool (by rw [hA'.out]; rfl), rfl⟩
  · have h2' : ((s[13].toNat : Int) == 45) = false := by simpa using h2
    have hA : Hid (aokB s = false) := by
      show aokB s = _
      unfold aokB
      rw [HG.out, h2']
      simp
    have hne : ((s[13].toNat : Int) != 45) = true := by simpa using h2
    clear h2 h2'
    go_enter Tryd.func40, Tryd.ntmps40
    go_wp2
    go_ret
    exact ⟨ret_bool hA.out.symm, rfl⟩

theorem isadr_any (s : ByteArray) (hs : s.size ≤ 1048576) (mb : Nat) (w : World) (hown : w.ownsMap Tryd.prog 5 (plainElem Tryd.prog 74) mb 32 (lvD 32)) :
    Calls Tryd.prog 52 #[.string s, .map (some mb)] w fun e w' => e = .returned (.bool (aokB s)) ∧ w' = w := by
  by_cases h1 : s.size ≤ 13
  · go_enter Tryd.func52, Tryd.ntmps52
    go_wp2
    go_ret
    exact ⟨ret_bool (by simp [aokB]; omega), rfl⟩
  have h13 : 13 < s.size := by omega
  have i1 : (13 : Int) < (s.size : Int) := by omega
  have HG : Hid (s.data.toList[13]?.getD 0 = s[13]) := get_at h13
  by_cases h2 : ((s[13].toNat : Int) == 45) = true
  · have hA : Hid (aokB s = (rwB (s.extract 0 13) && nm.nameB (s.extract 14 s.size))) := by
      show aokB s = _
      unfold aokB
      rw [HG.out, h2]
      by_cases h15 : 15 ≤ s.size
      · simp [h15]
      · have : nm.nameB (s.extract 14 s.size) = false := by simp [nm.nameB]; omega
        simp [h15, this]
    have hz : Hid ((s.extract 0 13).size ≤ 1048576) := by show _ ≤ _; simp; omega
    have hz2 : Hid ((s.extract 14 s.size).size ≤ 1048576) := by show _ ≤ _; simp; omega
    have hne : ((s[13].toNat : Int) != 45) = false := by simpa using h2
    clear h2
    obtain ⟨b, HB⟩ : ∃ b, Hid (rwB (s.extract 0 13) = b) := ⟨_, rfl⟩
    obtain ⟨c, HC⟩ : ∃ c, Hid (nm.nameB (s.extract 14 s.size) = c) := ⟨_, rfl⟩
    have hA' : Hid (aokB s = (b && c)) := by
      show aokB s = _
      rw [hA.out, HB.out, HC.out]
    have i2 : ¬ (s.size : Int) ≤ 13 := by omega
    clear hA HG h1 i1
    have i1 : (13 : Int) < (s.size : Int) := by omega
    cases b
    · go_enter Tryd.func52, Tryd.ntmps52
      go_wp2_with (go_at_call 76; refine (rword_b hz HB hown).mono ?_; rintro e w1 ⟨x, rfl, rfl⟩)
      go_ret
      exact ⟨ret_bool hA'.out.symm, rfl⟩
    · go_enter Tryd.func52, Tryd.ntmps52
      go_wp2_with (first
        | (go_at_call 76; refine (rword_b hz HB hown).mono ?_; rintro e w1 ⟨x, rfl, rfl⟩)
        | (go_at_call 49; refine (nimpl_b hz2 HC _).mono ?_; rintro e w' ⟨rfl, rfl⟩))
      go_ret
      exact ⟨ret_bool (by rw [hA'.out]; rfl), rfl⟩
  · have h2' : ((s[13].toNat : Int) == 45) = false := by simpa using h2
    have hA : Hid (aokB s = false) := by
      show aokB s = _
      unfold aokB
      rw [HG.out, h2']
      simp
    have hne : ((s[13].toNat : Int) != 45) = true := by simpa using h2
    clear h2 h2'
    go_enter Tryd.func52, Tryd.ntmps52
    go_wp2
    go_ret
    exact ⟨ret_bool hA.out.symm, rfl⟩

end Go.Proofs.YtihjdggmmmlpkaaDoor.wd
