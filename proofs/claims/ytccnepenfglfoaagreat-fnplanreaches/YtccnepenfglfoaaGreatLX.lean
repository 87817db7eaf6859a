import Derived.Test.YtccnepenfglfoaaGreatRA
namespace Go.Proofs.YtccnepenfglfoaaGreat.sr
open Go.ChangeShapes Go.WideShapes Go.ChangeAt Go.RowKit Go.Deep
set_option linter.unusedVariables false
set_option linter.unusedSimpArgs false

/-! ### The specification's l3Has -/

set_option maxRecDepth 100000 in
theorem l3has_any (xs : List (List UInt8)) (v : Value) (s : ByteArray) (w : World) (hR : StrR w v xs) :
    Calls Tryz.prog 38 #[v, .string s] w fun e w' => e = .returned (.bool (decide (s.data.toList ∈ xs))) ∧ w' = w := by
  obtain ⟨bb, off, cap, rfl, h1, h2, hc⟩ := hR
  have HC : Hid (∀ i, i < xs.length → w.cell? ⟨bb, off + i, none⟩ = some (strL (xAt xs i))) := fun i hi => hc i _ (xAt_some hi)
  unfold maxLen at h2
  clear hc
  go_enter Tryz.func38, Tryz.ntmps38
  go_wp2
  go_loopw [5] (fun x wr => ∃ (i : Nat), i ≤ xs.length ∧ x = .int .i64 (i : Int) ∧ (∀ j, j < i → xAt xs j ≠ s.data.toList) ∧ wr = w) (fun x _ => xs.length - (intOf x).toNat)
  case atStart => exact ⟨0, Nat.zero_le _, rfl, fun j h => by omega, rfl⟩
  case round =>
    obtain ⟨i, hi, rfl, hno, rfl⟩ := hrel
    have HNO : Hid (∀ j, j < i → xAt xs j ≠ s.data.toList) := hno
    clear hno
    by_cases h : i < xs.length
    · have h' : (i : Int) < (xs.length : Int) := by omega
      have ce := HC.out i h
      rw [strL] at ce
      obtain ⟨u, hu⟩ : ∃ u : ByteArray, (⟨(xAt xs i).toArray⟩ : ByteArray) = u := ⟨_, rfl⟩
      rw [hu] at ce
      have HU : Hid (u.toList = xAt xs i) := by show _ = _; rw [← hu, ByteArray.toList_eq]
      clear hu
      cases he : (u.toList == s.toList) with
      | true =>
        have HY : Hid (decide (s.data.toList ∈ xs) = true) := by
          show _ = _
          rw [decide_eq_true_eq]
          have e : xAt xs i = s.data.toList := by rw [← HU.out, ← ByteArray.toList_eq]; simpa using he
          rw [← e]
          exact List.mem_of_getElem? (xAt_some h)
        go_wp2
        go_ret
        exact ⟨ret_bool HY.out.symm, rfl⟩
      | false =>
        have HX : Hid (xAt xs i ≠ s.data.toList) := by
          intro e
          rw [← HU.out, ← ByteArray.toList_eq] at e
          simp [e] at he
        go_wp2
        go_roundw
        case rel => exact ⟨i + 1, by omega, by go_num, fun j hj => by
          rcases Nat.lt_or_ge j i with h | h
          · exact HNO.out j h
          · obtain rfl : j = i := by omega
            exact HX.out, by first | rfl | trivial⟩
        case measure => simp [intOf]; omega
    · have h' : ¬ (i : Int) < (xs.length : Int) := by omega
      obtain rfl : i = xs.length := by omega
      have HY : Hid (decide (s.data.toList ∈ xs) = false) := by
        show _ = _
        rw [decide_eq_false_iff_not]
        intro hm
        obtain ⟨j, hj, e⟩ := List.mem_iff_getElem.1 hm
        exact HNO.out j hj (by simp [xAt, hj, e])
      go_wp2
      go_ret
      exact ⟨ret_bool HY.out.symm, rfl⟩

end Go.Proofs.YtccnepenfglfoaaGreat.sr

namespace Go.Proofs.YtccnepenfglfoaaGreat.sr
open Go.ChangeShapes Go.WideShapes Go.ChangeAt Go.RowKit Go.Deep
set_option linter.unusedVariables false
set_option linter.unusedSimpArgs false

/-! ### The specification's l3Has -/

set_option maxRecDepth 100000 in
theorem lhas_any (xs : List (List UInt8)) (bb cap : Nat) (s : ByteArray) (w : World) (h2 : xs.length ≤ 1000000) (hc : ∀ i x, xs[i]? = some x → w.cell? ⟨bb, i, none⟩ = some (strL x)) :
    Calls Tryz.prog 11 #[.slice (some ⟨bb, 0, none⟩) xs.length cap, .string s] w fun e w' => e = .returned (.bool (decide (s.data.toList ∈ xs))) ∧ w' = w := by
  have HC : Hid (∀ i, i < xs.length → w.cell? ⟨bb, i, none⟩ = some (strL (xAt xs i))) := fun i hi => hc i _ (xAt_some hi)
  clear hc
  go_enter Tryz.func11, Tryz.ntmps11
  go_wp2
  go_loopw [5] (fun x wr => ∃ (i : Nat), i ≤ xs.length ∧ x = .int .i64 (i : Int) ∧ (∀ j, j < i → xAt xs j ≠ s.data.toList) ∧ wr = w) (fun x _ => xs.length - (intOf x).toNat)
  case atStart => exact ⟨0, Nat.zero_le _, rfl, fun j h => by omega, rfl⟩
  case round =>
    obtain ⟨i, hi, rfl, hno, rfl⟩ := hrel
    have HNO : Hid (∀ j, j < i → xAt xs j ≠ s.data.toList) := hno
    clear hno
    by_cases h : i < xs.length
    · have h' : (i : Int) < (xs.length : Int) := by omega
      have ce := HC.out i h
      rw [strL] at ce
      obtain ⟨u, hu⟩ : ∃ u : ByteArray, (⟨(xAt xs i).toArray⟩ : ByteArray) = u := ⟨_, rfl⟩
      rw [hu] at ce
      have HU : Hid (u.toList = xAt xs i) := by show _ = _; rw [← hu, ByteArray.toList_eq]
      clear hu
      cases he : (u.toList == s.toList) with
      | true =>
        have HY : Hid (decide (s.data.toList ∈ xs) = true) := by
          show _ = _
          rw [decide_eq_true_eq]
          have e : xAt xs i = s.data.toList := by rw [← HU.out, ← ByteArray.toList_eq]; simpa using he
          rw [← e]
          exact List.mem_of_getElem? (xAt_some h)
        go_wp2
        go_ret
        exact ⟨ret_bool HY.out.symm, rfl⟩
      | false =>
        have HX : Hid (xAt xs i ≠ s.data.toList) := by
          intro e
          rw [← HU.out, ← ByteArray.toList_eq] at e
          simp [e] at he
        go_wp2
        go_roundw
        case rel => exact ⟨i + 1, by omega, by go_num, fun j hj => by
          rcases Nat.lt_or_ge j i with h | h
          · exact HNO.out j h
          · obtain rfl : j = i := by omega
            exact HX.out, by first | rfl | trivial⟩
        case measure => simp [intOf]; omega
    · have h' : ¬ (i : Int) < (xs.length : Int) := by omega
      obtain rfl : i = xs.length := by omega
      have HY : Hid (decide (s.data.toList ∈ xs) = false) := by
        show _ = _
        rw [decide_eq_false_iff_not]
        intro hm
        obtain ⟨j, hj, e⟩ := List.mem_iff_getElem.1 hm
        exact HNO.out j hj (by simp [xAt, hj, e])
      go_wp2
      go_ret
      exact ⟨ret_bool HY.out.symm, rfl⟩

end Go.Proofs.YtccnepenfglfoaaGreat.sr

