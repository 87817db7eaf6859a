import Derived.Test.YtheponigjofknaaDoorWF2
namespace Go.Proofs.YtheponigjofknaaDoor.wd
open Go.ChangeShapes Go.WideShapes Go.ChangeAt Go.RowKit Go.Deep Go.Maps
set_option linter.unusedVariables false

theorem idxTo_let {v : Nat} (h : v < 32) : idxTo (letU v) 32 = some v := by
  cases he : idxTo (letU v) 32 with
  | none => exact absurd rfl (idxTo_none he v h)
  | some j => rw [letU_ne j (idxTo_lt he) v h (idxTo_some he)]

theorem wordA_at (X : Nat) {k : Nat} (h : k < 13) : (wordA X).data.toList[k]?.getD 0 = digit X (12 - k) := by
  simp [wordA, h]

/-- A word is read as its number. -/
theorem rd_word (X : Nat) (hX : X < 18446744073709551616) : ∀ k, k ≤ 13 → rdTo (wordA X) k = some (X / 32 ^ (13 - k)) := by
  intro k
  induction k with
  | zero =>
    intro _
    have : X / 32 ^ 13 = 0 := Nat.div_eq_of_lt (by omega)
    simp [rdTo, this]
  | succ k ih =>
    intro hk
    unfold rdTo
    rw [ih (by omega), wordA_at X (by omega), digit, idxTo_let (dm_lt _ _)]
    have e : X / 32 ^ (13 - k) = X / 32 ^ (12 - k) / 32 := by rw [Nat.div_div_eq_div_mul, ← Nat.pow_succ, show (12 - k).succ = 13 - k by omega]
    have e2 : X / 32 ^ (13 - k) * 32 + dm X (12 - k) = X / 32 ^ (12 - k) := by
      rw [e]; unfold dm dv; omega
    rw [show 13 - (k + 1) = 12 - k by omega]
    have hn : ¬ (k = 0 ∧ 15 < dm X (12 - k)) := by
      rintro ⟨rfl, h⟩
      have h12 : dv X 12 < 16 := by unfold dv; omega
      have e0 : dm X (12 - 0) = dv X 12 := by
        show dv X 12 % 32 = dv X 12
        exact Nat.mod_eq_of_lt (by omega)
      rw [e0] at h
      omega
    simp only [if_neg hn, e2]

theorem rw_word (X : Nat) (hX : X < 18446744073709551616) : rwX (wordA X) = (X : Int) ∧ rwB (wordA X) = true := by
  have h := rd_word X hX 13 (Nat.le_refl _)
  constructor
  · simp [rwX, wordA_size, h]
  · simp [rwB, wordA_size, h]

theorem rd_digits (s : ByteArray) : ∀ k y, rdTo s k = some y → ∀ j, j < k → s.data.toList[j]?.getD 0 = digit y (k - 1 - j) := by
  intro k
  induction k with
  | zero => intro y _ j hj; omega
  | succ k ih =>
    intro y h j hj
    unfold rdTo at h
    split at h
    · rename_i x v h1 h2
      have hv := idxTo_lt h2
      split at h
      · cases h
      · cases h
        by_cases hjk : j = k
        · subst hjk
          rw [← idxTo_some h2, show j + 1 - 1 - j = 0 by omega]
          unfold digit dm dv
          rw [Nat.pow_zero, Nat.div_one, show (x * 32 + v) % 32 = v by omega]
        · rw [ih x h1 j (by omega)]
          unfold digit dm dv
          rw [show k + 1 - 1 - j = (k - 1 - j) + 1 by omega, Nat.pow_succ, Nat.mul_comm (32 ^ _) 32, ← Nat.div_div_eq_div_mul, show (x * 32 + v) / 32 = x by omega]
    · cases h

theorem rd_back {s : ByteArray} {y : Nat} (hs : s.size = 13) (h : rdTo s 13 = some y) : wordA y = s := by
  apply ByteArray.ext
  apply Array.toList_inj.1
  apply List.ext_getElem?
  intro i
  by_cases hi : i < 13
  · have e1 := wordA_at y hi
    have e2 := rd_digits s 13 y h i hi
    rw [show 13 - 1 - i = 12 - i by omega] at e2
    have z1 : i < (wordA y).data.toList.length := by have := wordA_size y; simp; omega
    have z2 : i < s.data.toList.length := by simp; omega
    rw [List.getElem?_eq_getElem z1] at e1 ⊢
    rw [List.getElem?_eq_getElem z2] at e2 ⊢
    simp only [Option.getD_some] at e1 e2
    rw [e1, e2]
  · have z1 : (wordA y).data.toList.length ≤ i := by have := wordA_size y; simp; omega
    have z2 : s.data.toList.length ≤ i := by simp; omega
    rw [List.getElem?_eq_none z1, List.getElem?_eq_none z2]

theorem rd_lt64 {s : ByteArray} {y : Nat} (h : rdTo s 13 = some y) : y < 18446744073709551616 := by
  have := rd_bd s 12 y h
  omega

theorem rw_back {s : ByteArray} (h : rwB s = true) : ∃ y : Nat, y < 18446744073709551616 ∧ rwX s = (y : Int) ∧ wordA y = s := by
  simp only [rwB, Bool.and_eq_true, decide_eq_true_eq] at h
  obtain ⟨hz, h2⟩ := h
  obtain ⟨y, hy⟩ := Option.isSome_iff_exists.1 h2
  exact ⟨y, rd_lt64 hy, by simp [rwX, hz, hy], rd_back hz hy⟩

end Go.Proofs.YtheponigjofknaaDoor.wd
