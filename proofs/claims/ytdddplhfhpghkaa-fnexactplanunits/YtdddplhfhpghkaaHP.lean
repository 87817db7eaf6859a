import Derived.Test.YtdddplhfhpghkaaRows
namespace Go.Proofs.Ytdddplhfhpghkaa.hp
set_option linter.unusedVariables false

/-! ### Heaps of numbers, plainly -/

def gt (l : List Nat) (k : Nat) : Nat := l.getD k 0
def swp (l : List Nat) (i j : Nat) : List Nat := (l.set i (gt l j)).set j (gt l i)
theorem gt_eq {l : List Nat} {k : Nat} (h : k < l.length) : gt l k = l[k] := by simp [gt, h]
theorem gt_some {l : List Nat} {k : Nat} (h : k < l.length) : l[k]? = some (gt l k) := by simp [gt, h]
theorem swp_len (l : List Nat) (i j : Nat) : (swp l i j).length = l.length := by simp [swp]
theorem swp_gt {l : List Nat} {i j : Nat} (hi : i < l.length) (hj : j < l.length) (k : Nat) : gt (swp l i j) k = if k = j then gt l i else if k = i then gt l j else gt l k := by
  unfold swp
  simp only [gt, List.getD_eq_getElem?_getD, List.getElem?_set, List.length_set]
  by_cases h1 : k = j
  · subst h1; simp [hj]
  · by_cases h2 : k = i
    · subst h2; simp [hi, h1, Ne.symm h1]
    · simp [h1, h2, Ne.symm h1, Ne.symm h2]
theorem swp_perm {l : List Nat} {i j : Nat} (hi : i < l.length) (hj : j < l.length) : (swp l i j).Perm l := by
  have h := Array.swap_perm (xs := l.toArray) (i := i) (j := j) (by simpa using hi) (by simpa using hj)
  have h2 := Array.perm_iff_toList_perm.1 h
  have e : (l.toArray.swap i j (by simpa using hi) (by simpa using hj)).toList = swp l i j := by
    simp [Array.swap_def, swp, gt, hi, hj]
  rw [e] at h2
  exact h2

def Hp (l : List Nat) : Prop := ∀ k, 0 < k → k < l.length → gt l ((k - 1) / 2) ≤ gt l k
theorem Hp.nil : Hp [] := fun k _ h => by simp at h
theorem Hp.min {l : List Nat} (h : Hp l) : ∀ k, k < l.length → gt l 0 ≤ gt l k := by
  intro k
  induction k using Nat.strongRecOn with
  | _ k ih =>
    intro hk
    by_cases h0 : k = 0
    · subst h0; exact Nat.le_refl _
    · exact Nat.le_trans (ih ((k - 1) / 2) (by omega) (by omega)) (h k (by omega) hk)

structure Up (l : List Nat) (p : Nat) : Prop where
  lt : p < l.length
  oth : ∀ k, 0 < k → k < l.length → k ≠ p → gt l ((k - 1) / 2) ≤ gt l k
  grd : ∀ k, 0 < k → k < l.length → (k - 1) / 2 = p → 0 < p → gt l ((p - 1) / 2) ≤ gt l k
theorem Up.done {l : List Nat} {p : Nat} (h : Up l p) (hp : p = 0 ∨ gt l ((p - 1) / 2) ≤ gt l p) : Hp l := fun k h0 hk => by
  by_cases e : k = p
  · subst e
    rcases hp with h1 | h1
    · omega
    · exact h1
  · exact h.oth k h0 hk e
theorem Up.step {l : List Nat} {p : Nat} (h : Up l p) (hp : 0 < p) (hlt : gt l p < gt l ((p - 1) / 2)) : Up (swp l p ((p - 1) / 2)) ((p - 1) / 2) := by
  have hl := h.lt
  have hq : (p - 1) / 2 < l.length := by omega
  refine ⟨by rw [swp_len]; exact hq, fun k h0 hk hne => ?_, fun k h0 hk he h1 => ?_⟩
  · rw [swp_len] at hk
    rw [swp_gt hl hq, swp_gt hl hq]
    by_cases e1 : k = p
    · subst e1
      simp only [if_pos, if_neg hne]
      omega
    · simp only [if_neg hne, if_neg e1]
      by_cases e2 : (k - 1) / 2 = (p - 1) / 2
      · simp only [if_pos e2]
        have := h.oth k h0 hk e1
        rw [e2] at this
        omega
      · simp only [if_neg e2]
        by_cases e3 : (k - 1) / 2 = p
        · simp only [if_pos e3]
          exact h.grd k h0 hk e3 hp
        · simp only [if_neg e3]
          exact h.oth k h0 hk e1
  · rw [swp_len] at hk
    rw [swp_gt hl hq, swp_gt hl hq]
    have a1 : ¬ ((p - 1) / 2 - 1) / 2 = (p - 1) / 2 := by omega
    have a2 : ¬ ((p - 1) / 2 - 1) / 2 = p := by omega
    have hg := h.oth ((p - 1) / 2) h1 hq (by omega)
    simp only [if_neg a1, if_neg a2]
    have a3 : ¬ k = (p - 1) / 2 := by omega
    simp only [if_neg a3]
    by_cases e1 : k = p
    · simp only [if_pos e1]; exact hg
    · simp only [if_neg e1]
      have := h.oth k h0 hk e1
      rw [he] at this
      omega
theorem gt_app {l m : List Nat} {k : Nat} (h : k < l.length) : gt (l ++ m) k = gt l k := by simp [gt, List.getElem?_append_left h]
theorem Up.init {l : List Nat} (h : Hp l) (x : Nat) : Up (l ++ [x]) l.length := by
  refine ⟨by simp, fun k h0 hk hne => ?_, fun k h0 hk he h1 => ?_⟩
  · have hk' : k < l.length := by simp at hk; omega
    rw [gt_app hk', gt_app (by omega)]
    exact h k h0 hk'
  · simp at hk; omega

structure Dn (l : List Nat) (p : Nat) : Prop where
  oth : ∀ k, 0 < k → k < l.length → (k - 1) / 2 ≠ p → gt l ((k - 1) / 2) ≤ gt l k
  grd : ∀ k, 0 < k → k < l.length → (k - 1) / 2 = p → 0 < p → gt l ((p - 1) / 2) ≤ gt l k
theorem Dn.done {l : List Nat} {p : Nat} (h : Dn l p) (h1 : 2 * p + 1 < l.length → gt l p ≤ gt l (2 * p + 1)) (h2 : 2 * p + 2 < l.length → gt l p ≤ gt l (2 * p + 2)) : Hp l := fun k h0 hk => by
  by_cases e : (k - 1) / 2 = p
  · rw [e]
    rcases (show k = 2 * p + 1 ∨ k = 2 * p + 2 by omega) with rfl | rfl
    · exact h1 hk
    · exact h2 hk
  · exact h.oth k h0 hk e
theorem Dn.step {l : List Nat} {p c : Nat} (h : Dn l p) (hc : c < l.length) (hp : (c - 1) / 2 = p) (h0 : 0 < c) (hlt : gt l c < gt l p) (hle : ∀ k, 0 < k → k < l.length → (k - 1) / 2 = p → gt l c ≤ gt l k) : Dn (swp l p c) c := by
  have hl : p < l.length := by omega
  refine ⟨fun k k0 hk hne => ?_, fun k k0 hk he h1 => ?_⟩
  · rw [swp_len] at hk
    rw [swp_gt hl hc, swp_gt hl hc]
    simp only [if_neg hne]
    by_cases e1 : (k - 1) / 2 = p
    · simp only [if_pos e1]
      by_cases e2 : k = c
      · simp only [if_pos e2]; omega
      · simp only [if_neg e2, if_neg (show ¬ k = p by omega)]
        exact hle k k0 hk e1
    · simp only [if_neg e1]
      by_cases e2 : k = c
      · exact absurd (e2 ▸ hp) e1
      · simp only [if_neg e2]
        by_cases e3 : k = p
        · subst e3
          simp only [if_pos]
          exact h.grd c h0 hc hp k0
        · simp only [if_neg e3]
          exact h.oth k k0 hk e1
  · rw [swp_len] at hk
    rw [swp_gt hl hc, swp_gt hl hc, hp]
    simp only [if_neg (show ¬ p = c by omega), if_pos, if_neg (show ¬ k = c by omega), if_neg (show ¬ k = p by omega)]
    have := h.oth k k0 hk (by omega)
    rw [he] at this
    exact this
theorem gt_take {l : List Nat} {m k : Nat} (h : k < m) : gt (l.take m) k = gt l k := by simp [gt, h]
theorem Dn.init {l : List Nat} {m : Nat} (h : Hp l) (hm : l.length = m + 1) : Dn ((swp l 0 m).take m) 0 := by
  refine ⟨fun k h0 hk hne => ?_, fun k h0 hk he h1 => by omega⟩
  have hk' : k < m := by simp [swp_len] at hk; omega
  rw [gt_take hk', gt_take (by omega), swp_gt (by omega) (by omega), swp_gt (by omega) (by omega)]
  simp only [if_neg (show ¬ k = m by omega), if_neg (show ¬ k = 0 by omega), if_neg (show ¬ (k - 1) / 2 = m by omega), if_neg hne]
  exact h k h0 (by omega)
theorem pop_perm {l : List Nat} {m : Nat} (hm : l.length = m + 1) : l.Perm (gt l 0 :: (swp l 0 m).take m) := by
  have h := swp_perm (l := l) (i := 0) (j := m) (by omega) (by omega)
  refine h.symm.trans ?_
  have e : swp l 0 m = (swp l 0 m).take m ++ [gt l 0] := by
    have h1 := List.take_append_drop m (swp l 0 m)
    have h2 : (swp l 0 m).drop m = [gt l 0] := by
      have hlen : m < (swp l 0 m).length := by rw [swp_len]; omega
      rw [List.drop_eq_getElem_cons hlen, ← gt_eq hlen, swp_gt (by omega) (by omega), if_pos rfl, List.drop_of_length_le (by rw [swp_len]; omega)]
    rw [h2] at h1
    exact h1.symm
  rw [e, List.take_left' (by simp [swp_len]; omega)]
  exact List.perm_append_singleton _ _
theorem least_of {l l' : List Nat} {x : Nat} (h : l.Perm (x :: l')) (hm : ∀ k, k < l.length → x ≤ gt l k) : ∀ y ∈ l, x ≤ y := fun y hy => by
  obtain ⟨k, hk, e⟩ := List.getElem_of_mem hy
  have := hm k hk
  rw [gt_eq hk, e] at this
  exact this

end Go.Proofs.Ytdddplhfhpghkaa.hp
