import Derived.Test.YtdddplhfhpghkaaG06
import Derived.Test.YtdddplhfhpghkaaG02
namespace Go.Proofs.Ytdddplhfhpghkaa.cy
open Go.ChangeShapes Go.WideShapes Go.ChangeAt Go.RowKit Go.Deep Go.Maps
open fa (Us uNo nmL nds aw aws aw_mem aw_len aw_le aw_asc nAt nAt_some uNo_yes uNo_get)
open fw (Ua ua_of)
set_option linter.unusedVariables false
set_option linter.unusedSimpArgs false

/-! ### Rings, plainly -/

theorem ds_yes {us : List ty.Un} {i t m : Nat} (h : ds us i t = some m) : Wy us m i t ∧ (∀ k, Wy us k i t → m ≤ k) ∧ m < 200 := by
  unfold ds at h
  rw [List.find?_range_eq_some] at h
  obtain ⟨h1, h2, h3⟩ := h
  have h2 : m < 200 := by simpa using h2
  refine ⟨wB_iff.1 h1, fun k hk => ?_, h2⟩
  rcases Nat.lt_or_ge k m with hl | hl
  · have := h3 k hl
    rw [wB_iff.2 hk] at this
    cases this
  · exact hl
theorem ds_way {us : List ty.Un} {i t k : Nat} (h : Wy us k i t) (hk : k < 200) : ∃ m, ds us i t = some m ∧ m ≤ k := by
  cases hd : ds us i t with
  | none =>
    unfold ds at hd
    rw [List.find?_eq_none] at hd
    exact absurd (wB_iff.2 h) (hd k (List.mem_range.2 hk))
  | some m => exact ⟨m, rfl, (ds_yes hd).2.1 k h⟩
theorem ds_self (us : List ty.Un) (s : Nat) : ds us s s = some 0 := by
  obtain ⟨m, h1, h2⟩ := ds_way (us := us) (i := s) (t := s) (k := 0) rfl (by omega)
  rw [h1]
  congr 1
  omega
theorem ds_zero {us : List ty.Un} {i s : Nat} (h : ds us i s = some 0) : i = s := (ds_yes h).1
theorem ds_lt {us : List ty.Un} {i s m : Nat} (h : ds us i s = some m) (hs : s < us.length) : i < us.length := by
  cases m with
  | zero => rw [ds_zero h]; exact hs
  | succ m =>
    obtain ⟨j, hj, _⟩ := (ds_yes h).1
    exact ed_lt hj
/-- Of what it waits for, the nearest is r steps away. -/
def Mn (us : List ty.Un) (s at' r : Nat) : Prop := (∃ j, j ∈ ed us at' ∧ ds us j s = some r) ∧ ∀ j, j ∈ ed us at' → ∀ q, ds us j s = some q → r ≤ q
theorem mn_of {us : List ty.Un} {s at' r : Nat} (hw : Wy us (r + 1) at' s) (hm : ∀ k, Wy us (k + 1) at' s → r ≤ k) (hr : r < 200) : Mn us s at' r := by
  obtain ⟨j, hj, h⟩ := hw
  obtain ⟨q, hq, hle⟩ := ds_way h hr
  have h2 := hm q ⟨j, hj, (ds_yes hq).1⟩
  obtain rfl : q = r := by omega
  exact ⟨⟨j, hj, hq⟩, fun j' hj' q' hq' => hm q' ⟨j', hj', (ds_yes hq').1⟩⟩
theorem mn_step {us : List ty.Un} {s at' r : Nat} (h : ds us at' s = some (r + 1)) : Mn us s at' r := by
  obtain ⟨h1, h2, h3⟩ := ds_yes h
  exact mn_of h1 (fun k hk => by have := h2 _ hk; omega) (by omega)
/-- The shortest way back, 0: none. -/
def rd (us : List ty.Un) (s : Nat) : Nat := (((List.range 200).find? fun k => wB us (k + 1) s s).map fun k => k + 1).getD 0
theorem rd_some {us : List ty.Un} {s r : Nat} (h : rd us s = r + 1) : Mn us s s r ∧ r < 200 := by
  unfold rd at h
  cases hf : (List.range 200).find? (fun k => wB us (k + 1) s s) with
  | none => rw [hf] at h; simp at h
  | some m =>
    rw [hf] at h
    simp at h
    subst h
    rw [List.find?_range_eq_some] at hf
    obtain ⟨h1, h2, h3⟩ := hf
    have h2 : m < 200 := by simpa using h2
    refine ⟨mn_of (wB_iff.1 h1) (fun k hk => ?_) h2, h2⟩
    rcases Nat.lt_or_ge k m with hl | hl
    · have := h3 k hl
      rw [wB_iff.2 hk] at this
      cases this
    · exact hl
theorem rd_none {us : List ty.Un} {s : Nat} (h : rd us s = 0) : ∀ j, j ∈ ed us s → ds us j s = none := fun j hj => by
  cases hd : ds us j s with
  | none => rfl
  | some q =>
    obtain ⟨h1, _, h3⟩ := ds_yes hd
    unfold rd at h
    cases hf : (List.range 200).find? (fun k => wB us (k + 1) s s) with
    | none =>
      rw [List.find?_eq_none] at hf
      exact absurd (wB_iff.2 (show Wy us (q + 1) s s from ⟨j, hj, h1⟩)) (hf q (List.mem_range.2 h3))
    | some m => rw [hf] at h; simp at h
theorem rd_is {us : List ty.Un} {s r : Nat} (h : Mn us s s r) : rd us s = r + 1 := by
  obtain ⟨⟨j, hj, hd⟩, h2⟩ := h
  cases hr : rd us s with
  | zero => rw [rd_none hr j hj] at hd; cases hd
  | succ q =>
    obtain ⟨⟨⟨j', hj', hd'⟩, h3⟩, _⟩ := rd_some hr
    have e1 := h2 j' hj' q hd'
    have e2 := h3 j hj r hd
    omega
theorem rd_zero {us : List ty.Un} {s : Nat} (h : ∀ j, j ∈ ed us s → ds us j s = none) : rd us s = 0 := by
  cases hr : rd us s with
  | zero => rfl
  | succ q =>
    obtain ⟨⟨⟨j, hj, hd⟩, _⟩, _⟩ := rd_some hr
    rw [h j hj] at hd
    cases hd
/-- The next on the shortest way. -/
def nx (us : List ty.Un) (s at' r : Nat) : Nat := ((ed us at').find? fun j => decide (ds us j s = some r)).getD 0
theorem ed_asc {us : List ty.Un} (hU : Ua us) (i : Nat) : (ed us i).Pairwise (· ≤ ·) := by
  unfold ed
  cases hu : us[i]? with
  | none => exact List.Pairwise.nil
  | some u =>
    refine aw_asc ?_
    have := hU.len u (List.mem_of_getElem? hu)
    rw [aw_len] at this
    omega
theorem ed_len {us : List ty.Un} (hU : Ua us) (i : Nat) : (ed us i).length ≤ 40 := by
  unfold ed
  cases hu : us[i]? with
  | none => simp
  | some u => exact hU.len u (List.mem_of_getElem? hu)
theorem nx_is {us : List ty.Un} {s at' r : Nat} (h : Mn us s at' r) : nx us s at' r ∈ ed us at' ∧ ds us (nx us s at' r) s = some r := by
  obtain ⟨⟨j, hj, hd⟩, _⟩ := h
  unfold nx
  cases hf : (ed us at').find? (fun j => decide (ds us j s = some r)) with
  | none => rw [List.find?_eq_none] at hf; exact absurd (decide_eq_true hd) (hf j hj)
  | some x =>
    have h1 := List.find?_some hf
    exact ⟨List.mem_of_find?_eq_some hf, of_decide_eq_true h1⟩
/-- The first in the row is it. -/
theorem nx_at {us : List ty.Un} {s at' r p j : Nat} (hp : (ed us at')[p]? = some j) (hd : ds us j s = some r) (hb : ∀ q x, q < p → (ed us at')[q]? = some x → ds us x s ≠ some r) : nx us s at' r = j := by
  unfold nx
  have hpl := (List.getElem?_eq_some_iff.1 hp).1
  have e : (ed us at').find? (fun j => decide (ds us j s = some r)) = some j := by
    rw [List.find?_eq_some_iff_getElem]
    refine ⟨decide_eq_true hd, p, hpl, (List.getElem?_eq_some_iff.1 hp).2, fun q hq => ?_⟩
    have := hb q _ hq (List.getElem?_eq_getElem (by omega))
    simpa using this
  rw [e]
  rfl
/-- The least of all is it. -/
theorem nx_min {us : List ty.Un} (hU : Ua us) {s at' r j : Nat} (hj : j ∈ ed us at') (hd : ds us j s = some r) (hb : ∀ x, x < j → x ∈ ed us at' → ds us x s ≠ some r) : nx us s at' r = j := by
  have hn : nx us s at' r ∈ ed us at' ∧ ds us (nx us s at' r) s = some r := by
    unfold nx
    cases hf : (ed us at').find? (fun j => decide (ds us j s = some r)) with
    | none => rw [List.find?_eq_none] at hf; exact absurd (decide_eq_true hd) (hf j hj)
    | some x =>
      have h1 := List.find?_some hf
      exact ⟨List.mem_of_find?_eq_some hf, of_decide_eq_true h1⟩
  rcases Nat.lt_or_ge (nx us s at' r) j with h | h
  · exact absurd hn.2 (hb _ h hn.1)
  · -- what is found stands no later than j
    refine Nat.le_antisymm ?_ h
    unfold nx at *
    cases hf : (ed us at').find? (fun j => decide (ds us j s = some r)) with
    | none => rw [List.find?_eq_none] at hf; exact absurd (decide_eq_true hd) (hf j hj)
    | some x =>
      show x ≤ j
      rw [List.find?_eq_some_iff_getElem] at hf
      obtain ⟨_, p, hp, e, hq⟩ := hf
      obtain ⟨q, hqj⟩ := List.getElem?_of_mem hj
      obtain ⟨hql, hqe⟩ := List.getElem?_eq_some_iff.1 hqj
      rcases Nat.lt_trichotomy p q with hlt | heq | hgt
      · have := (List.pairwise_iff_getElem.1 (ed_asc hU at')) p q hp hql hlt
        rw [e, hqe] at this
        exact this
      · subst heq
        rw [← e, hqe]
        exact Nat.le_refl _
      · have := hq q hgt
        rw [hqe, decide_eq_true hd] at this
        cases this
/-- So on, r more. -/
def chn (us : List ty.Un) (s : Nat) : Nat → Nat → List Nat
  | 0, _ => []
  | r + 1, at' => at' :: chn us s r (nx us s at' r)
theorem chn_len (us : List ty.Un) (s : Nat) : ∀ r at', (chn us s r at').length = r
  | 0, _ => rfl
  | r + 1, at' => by show (chn us s r _).length + 1 = _; rw [chn_len us s r]
theorem chn_lt {us : List ty.Un} {s : Nat} (hs : s < us.length) : ∀ {r at'}, at' < us.length → (r = 0 ∨ Mn us s at' (r - 1)) → ∀ x ∈ chn us s r at', x < us.length
  | 0, at', _, _, x, hx => by cases hx
  | r + 1, at', ha, hm, x, hx => by
    rcases List.mem_cons.1 hx with rfl | hx
    · exact ha
    · have hm : Mn us s at' r := by
        rcases hm with h | h
        · omega
        · exact h
      have h2 := nx_is hm
      refine chn_lt hs (ds_lt h2.2 hs) ?_ x hx
      cases r with
      | zero => exact .inl rfl
      | succ q => exact .inr (mn_step h2.2)
def ring (us : List ty.Un) (s : Nat) : List Nat := chn us s (rd us s) s
theorem ring_len (us : List ty.Un) (s : Nat) : (ring us s).length = rd us s := chn_len us s _ s
theorem ring_lt {us : List ty.Un} {s : Nat} (hs : s < us.length) : ∀ x ∈ ring us s, x < us.length := by
  refine chn_lt hs hs ?_
  cases h : rd us s with
  | zero => exact .inl rfl
  | succ r => exact .inr (rd_some h).1
/-- Of the first k, where the shortest begins, and how long it is. -/
def sc (us : List ty.Un) : Nat → Nat × Nat
  | 0 => (0, 0)
  | k + 1 => if 0 < rd us k ∧ ((sc us k).1 = 0 ∨ rd us k < (sc us k).1) then (rd us k, k) else sc us k
def cyN (us : List ty.Un) (k : Nat) : List Nat := chn us (sc us k).2 (sc us k).1 (sc us k).2
theorem cyN_len (us : List ty.Un) (k : Nat) : (cyN us k).length = (sc us k).1 := chn_len _ _ _ _
theorem cyN_step (us : List ty.Un) (k : Nat) : cyN us (k + 1) = if 0 < (ring us k).length ∧ ((cyN us k).length = 0 ∨ (ring us k).length < (cyN us k).length) then ring us k else cyN us k := by
  rw [ring_len, cyN_len]
  show chn us (sc us (k + 1)).2 (sc us (k + 1)).1 (sc us (k + 1)).2 = _
  have e : sc us (k + 1) = if 0 < rd us k ∧ ((sc us k).1 = 0 ∨ rd us k < (sc us k).1) then (rd us k, k) else sc us k := rfl
  rw [e]
  split <;> rfl
theorem sc_is (us : List ty.Un) : ∀ k, (sc us k).1 = 0 ∨ ((sc us k).2 < k ∧ rd us (sc us k).2 = (sc us k).1)
  | 0 => .inl rfl
  | k + 1 => by
    have e : sc us (k + 1) = if 0 < rd us k ∧ ((sc us k).1 = 0 ∨ rd us k < (sc us k).1) then (rd us k, k) else sc us k := rfl
    rw [e]
    split
    · exact .inr ⟨Nat.lt_succ_self k, rfl⟩
    · rcases sc_is us k with h | ⟨h1, h2⟩
      · exact .inl h
      · exact .inr ⟨by omega, h2⟩
/-- What both answer. -/
def cyA (us : List ty.Un) : List (List UInt8) := if un.usB us = true then (cyN us us.length).map (nAt us) else []
end Go.Proofs.Ytdddplhfhpghkaa.cy

namespace Go.Proofs.Ytdddplhfhpghkaa.sr
open Go.ChangeShapes Go.WideShapes Go.ChangeAt Go.RowKit Go.Deep
set_option linter.unusedVariables false
set_option linter.unusedSimpArgs false

/-! ### The specification's l3Has -/

set_option maxRecDepth 100000 in
theorem l3has_any (xs : List (List UInt8)) (v : Value) (s : ByteArray) (w : World) (hR : StrR w v xs) :
    Calls Try.prog 37 #[v, .string s] w fun e w' => e = .returned (.bool (decide (s.data.toList ∈ xs))) ∧ w' = w := by
  obtain ⟨bb, off, cap, rfl, h1, h2, hc⟩ := hR
  have HC : Hid (∀ i, i < xs.length → w.cell? ⟨bb, off + i, none⟩ = some (strL (xAt xs i))) := fun i hi => hc i _ (xAt_some hi)
  unfold maxLen at h2
  clear hc
  go_enter Try.func37, Try.ntmps37
  go_wp2
  go_loopw [5] (fun x wr => ∃ (i : Nat), i ≤ xs.length ∧ x = .int .i64 (i : Int) ∧ (∀ j, j < i → xAt xs j ≠ s.data.toList) ∧ wr = w) (fun x _ => xs.length - (intOf x).toNat)
  case atStart => exact ⟨0, Nat.zero_le _, rfl, fun j h => by omega, rfl⟩
  case round =>
    obtain ⟨i, hi, rfl, hno, rfl⟩ := hrel
    have HNO : Hid (∀ j, j < i → xAt xs j ≠ s.data.toList) := hno
    clear hno
    by_cases h : i < xs.length
    · have h' : (i : Int) < (xs.length : Int) := by omega
      have ce := HC.out i h
      rw [strL] at ce
      obtain ⟨u, hu⟩ : ∃ u : ByteArray, (⟨(xAt xs i).toArray⟩ : ByteArray) = u := ⟨_, rfl⟩
      rw [hu] at ce
      have HU : Hid (u.toList = xAt xs i) := by show _ = _; rw [← hu, ByteArray.toList_eq]
      clear hu
      cases he : (u.toList == s.toList) with
      | true =>
        have HY : Hid (decide (s.data.toList ∈ xs) = true) := by
          show _ = _
          rw [decide_eq_true_eq]
          have e : xAt xs i = s.data.toList := by rw [← HU.out, ← ByteArray.toList_eq]; simpa using he
          rw [← e]
          exact List.mem_of_getElem? (xAt_some h)
        go_wp2
        go_ret
        exact ⟨ret_bool HY.out.symm, rfl⟩
      | false =>
        have HX : Hid (xAt xs i ≠ s.data.toList) := by
          intro e
          rw [← HU.out, ← ByteArray.toList_eq] at e
          simp [e] at he
        go_wp2
        go_roundw
        case rel => exact ⟨i + 1, by omega, by go_num, fun j hj => by
          rcases Nat.lt_or_ge j i with h | h
          · exact HNO.out j h
          · obtain rfl : j = i := by omega
            exact HX.out, by first | rfl | trivial⟩
        case measure => simp [intOf]; omega
    · have h' : ¬ (i : Int) < (xs.length : Int) := by omega
      obtain rfl : i = xs.length := by omega
      have HY : Hid (decide (s.data.toList ∈ xs) = false) := by
        show _ = _
        rw [decide_eq_false_iff_not]
        intro hm
        obtain ⟨j, hj, e⟩ := List.mem_iff_getElem.1 hm
        exact HNO.out j hj (by simp [xAt, hj, e])
      go_wp2
      go_ret
      exact ⟨ret_bool HY.out.symm, rfl⟩

end Go.Proofs.Ytdddplhfhpghkaa.sr
