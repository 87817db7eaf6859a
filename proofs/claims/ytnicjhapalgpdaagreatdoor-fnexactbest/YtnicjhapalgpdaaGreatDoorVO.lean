import Derived.Test.YtnicjhapalgpdaaGreatDoorVG
namespace Go.Proofs.YtnicjhapalgpdaaGreatDoor.vr
open Go.ChangeShapes Go.WideShapes Go.ChangeAt Go.RowKit Go.Deep Go.Shelf
set_option linter.unusedVariables false
set_option linter.unusedSimpArgs false

/-! ### Versions are in an order -/

theorem cmpL_lt {a b : List UInt8} : cmpL a b < 0 ↔ a < b := by
  unfold cmpL
  by_cases h : a < b
  · simp [h]
  · rw [if_neg h]
    by_cases h2 : b < a
    · simp [h, h2]
    · simp [h, h2]
theorem cmpL_anti (a b : List UInt8) : cmpL a b = - cmpL b a := by
  unfold cmpL
  by_cases h : a < b
  · have h2 : ¬ b < a := fun h2 => List.lt_irrefl _ (List.lt_trans h h2)
    simp [h, h2]
  · by_cases h2 : b < a
    · simp [h, h2]
    · simp [h, h2]
theorem cmpL_cases (a b : List UInt8) : cmpL a b = -1 ∨ cmpL a b = 0 ∨ cmpL a b = 1 := by
  unfold cmpL
  by_cases h : a < b
  · simp [h]
  · by_cases h2 : b < a
    · simp [h, h2]
    · simp [h, h2]
theorem cmpN_lt {a b : Nat} : cmpN a b < 0 ↔ a < b := by
  unfold cmpN
  by_cases h : a < b
  · simp [h]
  · by_cases h2 : b < a
    · simp [h, h2]
    · simp [h, h2]
theorem cmpN_anti (a b : Nat) : cmpN a b = - cmpN b a := by
  unfold cmpN
  by_cases h : a < b
  · rw [if_pos h, if_neg (by omega), if_pos h]
  · by_cases h2 : b < a
    · rw [if_neg h, if_pos h2, if_pos h2]; rfl
    · rw [if_neg h, if_neg h2, if_neg h2, if_neg h]; rfl
theorem cmpN_cases (a b : Nat) : cmpN a b = -1 ∨ cmpN a b = 0 ∨ cmpN a b = 1 := by
  unfold cmpN
  by_cases h : a < b
  · simp [h]
  · by_cases h2 : b < a
    · simp [h, h2]
    · simp [h, h2]

theorem cmpPt_anti (x y : Pt) : cmpPt x y = - cmpPt y x := by
  cases x with
  | num a => cases y with
    | num b => exact cmpN_anti a b
    | word b => rfl
  | word a => cases y with
    | num b => rfl
    | word b => exact cmpL_anti a b
theorem cmpPt_cases (x y : Pt) : cmpPt x y = -1 ∨ cmpPt x y = 0 ∨ cmpPt x y = 1 := by
  cases x with
  | num a => cases y with
    | num b => exact cmpN_cases a b
    | word b => exact .inr (.inr rfl)
  | word a => cases y with
    | num b => exact .inl rfl
    | word b => exact cmpL_cases a b
theorem cmpPt_trans {x y z : Pt} (h1 : cmpPt x y < 0) (h2 : cmpPt y z < 0) : cmpPt x z < 0 := by
  cases x with
  | num a => cases y with
    | num b => cases z with
      | num c => simp only [cmpPt, cmpN_lt] at *; omega
      | word c => simp [cmpPt] at h2
    | word b => simp [cmpPt] at h1
  | word a => cases y with
    | num b => cases z with
      | num c => simp [cmpPt]
      | word c => simp [cmpPt] at h2
    | word b => cases z with
      | num c => simp [cmpPt]
      | word c => simp only [cmpPt, cmpL_lt] at *; exact List.lt_trans h1 h2

theorem cmpP_anti : ∀ a b : List Pt, cmpP a b = - cmpP b a
  | [], [] => rfl
  | [], x :: b => by cases x <;> rfl
  | x :: a, [] => by cases x <;> rfl
  | x :: a, y :: b => by
    rw [cmpP_cons, cmpP_cons, cmpPt_anti x y]
    by_cases h : cmpPt y x = 0
    · rw [if_pos (by omega), if_pos h]; exact cmpP_anti a b
    · rw [if_neg (by omega), if_neg h]
theorem cmpP_refl (a : List Pt) : cmpP a a = 0 := by have := cmpP_anti a a; omega
theorem cmpP_cases : ∀ a b : List Pt, cmpP a b = -1 ∨ cmpP a b = 0 ∨ cmpP a b = 1
  | [], [] => .inr (.inl rfl)
  | [], x :: b => by cases x <;> simp [cmpP]
  | x :: a, [] => by cases x <;> simp [cmpP]
  | x :: a, y :: b => by
    rw [cmpP_cons]
    split
    · exact cmpP_cases a b
    · exact cmpPt_cases x y
theorem cmpP_zero : ∀ {a b : List Pt}, cmpP a b = 0 → a = b
  | [], [], _ => rfl
  | [], x :: b, h => by cases x <;> simp [cmpP] at h
  | x :: a, [], h => by cases x <;> simp [cmpP] at h
  | x :: a, y :: b, h => by
    rw [cmpP_cons] at h
    by_cases h0 : cmpPt x y = 0
    · rw [if_pos h0] at h
      rw [cmpPt_zero.1 h0, cmpP_zero h]
    · rw [if_neg h0] at h; exact absurd h h0
theorem cmpP_trans : ∀ {a b c : List Pt}, cmpP a b ≤ 0 → cmpP b c ≤ 0 → cmpP a c ≤ 0
  | [], [], c, _, h => h
  | [], .word u :: b, c, h, _ => by simp [cmpP] at h
  | [], .num n :: b, [], _, h => by simp [cmpP] at h
  | [], .num n :: b, .word u :: c, _, h => by rw [cmpP_cons] at h; simp [cmpPt] at h
  | [], .num n :: b, .num m :: c, _, h => by simp [cmpP]
  | .num n :: a, [], c, h, _ => by simp [cmpP] at h
  | .word u :: a, [], [], h, _ => by simp [cmpP]
  | .word u :: a, [], .word v :: c, _, h => by simp [cmpP] at h
  | .word u :: a, [], .num m :: c, _, h => by rw [cmpP_cons]; simp [cmpPt]
  | x :: a, .num n :: b, [], _, h => by simp [cmpP] at h
  | .num n :: a, .word u :: b, [], h, _ => by rw [cmpP_cons] at h; simp [cmpPt] at h
  | .word v :: a, .word u :: b, [], _, _ => by simp [cmpP]
  | x :: a, y :: b, z :: c, h1, h2 => by
    rw [cmpP_cons] at h1 h2 ⊢
    by_cases p : cmpPt x y = 0
    · rw [if_pos p] at h1
      obtain rfl := cmpPt_zero.1 p
      by_cases q : cmpPt x z = 0
      · rw [if_pos q] at h2 ⊢; exact cmpP_trans h1 h2
      · rw [if_neg q] at h2 ⊢; exact h2
    · rw [if_neg p] at h1
      by_cases q : cmpPt y z = 0
      · obtain rfl := cmpPt_zero.1 q
        rw [if_neg p]; exact h1
      · rw [if_neg q] at h2
        have := cmpPt_trans (x := x) (y := y) (z := z) (by omega) (by omega)
        rw [if_neg (by omega)]; omega

theorem cmpP_more {k : Int} (p : Pt) (hp : cmpP [p] [] = k) : ∀ a : List Pt, cmpP (a ++ [p]) a = k
  | [] => hp
  | x :: a => by rw [List.cons_append, cmpP_cons, if_pos (cmpPt_zero.2 rfl)]; exact cmpP_more p hp a

theorem tw_app {f : UInt8 → Bool} {c : UInt8} {t : List UInt8} (hc : f c = false) : ∀ l : List UInt8, (l ++ c :: t).takeWhile f = l.takeWhile f ∧ (l ++ c :: t).dropWhile f = l.dropWhile f ++ c :: t
  | [] => by simp [List.takeWhile_cons, List.dropWhile_cons, hc]
  | d :: l => by
    have := tw_app (t := t) hc l
    by_cases h : f d = true
    · simp [List.takeWhile_cons, List.dropWhile_cons, h, this]
    · simp [List.takeWhile_cons, List.dropWhile_cons, h]

theorem prts_cons (c : UInt8) (r : List UInt8) : prts (c :: r) = if dig c = true then (if 15 < (c :: r.takeWhile dig).length then none else (prts (r.dropWhile dig)).map (Pt.num (numL (c :: r.takeWhile dig)) :: ·))
    else if ltr c = true then (prts (r.dropWhile ltr)).map (Pt.word (c :: r.takeWhile ltr) :: ·)
    else if c.toNat = 46 ∨ c.toNat = 45 then prts r
    else none := by rw [prts]

theorem prts_app {c : UInt8} {t : List UInt8} {qs : List Pt} (hd : dig c = false) (hl : ltr c = false) (ht : prts (c :: t) = some qs) (l : List UInt8) : prts (l ++ c :: t) = (prts l).map (· ++ qs) := by
  induction h : l.length using Nat.strongRecOn generalizing l with
  | ind n ih =>
    cases l with
    | nil => rw [List.nil_append, ht, prts_nil]; rfl
    | cons d r =>
      rw [List.cons_append, prts_cons d (r ++ c :: t), prts_cons d r]
      simp only [List.length_cons] at h
      obtain ⟨a1, a2⟩ := tw_app (t := t) hd r
      obtain ⟨b1, b2⟩ := tw_app (t := t) hl r
      rw [a1, a2, b1, b2]
      have l1 := (List.dropWhile_sublist (l := r) dig).length_le
      have l2 := (List.dropWhile_sublist (l := r) ltr).length_le
      rw [ih _ (by omega) (r.dropWhile dig) rfl, ih _ (by omega) (r.dropWhile ltr) rfl, ih _ (by omega) r rfl]
      by_cases h1 : dig d = true
      · rw [if_pos h1, if_pos h1]
        by_cases h2 : 15 < (d :: r.takeWhile dig).length
        · rw [if_pos h2, if_pos h2]; rfl
        · rw [if_neg h2, if_neg h2, Option.map_map, Option.map_map]; rfl
      · rw [if_neg h1, if_neg h1]
        by_cases h2 : ltr d = true
        · rw [if_pos h2, if_pos h2, Option.map_map, Option.map_map]; rfl
        · rw [if_neg h2, if_neg h2]
          by_cases h3 : d.toNat = 46 ∨ d.toNat = 45
          · rw [if_pos h3, if_pos h3]
          · rw [if_neg h3, if_neg h3]; rfl

theorem ver_app {c : UInt8} {t : List UInt8} {qs ps : List Pt} (hd : dig c = false) (hl : ltr c = false) (ht : prts (c :: t) = some qs) {l : List UInt8} (h : ver l = some ps) (hn : (l ++ c :: t).length ≤ 30) : ver (l ++ c :: t) = some (ps ++ qs) := by
  cases l with
  | nil => cases h
  | cons d r =>
    have e : ver (d :: r) = if (d :: r).length ≤ 30 ∧ dig d = true then prts (d :: r) else none := rfl
    rw [e] at h
    by_cases hh : (d :: r).length ≤ 30 ∧ dig d = true
    · rw [if_pos hh] at h
      have e2 : ver (d :: r ++ c :: t) = if (d :: r ++ c :: t).length ≤ 30 ∧ dig d = true then prts (d :: r ++ c :: t) else none := rfl
      rw [e2, if_pos ⟨hn, hh.2⟩, prts_app hd hl ht, h]; rfl
    · rw [if_neg hh] at h; cases h

theorem prts_dot0 : prts [46, 48] = some [Pt.num 0] := by
  rw [prts_sep (by decide) (by decide) (.inl rfl), prts_num rfl (by decide)]
  rw [show List.takeWhile dig [48] = [48] by decide, show List.dropWhile dig [48] = [] by decide, if_neg (by decide), prts_nil]; rfl
theorem prts_dasha : prts [45, 97] = some [Pt.word [97]] := by
  rw [prts_sep (by decide) (by decide) (.inr rfl), prts_word rfl (by decide) (by decide)]
  rw [show List.takeWhile ltr [97] = [97] by decide, show List.dropWhile ltr [97] = [] by decide, prts_nil]; rfl

theorem newer {l : List UInt8} {ps : List Pt} (h : ver l = some ps) (hn : l.length + 2 ≤ 30) : cmpV (l ++ [46, 48]) l = 1 := by
  have := ver_app (by decide) (by decide) prts_dot0 h (by simp; omega)
  unfold cmpV
  rw [this, h]
  exact cmpP_more _ rfl ps
theorem older {l : List UInt8} {ps : List Pt} (h : ver l = some ps) (hn : l.length + 2 ≤ 30) : cmpV (l ++ [45, 97]) l = -1 := by
  have := ver_app (by decide) (by decide) prts_dasha h (by simp; omega)
  unfold cmpV
  rw [this, h]
  exact cmpP_more _ rfl ps

end Go.Proofs.YtnicjhapalgpdaaGreatDoor.vr
