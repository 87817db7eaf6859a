import Derived.Test.YtnicjhapalgpdaaGreatDoorRows
import Derived.Test.YtnicjhapalgpdaaGreatDoorL
import Derived.Sort.Walk0
import Derived.Lib.ParseIntB
namespace Go.Proofs.YtnicjhapalgpdaaGreatDoor.vr
open Go.ChangeShapes Go.WideShapes Go.ChangeAt Go.RowKit Go.Deep
set_option linter.unusedVariables false
set_option linter.unusedSimpArgs false

/-! ### Versions: the plain model -/

def dig (c : UInt8) : Bool := decide (48 ≤ c.toNat ∧ c.toNat ≤ 57)
def ltr (c : UInt8) : Bool := decide (97 ≤ c.toNat ∧ c.toNat ≤ 122 ∨ 65 ≤ c.toNat ∧ c.toNat ≤ 90)

inductive Pt where
  | num (n : Nat)
  | word (l : List UInt8)

def numL (l : List UInt8) : Nat := l.foldl (fun a c => a * 10 + (c.toNat - 48)) 0

def prts (l : List UInt8) : Option (List Pt) :=
  match l with
  | [] => some []
  | c :: r =>
    if dig c = true then (if 15 < (c :: r.takeWhile dig).length then none else (prts (r.dropWhile dig)).map (Pt.num (numL (c :: r.takeWhile dig)) :: ·))
    else if ltr c = true then (prts (r.dropWhile ltr)).map (Pt.word (c :: r.takeWhile ltr) :: ·)
    else if c.toNat = 46 ∨ c.toNat = 45 then prts r
    else none
termination_by l.length
decreasing_by
  · have := (List.dropWhile_sublist (l := r) dig).length_le; simp; omega
  · have := (List.dropWhile_sublist (l := r) ltr).length_le; simp; omega
  · simp

theorem prts_nil : prts [] = some [] := by rw [prts]

theorem prts_num {l : List UInt8} {c : UInt8} {r : List UInt8} (hl : l = c :: r) (h : dig c = true) : prts l = if 15 < (l.takeWhile dig).length then none else (prts (l.dropWhile dig)).map (Pt.num (numL (l.takeWhile dig)) :: ·) := by
  subst hl
  rw [prts]
  simp [h, List.takeWhile_cons, List.dropWhile_cons]

theorem prts_word {l : List UInt8} {c : UInt8} {r : List UInt8} (hl : l = c :: r) (h : dig c = false) (h2 : ltr c = true) : prts l = (prts (l.dropWhile ltr)).map (Pt.word (l.takeWhile ltr) :: ·) := by
  subst hl
  rw [prts]
  simp [h, h2, List.takeWhile_cons, List.dropWhile_cons]

theorem prts_sep {c : UInt8} {r : List UInt8} (h : dig c = false) (h2 : ltr c = false) (h3 : c.toNat = 46 ∨ c.toNat = 45) : prts (c :: r) = prts r := by
  rw [prts]
  simp [h, h2, h3]

theorem prts_bad {c : UInt8} {r : List UInt8} (h : dig c = false) (h2 : ltr c = false) (h3 : ¬ (c.toNat = 46 ∨ c.toNat = 45)) : prts (c :: r) = none := by
  rw [prts]
  simp [h, h2, h3]

def ver (l : List UInt8) : Option (List Pt) := match l with
  | [] => none
  | c :: r => if (c :: r).length ≤ 30 ∧ dig c = true then prts (c :: r) else none

theorem ver_short {l : List UInt8} {p : List Pt} (h : ver l = some p) : l.length ≤ 30 ∧ prts l = some p := by
  cases l with
  | nil => cases h
  | cons c r =>
    have e : ver (c :: r) = if (c :: r).length ≤ 30 ∧ dig c = true then prts (c :: r) else none := rfl
    rw [e] at h
    by_cases hh : (c :: r).length ≤ 30 ∧ dig c = true
    · rw [if_pos hh] at h; exact ⟨hh.1, h⟩
    · rw [if_neg hh] at h; cases h

theorem tw_of {f : UInt8 → Bool} {l a b : List UInt8} (h : l = a ++ b) (ha : ∀ c ∈ a, f c = true) (hb : ∀ c, b[0]? = some c → f c = false) : l.takeWhile f = a ∧ l.dropWhile f = b := by
  subst h
  induction a with
  | nil =>
    cases b with
    | nil => simp
    | cons c r => have := hb c rfl; simp [List.takeWhile_cons, List.dropWhile_cons, this]
  | cons c r ih =>
    have h1 := ha c (by simp)
    have h2 := ih (fun x hx => ha x (by simp [hx]))
    simp [List.takeWhile_cons, List.dropWhile_cons, h1, h2.1, h2.2]

theorem tw_long {f : UInt8 → Bool} {l a b : List UInt8} (h : l = a ++ b) (ha : ∀ c ∈ a, f c = true) : a.length ≤ (l.takeWhile f).length := by
  subst h
  induction a with
  | nil => simp
  | cons c r ih =>
    have h1 := ha c (by simp)
    have h2 := ih (fun x hx => ha x (by simp [hx]))
    simp [List.takeWhile_cons, h1] at h2 ⊢
    omega

theorem numL_snoc (l : List UInt8) (c : UInt8) : numL (l ++ [c]) = numL l * 10 + (c.toNat - 48) := by simp [numL]

theorem numL_lt : ∀ (l : List UInt8), (∀ c ∈ l, dig c = true) → numL l < 10 ^ l.length := by
  intro l
  suffices h : ∀ (l : List UInt8) (a k : Nat), a < 10 ^ k → (∀ c ∈ l, dig c = true) → l.foldl (fun a c => a * 10 + (c.toNat - 48)) a < 10 ^ (k + l.length) by
    intro hd
    have := h l 0 0 (by simp) hd
    simpa [numL] using this
  intro l
  induction l with
  | nil => intro a k ha _; simpa using ha
  | cons c r ih =>
    intro a k ha hd
    have hc := hd c (by simp)
    simp only [dig, decide_eq_true_eq] at hc
    have := ih (a * 10 + (c.toNat - 48)) (k + 1) (by rw [Nat.pow_succ]; omega) (fun x hx => hd x (by simp [hx]))
    rw [List.foldl_cons, List.length_cons, show k + (r.length + 1) = k + 1 + r.length from by omega]
    exact this

theorem numL_lt15 {l : List UInt8} (h : ∀ c ∈ l, dig c = true) (hl : l.length ≤ 15) : numL l < 1000000000000000 := by
  have h1 := numL_lt l h
  have h2 : (10 : Nat) ^ l.length ≤ 10 ^ 15 := Nat.pow_le_pow_right (by omega) hl
  have h3 : (10 : Nat) ^ 15 = 1000000000000000 := by decide
  omega

theorem tw_all {f : UInt8 → Bool} {l : List UInt8} : ∀ c ∈ l.takeWhile f, f c = true := by
  induction l with
  | nil => simp
  | cons c r ih =>
    intro x hx
    by_cases h : f c = true
    · simp [List.takeWhile_cons, h] at hx
      rcases hx with rfl | hx
      · exact h
      · exact ih x hx
    · simp [List.takeWhile_cons, h] at hx

/-- What the library's ParseInt says of at most 15 digits. -/
theorem parse15 {l : List UInt8} (h0 : l ≠ []) (h : ∀ c ∈ l, dig c = true) (hl : l.length ≤ 15) : Lib.parseIntB 64 l = .ok (numL l : Int) := by
  have key : ∀ (r : List UInt8) (a k : Nat), a < 10 ^ k → k + r.length ≤ 15 → (∀ c ∈ r, dig c = true) → Lib.parseUintM (2 ^ 64 - 1) a r = .ok (r.foldl (fun a c => a * 10 + (c.toNat - 48)) a) := by
    intro r
    induction r with
    | nil => intro a k _ _ _; rfl
    | cons c r ih =>
      intro a k ha hk hd
      have hc := hd c (by simp)
      simp only [dig, decide_eq_true_eq] at hc
      simp only [List.length_cons] at hk
      have hk2 : (10 : Nat) ^ k ≤ 10 ^ 14 := Nat.pow_le_pow_right (by omega) (by omega)
      have hk3 : (10 : Nat) ^ 14 = 100000000000000 := by decide
      have h64 : (2 : Nat) ^ 64 - 1 = 18446744073709551615 := by decide
      unfold Lib.parseUintM
      rw [if_pos hc, if_neg (by omega), if_neg (by rw [h64]; omega), ih (a * 10 + (c.toNat - 48)) (k + 1) (by rw [Nat.pow_succ]; omega) (by omega) (fun x hx => hd x (by simp [hx]))]
      rfl
  have hn := numL_lt15 h hl
  cases l with
  | nil => exact absurd rfl h0
  | cons c r =>
    have hc := h c (by simp)
    simp only [dig, decide_eq_true_eq] at hc
    have hk := key (c :: r) 0 0 (by decide) (by omega) h
    have hU : Lib.parseUintB 64 (c :: r) = .ok (numL (c :: r)) := by
      unfold Lib.parseUintB
      rw [if_neg (by simp), hk]
      rfl
    unfold Lib.parseIntB
    simp only
    rw [if_neg (by omega), hU]
    simp only
    rw [if_neg (by rintro ⟨_, h2⟩; have h63 : (2 : Nat) ^ (64 - 1) = 9223372036854775808 := by decide
                   omega), if_neg (by rintro ⟨h2, _⟩; omega), if_neg (by omega)]

/-! ### Comparing -/

def cmpL (a b : List UInt8) : Int := if a < b then -1 else if b < a then 1 else 0
def cmpN (a b : Nat) : Int := if a < b then -1 else if b < a then 1 else 0

def cmpPt : Pt → Pt → Int
  | .word a, .word b => cmpL a b
  | .word _, .num _ => -1
  | .num _, .word _ => 1
  | .num a, .num b => cmpN a b

def cmpP : List Pt → List Pt → Int
  | [], [] => 0
  | .word _ :: _, [] => -1
  | .num _ :: _, [] => 1
  | [], .word _ :: _ => 1
  | [], .num _ :: _ => -1
  | x :: a, y :: b => if cmpPt x y = 0 then cmpP a b else cmpPt x y

def cmpV (a b : List UInt8) : Int := match ver a, ver b with
  | some p, some q => cmpP p q
  | _, _ => 2

theorem ll_total {a b : List UInt8} (h1 : ¬ a < b) (h2 : ¬ b < a) : a = b := List.le_antisymm (List.not_lt.1 h2) (List.not_lt.1 h1)

theorem cmpL_zero {a b : List UInt8} : cmpL a b = 0 ↔ a = b := by
  unfold cmpL
  constructor
  · intro h
    split at h
    · cases h
    · split at h
      · cases h
      · rename_i h1 h2; exact ll_total h1 h2
  · rintro rfl
    rw [if_neg (List.lt_irrefl a), if_neg (List.lt_irrefl a)]

theorem cmpN_zero {a b : Nat} : cmpN a b = 0 ↔ a = b := by
  unfold cmpN
  split
  · constructor
    · intro h; cases h
    · intro h; omega
  · split
    · constructor
      · intro h; cases h
      · intro h; omega
    · constructor
      · intro _; omega
      · intro _; rfl

theorem cmpPt_zero {x y : Pt} : cmpPt x y = 0 ↔ x = y := by
  cases x with
  | num a => cases y with
    | num b => simp [cmpPt, cmpN_zero]
    | word b => simp [cmpPt]
  | word a => cases y with
    | num b => simp [cmpPt]
    | word b => simp [cmpPt, cmpL_zero]

end Go.Proofs.YtnicjhapalgpdaaGreatDoor.vr
