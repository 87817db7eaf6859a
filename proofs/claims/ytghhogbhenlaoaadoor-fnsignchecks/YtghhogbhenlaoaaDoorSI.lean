import Derived.Test.YtghhogbhenlaoaaDoorSP
namespace Go.Proofs.YtghhogbhenlaoaaDoor.sg
open Go.ChangeShapes Go.WideShapes Go.ChangeAt Go.RowKit Go.Deep
set_option linter.unusedVariables false

/-- Euclid's steps, with the factors beside: the last rest and its factor. -/
def eg : Nat → Nat → Nat → Int → Int → Nat × Int
  | 0, a, _, x, _ => (a, x)
  | f + 1, a, b, x, y => if b = 0 then (a, x) else eg f b (a % b) y (x - (a / b : Nat) * y)

/-- Enough steps are enough. -/
theorem eg_fuel : ∀ (f g a b : Nat) (x y : Int), b ≤ f → b ≤ g → eg f a b x y = eg g a b x y
  | 0, 0, a, b, x, y, _, _ => rfl
  | 0, g + 1, a, b, x, y, h, _ => by
    obtain rfl : b = 0 := by omega
    simp [eg]
  | f + 1, 0, a, b, x, y, _, h => by
    obtain rfl : b = 0 := by omega
    simp [eg]
  | f + 1, g + 1, a, b, x, y, h1, h2 => by
    simp only [eg]
    by_cases hb : b = 0
    · rw [if_pos hb, if_pos hb]
    · rw [if_neg hb, if_neg hb]
      have := Nat.mod_lt a (show 0 < b by omega)
      exact eg_fuel f g b (a % b) y _ (by omega) (by omega)

def egc (a b : Nat) (x y : Int) : Nat × Int := eg b a b x y

theorem egc_zero (a : Nat) (x y : Int) : egc a 0 x y = (a, x) := rfl

theorem egc_step {a b : Nat} (x y : Int) (hb : b ≠ 0) : egc a b x y = egc b (a % b) y (x - (a / b : Nat) * y) := by
  unfold egc
  obtain ⟨f, rfl⟩ : ∃ f, b = f + 1 := ⟨b - 1, by omega⟩
  have := Nat.mod_lt a (show 0 < f + 1 by omega)
  rw [eg, if_neg hb]
  exact eg_fuel _ _ _ _ _ _ (by omega) (Nat.le_refl _)

/-- What holds at each test: the factors' signs differ, and the sum of the products across is m. -/
structure Eu (e m a b : Nat) (x y : Int) : Prop where
  sum : (x ≤ 0 ∧ 0 ≤ y ∧ (a : Int) * y - (b : Int) * x = (m : Int)) ∨ (0 ≤ x ∧ y ≤ 0 ∧ (b : Int) * x - (a : Int) * y = (m : Int))
  da : ∃ k : Int, (e : Int) * x - (a : Int) = (m : Int) * k
  db : ∃ k : Int, (e : Int) * y - (b : Int) = (m : Int) * k
  lt : b < a
  am : a ≤ m

theorem Eu.start {e m : Nat} (h : e < m) : Eu e m m e 0 1 :=
  ⟨.inl ⟨by omega, by omega, by omega⟩, ⟨-1, by omega⟩, ⟨0, by omega⟩, h, Nat.le_refl _⟩

theorem Eu.next {e m a b : Nat} {x y : Int} (h : Eu e m a b x y) (hb : b ≠ 0) : Eu e m b (a % b) y (x - ((a / b : Nat) : Int) * y) := by
  obtain ⟨q, hq⟩ : ∃ q, q = a / b := ⟨_, rfl⟩
  obtain ⟨r, hr⟩ : ∃ r, r = a % b := ⟨_, rfl⟩
  have hab : a = b * q + r := by rw [hq, hr]; exact (Nat.div_add_mod a b).symm
  rw [← hq, ← hr]
  have hlr : r < b := by rw [hr]; exact Nat.mod_lt _ (by omega)
  have hc : (a : Int) = (b : Int) * (q : Int) + (r : Int) := by rw [hab, Int.natCast_add, Int.natCast_mul]
  refine ⟨?_, h.db, ?_, hlr, Nat.le_trans (Nat.le_of_lt h.lt) h.am⟩
  · rcases h.sum with ⟨h1, h2, h3⟩ | ⟨h1, h2, h3⟩
    · right
      refine ⟨h2, ?_, ?_⟩
      · have := Int.mul_nonneg (Int.natCast_nonneg q) h2
        omega
      · rw [hc] at h3
        rw [← h3, Int.mul_sub, Int.add_mul, Int.mul_assoc]
        omega
    · left
      refine ⟨h2, ?_, ?_⟩
      · have := Int.mul_nonneg (Int.natCast_nonneg q) (Int.neg_nonneg_of_nonpos h2)
        rw [Int.mul_neg] at this
        omega
      · rw [hc] at h3
        rw [← h3, Int.mul_sub, Int.add_mul, Int.mul_assoc]
        omega
  · obtain ⟨k1, e1⟩ := h.da
    obtain ⟨k2, e2⟩ := h.db
    refine ⟨k1 - (q : Int) * k2, ?_⟩
    have e3 : (m : Int) * (k1 - (q : Int) * k2) = ((e : Int) * x - (a : Int)) - (q : Int) * ((e : Int) * y - (b : Int)) := by
      rw [Int.mul_sub, e1, e2, ← Int.mul_assoc, ← Int.mul_assoc, Int.mul_comm (m : Int) (q : Int)]
    rw [e3, hc, Int.mul_sub, Int.mul_sub, ← Int.mul_assoc, ← Int.mul_assoc, Int.mul_comm (e : Int) (q : Int), Int.mul_comm (b : Int) (q : Int)]
    omega

/-- The factors stay within m. -/
theorem Eu.bound {e m a b : Nat} {x y : Int} (h : Eu e m a b x y) : -(m : Int) ≤ y ∧ y ≤ (m : Int) ∧ (b ≠ 0 → -(m : Int) ≤ x ∧ x ≤ (m : Int)) := by
  have ha : (1 : Int) ≤ (a : Int) := by have := h.lt; omega
  rcases h.sum with ⟨h1, h2, h3⟩ | ⟨h1, h2, h3⟩
  · have p1 : y ≤ (a : Int) * y := by have := Int.mul_le_mul_of_nonneg_right ha h2; omega
    have p2 : 0 ≤ (b : Int) * (-x) := Int.mul_nonneg (Int.natCast_nonneg b) (by omega)
    rw [Int.mul_neg] at p2
    have p3 : 0 ≤ (a : Int) * y := Int.mul_nonneg (Int.natCast_nonneg a) h2
    refine ⟨by omega, by omega, fun hb => ?_⟩
    have p4 : -x ≤ (b : Int) * (-x) := by have := Int.mul_le_mul_of_nonneg_right (show (1 : Int) ≤ (b : Int) by omega) (show 0 ≤ -x by omega); omega
    rw [Int.mul_neg] at p4
    omega
  · have p1 : -y ≤ (a : Int) * (-y) := by have := Int.mul_le_mul_of_nonneg_right ha (show 0 ≤ -y by omega); omega
    rw [Int.mul_neg] at p1
    have p2 : 0 ≤ (b : Int) * x := Int.mul_nonneg (Int.natCast_nonneg b) h1
    have p3 : 0 ≤ (a : Int) * (-y) := Int.mul_nonneg (Int.natCast_nonneg a) (by omega)
    rw [Int.mul_neg] at p3
    refine ⟨by omega, by omega, fun hb => ?_⟩
    have p4 : x ≤ (b : Int) * x := by have := Int.mul_le_mul_of_nonneg_right (show (1 : Int) ≤ (b : Int) by omega) h1; omega
    omega

/-- The product that a step takes off stays within m too. -/
theorem Eu.prod {e m a b : Nat} {x y : Int} (h : Eu e m a b x y) (hb : b ≠ 0) : -(2 * (m : Int)) ≤ ((a / b : Nat) : Int) * y ∧ ((a / b : Nat) : Int) * y ≤ 2 * (m : Int) := by
  have b1 := (h.bound).2.2 hb
  have b2 := (h.next hb).bound
  omega

/-- The number that is sought, where there is one. -/
def ivB (e m : Nat) : Bool := decide ((egc m e 0 1).1 = 1)
def ivD (e m : Nat) : Int := if (egc m e 0 1).2 < 0 then (egc m e 0 1).2 + (m : Int) else (egc m e 0 1).2

/-- What the steps end in. -/
structure Ed (e m a : Nat) (x : Int) : Prop where
  lo : -(m : Int) ≤ x
  hi : x ≤ (m : Int)
  da : ∃ k : Int, (e : Int) * x - (a : Int) = (m : Int) * k

theorem Eu.ends : ∀ (b e m a : Nat) (x y : Int), Eu e m a b x y → -(m : Int) ≤ x → x ≤ (m : Int) → Ed e m (egc a b x y).1 (egc a b x y).2 := by
  intro b
  induction b using Nat.strongRecOn with
  | ind b ih =>
    intro e m a x y h l1 l2
    by_cases hb : b = 0
    · subst hb
      rw [egc_zero]
      exact ⟨l1, l2, h.da⟩
    · rw [egc_step x y hb]
      have := h.bound
      exact ih (a % b) (Nat.mod_lt _ (by omega)) e m b y _ (h.next hb) this.1 this.2.1

theorem ends_of {e m : Nat} (h : e < m) : Ed e m (egc m e 0 1).1 (egc m e 0 1).2 := Eu.ends e e m m 0 1 (Eu.start h) (by omega) (by omega)

theorem ivD_spec {e m : Nat} (h : e < m) (h2 : 2 ≤ m) (hB : ivB e m = true) : 1 ≤ ivD e m ∧ ivD e m ≤ (m : Int) ∧ ∃ k : Int, (e : Int) * ivD e m - 1 = (m : Int) * k := by
  have hE := ends_of h
  have h1 : (egc m e 0 1).1 = 1 := of_decide_eq_true hB
  rw [h1] at hE
  obtain ⟨k, hk⟩ := hE.da
  unfold ivD
  have lo := hE.lo
  have hi := hE.hi
  generalize (egc m e 0 1).2 = x at *
  have no : ∀ k : Int, (m : Int) * k ≠ -1 := by
    intro k hk
    have : (m : Int) ∣ 1 := ⟨-k, by rw [Int.mul_neg, hk]; rfl⟩
    have := Int.le_of_dvd (by omega) this
    omega
  by_cases hx : x < 0
  · rw [if_pos hx]
    have hk2 : (e : Int) * (x + (m : Int)) - 1 = (m : Int) * (k + (e : Int)) := by
      rw [Int.mul_add, Int.mul_add, ← hk, Int.mul_comm (m : Int) (e : Int)]
      omega
    refine ⟨?_, by omega, _, hk2⟩
    rcases Int.lt_or_le 0 (x + (m : Int)) with hh | hh
    · omega
    · exfalso
      have : x + (m : Int) = 0 := by omega
      rw [this, Int.mul_zero] at hk2
      exact no _ (by rw [← hk2]; rfl)
  · rw [if_neg hx]
    refine ⟨?_, by omega, k, hk⟩
    rcases Int.lt_or_le 0 x with hh | hh
    · omega
    · exfalso
      have : x = 0 := by omega
      subst this
      rw [Int.mul_zero] at hk
      exact no _ (by rw [← hk]; rfl)

end Go.Proofs.YtghhogbhenlaoaaDoor.sg
