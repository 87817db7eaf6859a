import Derived.Test.YtheponigjofknaaDoorL
namespace Go.Proofs.YtheponigjofknaaDoor.sg
set_option linter.unusedVariables false

/-- The rests of a sum and of a product (names of their own, so that no cast is carried into them). -/
def am (a b m : Nat) : Nat := (a + b) % m
def mm (a b m : Nat) : Nat := a * b % m
theorem am_lt {a b m : Nat} (h : 0 < m) : am a b m < m := Nat.mod_lt _ h
theorem mm_lt {a b m : Nat} (h : 0 < m) : mm a b m < m := Nat.mod_lt _ h

/-- The rest of x to the n divided by m; 0 where m is 0 or 1. -/
def pm (x n m : Nat) : Nat := if m < 2 then 0 else x ^ n % m

theorem pm_lt {x n m : Nat} (h : 2 ≤ m) : pm x n m < m := by
  unfold pm
  rw [if_neg (by omega)]
  exact Nat.mod_lt _ (by omega)

theorem pm_small {x n m : Nat} (h : m < 2) : pm x n m = 0 := by unfold pm; rw [if_pos h]
theorem pm_big {x n m : Nat} (h : 2 ≤ m) : pm x n m = x ^ n % m := by unfold pm; rw [if_neg (by omega)]

/-- One round of adding and doubling. -/
theorem times_odd {a b o m t : Nat} (hb : b % 2 = 1) (h : (o + a * b) % m = t) : ((o + a) % m + (a + a) % m * (b / 2)) % m = t := by
  have e : b = 2 * (b / 2) + 1 := by omega
  have e1 : o + a * b = (o + a) + (a + a) * (b / 2) := by
    conv => lhs; rw [e]
    rw [Nat.mul_add, Nat.mul_one, ← Nat.mul_assoc, Nat.mul_two]
    omega
  rw [← h, e1]
  rw [Nat.add_mod ((o + a) % m), Nat.mod_mod, Nat.mod_mul_mod, ← Nat.add_mod]

theorem times_even {a b o m t : Nat} (hb : b % 2 = 0) (h : (o + a * b) % m = t) : (o + (a + a) % m * (b / 2)) % m = t := by
  have e : b = 2 * (b / 2) := by omega
  have e1 : o + a * b = o + (a + a) * (b / 2) := by
    conv => lhs; rw [e]
    rw [← Nat.mul_assoc, Nat.mul_two]
  rw [← h, e1]
  rw [Nat.add_mod, Nat.mod_mul_mod, ← Nat.add_mod]

theorem pow_odd {x n o m t : Nat} (hn : n % 2 = 1) (h : (o * x ^ n) % m = t) : ((o * x) % m * ((x * x) % m) ^ (n / 2)) % m = t := by
  have e : n = 2 * (n / 2) + 1 := by omega
  have e1 : o * x ^ n = (o * x) * (x * x) ^ (n / 2) := by
    conv => lhs; rw [e]
    rw [Nat.pow_succ, Nat.pow_mul, Nat.pow_two, Nat.mul_comm _ x, Nat.mul_assoc]
  rw [← h, e1, Nat.mul_mod ((o * x) % m), Nat.mod_mod, ← Nat.pow_mod, ← Nat.mul_mod]

theorem pow_even {x n o m t : Nat} (hn : n % 2 = 0) (h : (o * x ^ n) % m = t) : (o * ((x * x) % m) ^ (n / 2)) % m = t := by
  have e : n = 2 * (n / 2) := by omega
  have e1 : o * x ^ n = o * (x * x) ^ (n / 2) := by
    conv => lhs; rw [e]
    rw [Nat.pow_mul, Nat.pow_two]
  rw [← h, e1, Nat.mul_mod, ← Nat.pow_mod, ← Nat.mul_mod]

/-- The loop over bits: n's lowest k bits. -/
theorem bit_one {n k : Nat} (h : n / 2 ^ k % 2 = 1) : n % 2 ^ (k + 1) = n % 2 ^ k + 2 ^ k := by
  rw [Nat.pow_succ, Nat.mod_mul, h, Nat.mul_one]

theorem bit_zero {n k : Nat} (h : n / 2 ^ k % 2 = 0) : n % 2 ^ (k + 1) = n % 2 ^ k := by
  rw [Nat.pow_succ, Nat.mod_mul, h, Nat.mul_zero, Nat.add_zero]

theorem sq_step (x k m : Nat) : (x ^ 2 ^ k % m) * (x ^ 2 ^ k % m) % m = x ^ 2 ^ (k + 1) % m := by
  rw [← Nat.mul_mod, ← Nat.pow_add, Nat.pow_succ]
  congr 2
  omega

theorem mul_step {x n k m : Nat} (h : n / 2 ^ k % 2 = 1) : (x ^ (n % 2 ^ k) % m) * (x ^ 2 ^ k % m) % m = x ^ (n % 2 ^ (k + 1)) % m := by
  rw [← Nat.mul_mod, ← Nat.pow_add, bit_one h]

/-- Knuth's step: the quotient that is guessed and mended. -/
theorem guess_hi {u v v1 v0 d q : Nat} (hv : v = v1 * 4294967296 + v0) (hu : u < v) (h0 : v0 < 4294967296) (h1 : 2147483648 ≤ v1) : u / v1 ≤ 4294967297 := by
  have : u / v1 < 4294967298 := by
    rw [Nat.div_lt_iff_lt_mul (by omega)]
    omega
  omega

theorem quot_lt {u v d : Nat} (hu : u < v) (hd : d < 4294967296) : (u * 4294967296 + d) / v < 4294967296 := by
  rw [Nat.div_lt_iff_lt_mul (by omega)]
  have : (u + 1) * 4294967296 ≤ v * 4294967296 := Nat.mul_le_mul_right _ hu
  rw [Nat.mul_comm 4294967296 v]
  omega

/-- What holds at each test: the guess g is not too low, and r is what is left of u. -/
structure Gu (u v v1 v0 d g r : Nat) : Prop where
  hv : v = v1 * 4294967296 + v0
  hu : u < v
  h0 : v0 < 4294967296
  h1 : 2147483648 ≤ v1
  hd : d < 4294967296
  top : g ≤ 4294967297
  rest : g * v1 + r = u
  low : (u * 4294967296 + d) / v ≤ g

theorem Gu.start {u v v1 v0 d : Nat} (hv : v = v1 * 4294967296 + v0) (hu : u < v) (h0 : v0 < 4294967296) (h1 : 2147483648 ≤ v1) (hd : d < 4294967296) : Gu u v v1 v0 d (u / v1) (u % v1) := by
  refine ⟨hv, hu, h0, h1, hd, guess_hi (d := 0) (q := 0) hv hu h0 h1, by rw [Nat.mul_comm]; exact Nat.div_add_mod u v1, ?_⟩
  have hlt : (u * 4294967296 + d) / v < u / v1 + 1 := by
    rw [Nat.div_lt_iff_lt_mul (by omega)]
    have a : u < (u / v1 + 1) * v1 := by
      have := Nat.div_add_mod u v1
      have := Nat.mod_lt u (show 0 < v1 by omega)
      rw [Nat.add_mul, Nat.one_mul, Nat.mul_comm]
      omega
    have b : (u + 1) * 4294967296 ≤ (u / v1 + 1) * v1 * 4294967296 := Nat.mul_le_mul_right _ a
    have c0 : v1 * 4294967296 ≤ v := by rw [hv]; exact Nat.le_add_right _ _
    have c : (u / v1 + 1) * (v1 * 4294967296) ≤ (u / v1 + 1) * v := Nat.mul_le_mul_left (u / v1 + 1) c0
    rw [← Nat.mul_assoc] at c
    exact Nat.lt_of_lt_of_le (Nat.lt_of_lt_of_le (by rw [Nat.add_mul, Nat.one_mul]; exact Nat.add_lt_add_left hd _) b) c
  exact Nat.le_of_lt_succ hlt

/-- The product of guess and divisor, by halves. -/
theorem Gu.prod {u v v1 v0 d g r : Nat} (h : Gu u v v1 v0 d g r) : g * v + r * 4294967296 = u * 4294967296 + g * v0 := by
  rw [h.hv, Nat.mul_add, ← Nat.mul_assoc, ← h.rest, Nat.add_mul]
  omega

theorem Gu.high {u v v1 v0 d g r : Nat} (h : Gu u v v1 v0 d g r) (hc : 4294967296 ≤ g ∨ 4294967296 * r + d < g * v0) : (u * 4294967296 + d) / v ≤ g - 1 ∧ 1 ≤ g := by
  have hq := quot_lt h.hu h.hd
  rcases hc with hc | hc
  · omega
  · have hlt : (u * 4294967296 + d) / v < g := by
      rw [Nat.div_lt_iff_lt_mul (by have := h.hu; omega)]
      have := h.prod
      omega
    generalize (u * 4294967296 + d) / v = z at *
    omega

theorem Gu.next {u v v1 v0 d g r : Nat} (h : Gu u v v1 v0 d g r) (hc : 4294967296 ≤ g ∨ 4294967296 * r + d < g * v0) : Gu u v v1 v0 d (g - 1) (r + v1) ∧ 1 ≤ g := by
  obtain ⟨a, b⟩ := h.high hc
  refine ⟨⟨h.hv, h.hu, h.h0, h.h1, h.hd, by have := h.top; omega, ?_, a⟩, b⟩
  have := h.rest
  have e : (g - 1) * v1 + v1 = g * v1 := by
    rw [Nat.sub_mul, Nat.one_mul]
    exact Nat.sub_add_cancel (Nat.le_mul_of_pos_left _ b)
  omega

theorem Gu.is {u v v1 v0 d g r : Nat} (h : Gu u v v1 v0 d g r) (hc : g * v0 ≤ 4294967296 * r + d) : g = (u * 4294967296 + d) / v := by
  have : g ≤ (u * 4294967296 + d) / v := by
    rw [Nat.le_div_iff_mul_le (by have := h.hu; omega)]
    have := h.prod
    omega
  have := h.low
  omega

/-- The loop was left where the rest is great. -/
theorem Gu.out {u v v1 v0 d g r : Nat} (h : Gu u v v1 v0 d g r) (hg : g ≤ 4294967296) (hr : 4294967296 ≤ r) : g = (u * 4294967296 + d) / v := by
  apply h.is
  have a : g * v0 ≤ 4294967296 * 4294967296 := Nat.mul_le_mul hg (Nat.le_of_lt h.h0)
  have b : 4294967296 * 4294967296 ≤ 4294967296 * r := Nat.mul_le_mul_left _ hr
  omega

/-- What is left behind a step, in words of 64 bits. -/
theorem left_is {u v d g : Nat} (hv : v < 18446744073709551616) (hv0 : 0 < v) (hg : g = (u * 4294967296 + d) / v) : ((u * 4294967296 + d : Nat) : Int) - ((g * v : Nat) : Int) = (((u * 4294967296 + d) % v : Nat) : Int) := by
  have := Nat.div_add_mod (u * 4294967296 + d) v
  rw [← hg, Nat.mul_comm] at this
  omega

/-- Two steps are the division of three digits. -/
theorem two_steps (u v d e : Nat) : ((u * 4294967296 + d) % v * 4294967296 + e) % v = (u * 18446744073709551616 + (d * 4294967296 + e)) % v := by
  rw [Nat.add_mod, Nat.mod_mul_mod, ← Nat.add_mod]
  have e1 : (u * 4294967296 + d) * 4294967296 + e = u * 18446744073709551616 + (d * 4294967296 + e) := by
    rw [Nat.add_mul, Nat.mul_assoc, Nat.add_assoc]
  rw [e1]

theorem scaled {h l y p : Nat} : ((h * 18446744073709551616 + l) * p) % (y * p) = ((h * 18446744073709551616 + l) % y) * p := Nat.mul_mod_mul_right _ _ _


theorem shift_or {h s c : Nat} (hc : c < 2 ^ s) : (h * 2 ^ s) ||| c = h * 2 ^ s + c := by
  rw [Nat.mul_comm, Nat.two_pow_add_eq_or_of_lt hc]

/-- A division's set-up: the divisor moved up till its highest bit stands, the number likewise, in digits of 32 bits. -/
structure Dv (hi lo y s t Y v1 v0 A c u D d1 d0 : Nat) : Prop where
  st : s + t = 64
  t0 : 0 < t
  eY : Y = y * 2 ^ s
  lY : Y < 18446744073709551616
  gY : 9223372036854775808 ≤ Y
  e1 : v1 = Y / 4294967296
  e0 : v0 = Y % 4294967296
  eA : A = hi * 2 ^ s
  lA : A < 18446744073709551616
  ec : c = lo / 2 ^ t
  lc : c < 2 ^ s
  eu : u = A + c
  lu : u < Y
  eD : D = lo * 2 ^ s % 18446744073709551616
  f1 : d1 = D / 4294967296
  f0 : d0 = D % 4294967296
  all : u * 18446744073709551616 + D = (hi * 18446744073709551616 + lo) * 2 ^ s

theorem Dv.mk' {hi lo y s t : Nat} (hst : s + t = 64) (ht : 0 < t) (hhi : hi < y) (hlo : lo < 18446744073709551616) (ha : 2 ^ t ≤ 2 * y) (hb : y < 2 ^ t) :
    ∃ Y v1 v0 A c u D d1 d0, Dv hi lo y s t Y v1 v0 A c u D d1 d0 := by
  have ep : 2 ^ s * 2 ^ t = 18446744073709551616 := by rw [← Nat.pow_add, hst]
  have hp : 0 < 2 ^ s := Nat.two_pow_pos _
  have ht0 : 0 < 2 ^ t := Nat.two_pow_pos _
  have lY : y * 2 ^ s < 18446744073709551616 := by
    rw [← ep, Nat.mul_comm (2 ^ s)]
    exact Nat.mul_lt_mul_of_pos_right hb hp
  have gY : 9223372036854775808 ≤ y * 2 ^ s := by
    have := Nat.mul_le_mul_right (2 ^ s) ha
    rw [Nat.mul_comm (2 ^ t), ep, Nat.mul_assoc] at this
    omega
  have lc : lo / 2 ^ t < 2 ^ s := by
    rw [Nat.div_lt_iff_lt_mul ht0, ep]
    exact hlo
  have lAY : hi * 2 ^ s + 2 ^ s ≤ y * 2 ^ s := by
    have := Nat.mul_le_mul_right (2 ^ s) (show hi + 1 ≤ y from hhi)
    rwa [Nat.add_mul, Nat.one_mul] at this
  refine ⟨y * 2 ^ s, _, _, hi * 2 ^ s, lo / 2 ^ t, hi * 2 ^ s + lo / 2 ^ t, lo * 2 ^ s % 18446744073709551616, _, _, hst, ht, rfl, lY, gY, rfl, rfl, rfl, ?_, rfl, lc, rfl, ?_, rfl, rfl, rfl, ?_⟩
  · omega
  · omega
  · have e1 : lo * 2 ^ s / 18446744073709551616 = lo / 2 ^ t := by
      rw [← ep, Nat.mul_comm (2 ^ s) (2 ^ t), Nat.mul_div_mul_right _ _ hp]
    have e2 := Nat.div_add_mod (lo * 2 ^ s) 18446744073709551616
    rw [e1] at e2
    rw [Nat.add_mul, Nat.add_mul, Nat.add_assoc, Nat.mul_comm (lo / 2 ^ t), e2]
    congr 1
    rw [Nat.mul_assoc, Nat.mul_assoc, Nat.mul_comm (2 ^ s)]

theorem Dv.rest {hi lo y s t Y v1 v0 A c u D d1 d0 : Nat} (h : Dv hi lo y s t Y v1 v0 A c u D d1 d0) : ((u * 4294967296 + d1) % Y * 4294967296 + d0) % Y / 2 ^ s = (hi * 18446744073709551616 + lo) % y := by
  have eD : d1 * 4294967296 + d0 = D := by
    rw [h.f1, h.f0, Nat.mul_comm]
    exact Nat.div_add_mod D 4294967296
  rw [two_steps, eD, h.all, h.eY, scaled, Nat.mul_div_cancel _ (Nat.two_pow_pos _)]

end Go.Proofs.YtheponigjofknaaDoor.sg
