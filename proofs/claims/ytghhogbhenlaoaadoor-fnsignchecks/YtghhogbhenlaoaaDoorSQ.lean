import Derived.Test.YtghhogbhenlaoaaDoorSK
namespace Go.Proofs.YtghhogbhenlaoaaDoor.sg
set_option linter.unusedVariables false

/-! ### Primes, and what a power leaves -/

def Cop (p : Nat) : Prop := 2 ≤ p ∧ ∀ i, 0 < i → i < p → Nat.Coprime p i

theorem prB_cop {p : Nat} (h : prB p = true) : Cop p := by
  obtain ⟨h3, _, h2, hd⟩ := prB_is h
  refine ⟨by omega, fun i h0 hi => ?_⟩
  rcases Nat.lt_or_ge 1 (Nat.gcd p i) with hg | hg
  · exfalso
    obtain ⟨g, hgg⟩ : ∃ g, g = Nat.gcd p i := ⟨_, rfl⟩
    rw [← hgg] at hg
    have dp : g ∣ p := by rw [hgg]; exact Nat.gcd_dvd_left p i
    have di : g ∣ i := by rw [hgg]; exact Nat.gcd_dvd_right p i
    have gi : g ≤ i := Nat.le_of_dvd h0 di
    obtain ⟨k, hk⟩ := dp
    have hk1 : 1 < k := by
      rcases Nat.lt_or_ge 1 k with a | a
      · exact a
      · have : k = 0 ∨ k = 1 := by omega
        rcases this with rfl | rfl
        · omega
        · omega
    have odd : ∀ a b, p = a * b → a % 2 = 1 := fun a b e => by
      rcases Nat.mod_two_eq_zero_or_one a with x | x
      · exfalso
        have : p % 2 = 0 := by rw [e, Nat.mul_mod, x]; simp
        omega
      · exact x
    have og := odd g k hk
    have ok := odd k g (by rw [hk, Nat.mul_comm])
    rcases Nat.le_total g k with le | le
    · refine hd g (by omega) og (by rw [hk]; exact Nat.mul_le_mul_left g le) ?_
      rw [hk]; exact Nat.mul_mod_right g k
    · refine hd k (by omega) ok (by rw [hk]; exact Nat.mul_le_mul_right k le) ?_
      rw [hk]; exact Nat.mul_mod_left g k
  · have : 0 < Nat.gcd p i := Nat.gcd_pos_of_pos_right p h0
    show Nat.gcd p i = 1
    omega

theorem Cop.not_dvd {p : Nat} (h : Cop p) {a : Nat} (ha : ¬ p ∣ a) : Nat.Coprime p a := by
  have h0 : 0 < a % p := by
    rcases Nat.eq_zero_or_pos (a % p) with x | x
    · exact absurd (Nat.dvd_of_mod_eq_zero x) ha
    · exact x
  have := h.2 (a % p) h0 (Nat.mod_lt _ (by have := h.1; omega))
  show Nat.gcd p a = 1
  rw [Nat.gcd_rec, Nat.gcd_comm]
  exact this

theorem dvd_of_mod {p b c : Nat} (h : b % p = c % p) : p ∣ b - c := Nat.dvd_of_mod_eq_zero (Nat.sub_mod_eq_zero_of_mod_eq h)

theorem mod_of_dvd {p b c : Nat} (hc : c ≤ b) (h : p ∣ b - c) : b % p = c % p := by
  obtain ⟨k, hk⟩ := h
  rw [show b = c + p * k by omega, Nat.add_mul_mod_self_left]

def prodL : List Nat → Nat
  | [] => 1
  | a :: l => a * prodL l

theorem prod_perm {l m : List Nat} (h : l.Perm m) : prodL l = prodL m := by
  induction h with
  | nil => rfl
  | cons x _ ih => simp [prodL, ih]
  | swap x y l => simp only [prodL]; rw [← Nat.mul_assoc, ← Nat.mul_assoc, Nat.mul_comm x y]
  | trans _ _ h1 h2 => exact h1.trans h2

theorem perm_of_sub : ∀ (l m : List Nat), l.Nodup → (∀ x ∈ l, x ∈ m) → m.length ≤ l.length → l.Perm m
  | [], m, _, _, hl => by
    have : m = [] := List.length_eq_zero_iff.1 (by simpa using hl)
    rw [this]
  | a :: l, m, hn, hs, hl => by
    have ha : a ∈ m := hs a List.mem_cons_self
    have hp := List.perm_cons_erase ha
    have ⟨hna, hnl⟩ := List.nodup_cons.1 hn
    have := perm_of_sub l (m.erase a) hnl (fun x hx => (List.mem_erase_of_ne (fun e => hna (by rw [← e]; exact hx))).2 (hs x (List.mem_cons_of_mem _ hx))) (by
      rw [List.length_erase_of_mem ha]
      simp at hl
      omega)
    exact (List.Perm.cons a this).trans hp.symm

/-- The numbers from n down to 1. -/
def down : Nat → List Nat
  | 0 => []
  | n + 1 => (n + 1) :: down n

theorem mem_down : ∀ {n x : Nat}, x ∈ down n ↔ 0 < x ∧ x ≤ n
  | 0, x => by simp [down]; omega
  | n + 1, x => by
    simp only [down, List.mem_cons, mem_down (n := n)]
    omega

theorem len_down : ∀ n, (down n).length = n
  | 0 => rfl
  | n + 1 => by simp [down, len_down n]

theorem prod_map (a p : Nat) : ∀ n, prodL ((down n).map fun i => a * i % p) % p = a ^ n * prodL (down n) % p
  | 0 => by simp [down, prodL]
  | n + 1 => by
    simp only [down, List.map_cons, prodL]
    rw [Nat.mul_mod, Nat.mod_mod, prod_map a p n, ← Nat.mul_mod, Nat.pow_succ]
    congr 1
    rw [Nat.mul_assoc, Nat.mul_assoc]
    rw [Nat.mul_left_comm (n + 1), ← Nat.mul_assoc a, Nat.mul_comm a, Nat.mul_assoc]

theorem nodup_map {p a : Nat} (hp : Cop p) (ha : ¬ p ∣ a) : ∀ n, n < p → ((down n).map fun i => a * i % p).Nodup
  | 0, _ => by simp [down]
  | n + 1, h => by
    simp only [down, List.map_cons, List.nodup_cons]
    refine ⟨fun hm => ?_, nodup_map hp ha n (by omega)⟩
    obtain ⟨i, hi, e⟩ := List.mem_map.1 hm
    obtain ⟨i0, i1⟩ := mem_down.1 hi
    have hd : p ∣ a * (n + 1) - a * i := dvd_of_mod e.symm
    rw [← Nat.mul_sub] at hd
    have := (hp.not_dvd ha).dvd_of_dvd_mul_left hd
    have := Nat.le_of_dvd (by omega) this
    omega

theorem cop_prod {p : Nat} (hp : Cop p) : ∀ n, n < p → Nat.Coprime p (prodL (down n))
  | 0, _ => by simp [down, prodL]
  | n + 1, h => by
    simp only [down, prodL]
    exact Nat.Coprime.mul_right (hp.2 _ (by omega) h) (cop_prod hp n (by omega))

/-- Fermat: what is no multiple of a prime, to the power of one less, leaves 1. -/
theorem fermat {p a : Nat} (hp : Cop p) (ha : ¬ p ∣ a) : a ^ (p - 1) % p = 1 % p := by
  have hp2 := hp.1
  have hperm : ((down (p - 1)).map fun i => a * i % p).Perm (down (p - 1)) := by
    apply perm_of_sub _ _ (nodup_map hp ha (p - 1) (by omega))
    · intro x hx
      obtain ⟨i, hi, rfl⟩ := List.mem_map.1 hx
      obtain ⟨i0, i1⟩ := mem_down.1 hi
      have hlt := Nat.mod_lt (a * i) (show 0 < p by omega)
      refine mem_down.2 ⟨?_, by omega⟩
      rcases Nat.eq_zero_or_pos (a * i % p) with z | z
      · exfalso
        have := (hp.not_dvd ha).dvd_of_dvd_mul_left (Nat.dvd_of_mod_eq_zero z)
        have := Nat.le_of_dvd i0 this
        omega
      · exact z
    · simp
  have e := prod_map a p (p - 1)
  rw [prod_perm hperm] at e
  have e2 : 1 * prodL (down (p - 1)) % p = a ^ (p - 1) * prodL (down (p - 1)) % p := by rw [Nat.one_mul]; exact e
  have hc := cop_prod hp (p - 1) (by omega)
  have h1 : 1 ≤ a ^ (p - 1) := Nat.pos_of_ne_zero (fun z => by
    have : a = 0 := by
      rcases Nat.eq_zero_or_pos a with y | y
      · exact y
      · exact absurd z (Nat.ne_of_gt (Nat.pow_pos y))
    exact ha (by rw [this]; exact Nat.dvd_zero p))
  have hd : p ∣ a ^ (p - 1) * prodL (down (p - 1)) - 1 * prodL (down (p - 1)) := dvd_of_mod e2.symm
  rw [← Nat.sub_mul] at hd
  have := hc.dvd_of_dvd_mul_right hd
  exact mod_of_dvd h1 this

/-- To a power that is 1 and a multiple of p - 1 every number is itself again. -/
theorem pow_back {p m k : Nat} (hp : Cop p) : m ^ (1 + (p - 1) * k) % p = m % p := by
  by_cases hd : p ∣ m
  · obtain ⟨c, rfl⟩ := hd
    rw [Nat.pow_add, Nat.pow_one, Nat.mul_assoc, Nat.mul_mod_right, Nat.mul_mod_right]
  · rw [Nat.pow_add, Nat.pow_one, Nat.pow_mul, Nat.mul_mod, Nat.pow_mod, fermat hp hd, ← Nat.pow_mod, Nat.one_pow, ← Nat.mul_mod, Nat.mul_one]

theorem two_back {p q m k : Nat} (hp : Cop p) (hq : Cop q) (hne : p ≠ q) : m ^ (1 + ph p q * k) % (p * q) = m % (p * q) := by
  have e1 : m ^ (1 + ph p q * k) % p = m % p := by
    unfold ph
    rw [Nat.mul_assoc]
    exact pow_back hp
  have e2 : m ^ (1 + ph p q * k) % q = m % q := by
    unfold ph
    rw [Nat.mul_comm (p - 1), Nat.mul_assoc]
    exact pow_back hq
  have hle : m ≤ m ^ (1 + ph p q * k) := by
    rcases Nat.eq_zero_or_pos m with h | h
    · rw [h]; exact Nat.zero_le _
    · rw [Nat.pow_add, Nat.pow_one]
      exact Nat.le_mul_of_pos_right m (Nat.pow_pos h)
  have hc : Nat.Coprime p q := by
    rcases Nat.lt_or_gt_of_ne hne with h | h
    · exact (hq.2 p (by have := hp.1; omega) h).symm
    · exact hp.2 q (by have := hq.1; omega) h
  exact mod_of_dvd hle (hc.mul_dvd_of_dvd_of_dvd (dvd_of_mod e1) (dvd_of_mod e2))

/-- A key that was made: its exponents undo each other. -/
theorem key_back {p q e : Nat} (h : kB p q e = true) (m : Nat) : m ^ (kE p q e * kD p q e) % (p * q) = m % (p * q) := by
  have hB := kB_iff.1 h
  obtain ⟨hp, hq, hne, hN, h3, hlt, hI⟩ := hB
  obtain ⟨_, _, _, _, g4⟩ := two_primes hp hq
  obtain ⟨_, _, hE, hD⟩ := kB_yes ⟨hp, hq, hne, hN, h3, hlt, hI⟩
  obtain ⟨d1, d2, k, hk⟩ := ivD_spec hlt (by omega) hI
  obtain ⟨D, hDD⟩ : ∃ D : Nat, ivD e (ph p q) = (D : Int) := ⟨(ivD e (ph p q)).toNat, by omega⟩
  rw [hE, hD, hDD, Int.toNat_natCast]
  rw [hDD] at hk d1
  have hk0 : 0 ≤ k := by
    rcases Int.lt_or_le k 0 with x | x
    · exfalso
      have y1 : (1 : Int) ≤ (e : Int) * (D : Int) := by
        have := Int.mul_le_mul (show (1 : Int) ≤ (e : Int) by omega) d1 (by omega) (by omega)
        omega
      have y2 : ((ph p q : Nat) : Int) * k ≤ ((ph p q : Nat) : Int) * (-1) := Int.mul_le_mul_of_nonneg_left (by omega) (by omega)
      omega
    · exact x
  obtain ⟨K, rfl⟩ : ∃ K : Nat, k = (K : Int) := ⟨k.toNat, by omega⟩
  have e1 : e * D = 1 + ph p q * K := by
    have : ((e * D : Nat) : Int) = ((1 + ph p q * K : Nat) : Int) := by
      rw [Int.natCast_mul, Int.natCast_add, Int.natCast_mul]
      omega
    exact Int.ofNat.inj this
  rw [e1]
  exact two_back (prB_cop hp) (prB_cop hq) hne

theorem kE_ge {p q e : Nat} (h : kB p q e = true) : kN p q e = p * q ∧ 65536 < p * q ∧ p * q < 4611686018427387904 ∧ kE p q e < 4611686018427387904 ∧ kD p q e < 18446744073709551616 := by
  obtain ⟨hp, hq, hne, hN, h3, hlt, hI⟩ := kB_iff.1 h
  obtain ⟨_, _, l1, l2, g4⟩ := two_primes hp hq
  obtain ⟨_, hNN, hE, hD⟩ := kB_yes ⟨hp, hq, hne, hN, h3, hlt, hI⟩
  obtain ⟨d1, d2, _⟩ := ivD_spec hlt (by omega) hI
  rw [hNN, hE, hD]
  exact ⟨rfl, hN, l1, by omega, by omega⟩

/-- What is signed checks. -/
theorem sign_checks {p q e : Nat} (h : kB p q e = true) (S : Nat) : pm (pm (S % (p * q)) (kD p q e) (p * q)) (kE p q e) (p * q) = S % (p * q) := by
  obtain ⟨_, h1, _⟩ := kE_ge h
  rw [pm_big (by omega), pm_big (by omega), ← Nat.pow_mod, ← Nat.pow_mul, Nat.mul_comm (kD p q e), key_back h, Nat.mod_mod]

/-- No other number below N checks. -/
theorem other_not {p q e : Nat} (h : kB p q e = true) {s t : Nat} (hs : s < p * q) (ht : t < p * q) (he : pm s (kE p q e) (p * q) = pm t (kE p q e) (p * q)) : s = t := by
  obtain ⟨_, h1, _⟩ := kE_ge h
  rw [pm_big (by omega), pm_big (by omega)] at he
  have e1 : (s ^ kE p q e) ^ kD p q e % (p * q) = (t ^ kE p q e) ^ kD p q e % (p * q) := by
    rw [Nat.pow_mod, he, ← Nat.pow_mod]
  rw [← Nat.pow_mul, ← Nat.pow_mul, key_back h, key_back h, Nat.mod_eq_of_lt hs, Nat.mod_eq_of_lt ht] at e1
  exact e1

/-- The key that the law makes beside. -/
theorem small_key : kB 257 65537 3 = true ∧ kN 257 65537 3 = 16843009 := by
  have p1 : prB 257 = true := prB_true (by decide) (by decide) (by decide) (fun d a b c => by
    have hd : d < 17 := by
      rcases Nat.lt_or_ge d 17 with x | x
      · exact x
      · have := Nat.mul_le_mul x x
        omega
    have : ∀ d, d < 17 → 3 ≤ d → d % 2 = 1 → 257 % d ≠ 0 := by decide
    exact this d hd a b)
  have p2 : prB 65537 = true := prB_true (by decide) (by decide) (by decide) (fun d a b c => by
    have hd : d < 257 := by
      rcases Nat.lt_or_ge d 257 with x | x
      · exact x
      · have := Nat.mul_le_mul x x
        omega
    have : ∀ d, d < 257 → 3 ≤ d → d % 2 = 1 → 65537 % d ≠ 0 := by decide +kernel
    exact this d hd a b)
  have hB : kB 257 65537 3 = true := kB_iff.2 ⟨p1, p2, by decide, by decide, by decide, by decide, by decide +kernel⟩
  refine ⟨hB, ?_⟩
  rw [(kE_ge hB).1]

end Go.Proofs.YtghhogbhenlaoaaDoor.sg
