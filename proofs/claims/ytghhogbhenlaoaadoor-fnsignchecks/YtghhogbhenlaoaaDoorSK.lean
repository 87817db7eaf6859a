import Derived.Test.YtghhogbhenlaoaaDoorSJ
import Derived.Sort.AtCall
namespace Go.Proofs.YtghhogbhenlaoaaDoor.sg
open Go.ChangeShapes Go.WideShapes Go.ChangeAt Go.RowKit Go.Deep
set_option linter.unusedVariables false

def ph (p q : Nat) : Nat := (p - 1) * (q - 1)
def kB (p q e : Nat) : Bool := prB p && (prB q && (decide (p ≠ q) && (decide (65536 < p * q) && (decide (3 ≤ e) && (decide (e < ph p q) && ivB e (ph p q))))))
def kN (p q e : Nat) : Nat := if kB p q e then p * q else 0
def kE (p q e : Nat) : Nat := if kB p q e then e else 0
def kD (p q e : Nat) : Nat := if kB p q e then (ivD e (ph p q)).toNat else 0

theorem kB_iff {p q e : Nat} : kB p q e = true ↔ prB p = true ∧ prB q = true ∧ p ≠ q ∧ 65536 < p * q ∧ 3 ≤ e ∧ e < ph p q ∧ ivB e (ph p q) = true := by
  simp [kB]

theorem kB_no {p q e : Nat} (h : ¬ (prB p = true ∧ prB q = true ∧ p ≠ q ∧ 65536 < p * q ∧ 3 ≤ e ∧ e < ph p q ∧ ivB e (ph p q) = true)) : kB p q e = false ∧ kN p q e = 0 ∧ kE p q e = 0 ∧ kD p q e = 0 := by
  have : kB p q e = false := by
    rw [Bool.eq_false_iff]
    exact fun x => h (kB_iff.1 x)
  simp [kN, kE, kD, this]

theorem kB_yes {p q e : Nat} (h : prB p = true ∧ prB q = true ∧ p ≠ q ∧ 65536 < p * q ∧ 3 ≤ e ∧ e < ph p q ∧ ivB e (ph p q) = true) : kB p q e = true ∧ kN p q e = p * q ∧ kE p q e = e ∧ kD p q e = (ivD e (ph p q)).toNat := by
  have : kB p q e = true := kB_iff.2 h
  simp [kN, kE, kD, this]

/-- Two primes: their product and the product of what is one less. -/
theorem two_primes {p q : Nat} (hp : prB p = true) (hq : prB q = true) : 3 ≤ p ∧ 3 ≤ q ∧ p * q < 4611686018427387904 ∧ ph p q < 4611686018427387904 ∧ 4 ≤ ph p q := by
  obtain ⟨a, b, _, _⟩ := prB_is hp
  obtain ⟨c, d, _, _⟩ := prB_is hq
  have e1 : p * q ≤ 2147483647 * 2147483647 := Nat.mul_le_mul b d
  have e2 : (p - 1) * (q - 1) ≤ 2147483646 * 2147483646 := Nat.mul_le_mul (by omega) (by omega)
  have e3 : 2 * 2 ≤ (p - 1) * (q - 1) := Nat.mul_le_mul (by omega) (by omega)
  unfold ph
  exact ⟨a, c, by omega, by omega, by omega⟩

theorem ret_two3 {fn : Func} {i j : Tmp} (hf : fn.results = #[.cell i 28, .tmp j]) {tmps : Array Value} {W : World} {b : Nat} {v0 v1 v2 r : Value} {R : Ending → World → Prop} (h4 : tmps.getD i undef = .pointer (some ⟨b, 0, none⟩)) (h5 : tmps.getD j undef = r)
    (k : W.cell? ⟨b, 0, none⟩ = some v0 ∧ W.cell? ⟨b, 1, none⟩ = some v1 ∧ W.cell? ⟨b, 2, none⟩ = some v2) (hR : R (.returned (.tuple #[.agg #[v0, v1, v2], r])) W) :
    bodyPost Tryd.prog fn R Exit.ret { tmps := tmps, defers := [] } W := by
  obtain ⟨k0, k1, k2⟩ := k
  have h4' : tmps[i]?.getD undef = .pointer (some ⟨b, 0, none⟩) := by simpa using h4
  have h5' : tmps[j]?.getD undef = r := by simpa using h5
  exact bodyPost_ret (v := .tuple #[.agg #[v0, v1, v2], r]) (by simp [results, hf, go_sem, h4', h5', k0, k1, k2]) rfl hR

theorem new3 (w : World) (a b c : Value) (t : TypeId) : (w.alloc (.cells #[a, b, c] t)).cell? ⟨w.heap.size, 0, none⟩ = some a ∧ (w.alloc (.cells #[a, b, c] t)).cell? ⟨w.heap.size, 1, none⟩ = some b ∧ (w.alloc (.cells #[a, b, c] t)).cell? ⟨w.heap.size, 2, none⟩ = some c := by
  refine ⟨?_, ?_, ?_⟩ <;> simp

theorem key_eq {a b c a' b' c' : Nat} {r r' : Bool} (h1 : a' = a) (h2 : b' = b) (h3 : c' = c) (h4 : r' = r) : Ending.returned (.tuple #[.agg #[.int .u64 (a : Int), .int .u64 (b : Int), .int .u64 (c : Int)], .bool r]) = Ending.returned (.tuple #[.agg #[.int .u64 (a' : Int), .int .u64 (b' : Int), .int .u64 (c' : Int)], .bool r']) := by
  rw [h1, h2, h3, h4]

theorem smake_any (p q e : Nat) (hp : p < 18446744073709551616) (hq : q < 18446744073709551616) (he : e < 18446744073709551616) (w : World) :
    Calls Tryd.prog 7 #[.int .u64 (p : Int), .int .u64 (q : Int), .int .u64 (e : Int)] w fun en w' => en = .returned (.tuple #[.agg #[.int .u64 ((kN p q e : Nat) : Int), .int .u64 ((kE p q e : Nat) : Int), .int .u64 ((kD p q e : Nat) : Int)], .bool (kB p q e)]) ∧ Below w.heap.size w w' := by
  go_enter Tryd.func7, Tryd.ntmps7
  have cp := fun w => sprime_any p hp w
  have cq := fun w => sprime_any q hq w
  clear hp hq
  by_cases hpq : p = q
  · have K := kB_no (p := p) (q := q) (e := e) (fun x => x.2.2.1 hpq)
    subst hpq
    cases hA : prB p <;> rw [hA] at cp
    go_wp2_with (first
      | (go_at_call_of 19 (Value.int IntKind.u64 (p : Int)); refine (cp _).mono ?_; rintro en w1 ⟨rfl, rfl⟩)
      | (go_at_call 19; refine (cq _).mono ?_; rintro en w1 ⟨rfl, rfl⟩)
      | (go_at_call 20; refine (cv _).mono ?_; rintro en w1 ⟨rfl, rfl⟩)
      | go_in)
    exact ret_two3 Tryd.results7 rfl rfl (new3 w _ _ _ _) ⟨key_eq (a := 0) (b := 0) (c := 0) K.2.1 K.2.2.1 K.2.2.2 K.1, (Below.refl _ _).alloc (Nat.le_refl _) _⟩
    go_wp2_with (first
      | (go_at_call_of 19 (Value.int IntKind.u64 (p : Int)); refine (cp _).mono ?_; rintro en w1 ⟨rfl, rfl⟩)
      | (go_at_call 19; refine (cq _).mono ?_; rintro en w1 ⟨rfl, rfl⟩)
      | (go_at_call 20; refine (cv _).mono ?_; rintro en w1 ⟨rfl, rfl⟩)
      | go_in)
    exact ret_two3 Tryd.results7 rfl rfl (new3 w _ _ _ _) ⟨key_eq (a := 0) (b := 0) (c := 0) K.2.1 K.2.2.1 K.2.2.2 K.1, (Below.refl _ _).alloc (Nat.le_refl _) _⟩
  have hne : ((p : Int) == (q : Int)) = false := by simp; omega
  have hne' : ¬ (p : Int) = (q : Int) := by omega
  by_cases hA : prB p = true
  case neg =>
    have K := kB_no (p := p) (q := q) (e := e) (fun x => hA x.1)
    rw [Bool.eq_false_iff.2 hA] at cp
    go_wp2_with (first
      | (go_at_call_of 19 (Value.int IntKind.u64 (p : Int)); refine (cp _).mono ?_; rintro en w1 ⟨rfl, rfl⟩)
      | (go_at_call 19; refine (cq _).mono ?_; rintro en w1 ⟨rfl, rfl⟩)
      | (go_at_call 20; refine (cv _).mono ?_; rintro en w1 ⟨rfl, rfl⟩)
      | go_in)
    exact ret_two3 Tryd.results7 rfl rfl (new3 w _ _ _ _) ⟨key_eq (a := 0) (b := 0) (c := 0) K.2.1 K.2.2.1 K.2.2.2 K.1, (Below.refl _ _).alloc (Nat.le_refl _) _⟩
  by_cases hB : prB q = true
  case neg =>
    have K := kB_no (p := p) (q := q) (e := e) (fun x => hB x.2.1)
    rw [hA] at cp
    rw [Bool.eq_false_iff.2 hB] at cq
    go_wp2_with (first
      | (go_at_call_of 19 (Value.int IntKind.u64 (p : Int)); refine (cp _).mono ?_; rintro en w1 ⟨rfl, rfl⟩)
      | (go_at_call 19; refine (cq _).mono ?_; rintro en w1 ⟨rfl, rfl⟩)
      | (go_at_call 20; refine (cv _).mono ?_; rintro en w1 ⟨rfl, rfl⟩)
      | go_in)
    exact ret_two3 Tryd.results7 rfl rfl (new3 w _ _ _ _) ⟨key_eq (a := 0) (b := 0) (c := 0) K.2.1 K.2.2.1 K.2.2.2 K.1, (Below.refl _ _).alloc (Nat.le_refl _) _⟩
  rw [hA] at cp
  rw [hB] at cq
  obtain ⟨p3, q3, lN, lM, gM⟩ := two_primes hA hB
  obtain ⟨N, hN⟩ : ∃ N, N = p * q := ⟨_, rfl⟩
  have c1 : IntKind.u64.wrap ((p : Int) * (q : Int)) = (N : Int) := by rw [← Int.natCast_mul, ← hN, IntKind.wrap_u64]; omega
  by_cases hC : 65536 < N
  case neg =>
    have K := kB_no (p := p) (q := q) (e := e) (fun x => hC (by rw [hN]; exact x.2.2.2.1))
    have hC1 : (N : Int) ≤ 65536 := by omega
    generalize hNN : (N : Int) = NN at *
    clear p3 q3 lN lM gM hN hC
    go_wp2_with (first
      | (go_at_call_of 19 (Value.int IntKind.u64 (p : Int)); refine (cp _).mono ?_; rintro en w1 ⟨rfl, rfl⟩)
      | (go_at_call 19; refine (cq _).mono ?_; rintro en w1 ⟨rfl, rfl⟩)
      | (go_at_call 20; refine (cv _).mono ?_; rintro en w1 ⟨rfl, rfl⟩)
      | go_in)
    exact ret_two3 Tryd.results7 rfl rfl (new3 w _ _ _ _) ⟨key_eq (a := 0) (b := 0) (c := 0) K.2.1 K.2.2.1 K.2.2.2 K.1, (Below.refl _ _).alloc (Nat.le_refl _) _⟩
  have hC1 : ¬ (N : Int) ≤ 65536 := by omega
  obtain ⟨p1, hp1⟩ : ∃ p1, p1 = p - 1 := ⟨_, rfl⟩
  obtain ⟨q1, hq1⟩ : ∃ q1, q1 = q - 1 := ⟨_, rfl⟩
  obtain ⟨M, hM⟩ : ∃ M, M = ph p q := ⟨_, rfl⟩
  have lp : p ≤ 2147483647 := (prB_is hA).2.1
  have lq : q ≤ 2147483647 := (prB_is hB).2.1
  have c2 : IntKind.u64.wrap ((p : Int) - 1) = (p1 : Int) := by rw [IntKind.wrap_u64]; omega
  have c3 : IntKind.u64.wrap ((q : Int) - 1) = (q1 : Int) := by rw [IntKind.wrap_u64]; omega
  have c4 : IntKind.u64.wrap ((p1 : Int) * (q1 : Int)) = (M : Int) := by
    rw [← Int.natCast_mul, hp1, hq1, show (p - 1) * (q - 1) = M by rw [hM]; rfl, IntKind.wrap_u64]
    omega
  rw [← hM] at lM gM
  by_cases hD : e < 3
  · have K := kB_no (p := p) (q := q) (e := e) (fun x => by have := x.2.2.2.2.1; omega)
    have hD1 : (e : Int) < 3 := by omega
    generalize hNN : (N : Int) = NN at *
    clear p3 q3 lN lM gM hN hC hp1 hq1 hM lp lq he
    go_wp2_with (first
      | (go_at_call_of 19 (Value.int IntKind.u64 (p : Int)); refine (cp _).mono ?_; rintro en w1 ⟨rfl, rfl⟩)
      | (go_at_call 19; refine (cq _).mono ?_; rintro en w1 ⟨rfl, rfl⟩)
      | (go_at_call 20; refine (cv _).mono ?_; rintro en w1 ⟨rfl, rfl⟩)
      | go_in)
    exact ret_two3 Tryd.results7 rfl rfl (new3 w _ _ _ _) ⟨key_eq (a := 0) (b := 0) (c := 0) K.2.1 K.2.2.1 K.2.2.2 K.1, (Below.refl _ _).alloc (Nat.le_refl _) _⟩
  have hD1 : ¬ (e : Int) < 3 := by omega
  by_cases hE : e < M
  case neg =>
    have K := kB_no (p := p) (q := q) (e := e) (fun x => hE (by rw [hM]; exact x.2.2.2.2.2.1))
    have hE1 : ¬ (e : Int) < (M : Int) := by omega
    generalize hNN : (N : Int) = NN at *
    clear p3 q3 lN lM gM hN hC hp1 hq1 hM lp lq he
    go_wp2_with (first
      | (go_at_call_of 19 (Value.int IntKind.u64 (p : Int)); refine (cp _).mono ?_; rintro en w1 ⟨rfl, rfl⟩)
      | (go_at_call 19; refine (cq _).mono ?_; rintro en w1 ⟨rfl, rfl⟩)
      | (go_at_call 20; refine (cv _).mono ?_; rintro en w1 ⟨rfl, rfl⟩)
      | go_in)
    exact ret_two3 Tryd.results7 rfl rfl (new3 w _ _ _ _) ⟨key_eq (a := 0) (b := 0) (c := 0) K.2.1 K.2.2.1 K.2.2.2 K.1, (Below.refl _ _).alloc (Nat.le_refl _) _⟩
  have hE1 : (e : Int) < (M : Int) := by omega
  have hSm : Sm M := lM
  have cv := fun w => sinv_any e M hE hSm w

  cases hI : ivB e M
  · have K := kB_no (p := p) (q := q) (e := e) (fun x => by have := x.2.2.2.2.2.2; rw [← hM, hI] at this; cases this)
    have hv : ivN e M = 0 := by unfold ivN; rw [hI]; rfl
    rw [hv] at cv
    generalize hNN : (N : Int) = NN at *
    clear p3 q3 lN lM gM hN hC hp1 hq1 hM lp lq he hSm
    go_wp2_with (first
      | (go_at_call_of 19 (Value.int IntKind.u64 (p : Int)); refine (cp _).mono ?_; rintro en w1 ⟨rfl, rfl⟩)
      | (go_at_call 19; refine (cq _).mono ?_; rintro en w1 ⟨rfl, rfl⟩)
      | (go_at_call 20; refine (cv _).mono ?_; rintro en w1 ⟨rfl, rfl⟩)
      | go_in)
    exact ret_two3 Tryd.results7 rfl rfl (new3 w _ _ _ _) ⟨key_eq (a := 0) (b := 0) (c := 0) K.2.1 K.2.2.1 K.2.2.2 K.1, (Below.refl _ _).alloc (Nat.le_refl _) _⟩
  · have K := kB_yes (p := p) (q := q) (e := e) ⟨hA, hB, hpq, by rw [← hN]; exact hC, by omega, by rw [← hM]; exact hE, by rw [← hM]; exact hI⟩
    rw [← hN, ← hM] at K
    have hS := ivD_spec hE (by omega) hI
    obtain ⟨D, hDD⟩ : ∃ D : Nat, ivD e M = (D : Int) := ⟨(ivD e M).toNat, by omega⟩
    have hD0 : ¬ D = 0 := by omega
    have lD : D ≤ M := by omega
    have cw : IntKind.u64.wrap (D : Int) = (D : Int) := by rw [IntKind.wrap_u64]; omega
    rw [hDD, Int.toNat_natCast] at K
    have hD0' : ((D : Int) == 0) = false := by simp; omega
    have hv : ivN e M = D := by unfold ivN; rw [hI, hDD]; simp
    rw [hv] at cv
    generalize hNN : (N : Int) = NN at *
    clear p3 q3 lN lM gM hN hC hp1 hq1 hM lp lq hSm hS lD
    go_wp2_with (first
      | (go_at_call_of 19 (Value.int IntKind.u64 (p : Int)); refine (cp _).mono ?_; rintro en w1 ⟨rfl, rfl⟩)
      | (go_at_call 19; refine (cq _).mono ?_; rintro en w1 ⟨rfl, rfl⟩)
      | (go_at_call 20; refine (cv _).mono ?_; rintro en w1 ⟨rfl, rfl⟩)
      | go_in)
    subst hNN
    exact ret_two3 Tryd.results7 rfl rfl (new3 w _ _ _ _) ⟨key_eq K.2.1 K.2.2.1 K.2.2.2 K.1, (Below.refl _ _).alloc (Nat.le_refl _) _⟩

theorem imake_any (p q e : Nat) (hp : p < 18446744073709551616) (hq : q < 18446744073709551616) (he : e < 18446744073709551616) (w : World) :
    Calls Tryd.prog 6 #[.int .u64 (p : Int), .int .u64 (q : Int), .int .u64 (e : Int)] w fun en w' => en = .returned (.tuple #[.agg #[.int .u64 ((kN p q e : Nat) : Int), .int .u64 ((kE p q e : Nat) : Int), .int .u64 ((kD p q e : Nat) : Int)], .bool (kB p q e)]) ∧ Below w.heap.size w w' := by
  go_enter Tryd.func6, Tryd.ntmps6
  have cp := fun w => iprime_any p hp w
  have cq := fun w => iprime_any q hq w
  clear hp hq
  by_cases hpq : p = q
  · have K := kB_no (p := p) (q := q) (e := e) (fun x => x.2.2.1 hpq)
    subst hpq
    cases hA : prB p <;> rw [hA] at cp
    go_wp2_with (first
      | (go_at_call_of 17 (Value.int IntKind.u64 (p : Int)); refine (cp _).mono ?_; rintro en w1 ⟨rfl, rfl⟩)
      | (go_at_call 17; refine (cq _).mono ?_; rintro en w1 ⟨rfl, rfl⟩)
      | (go_at_call 18; refine (cv _).mono ?_; rintro en w1 ⟨rfl, rfl⟩)
      | go_in)
    exact ret_two3 Tryd.results6 rfl rfl (new3 w _ _ _ _) ⟨key_eq (a := 0) (b := 0) (c := 0) K.2.1 K.2.2.1 K.2.2.2 K.1, (Below.refl _ _).alloc (Nat.le_refl _) _⟩
    go_wp2_with (first
      | (go_at_call_of 17 (Value.int IntKind.u64 (p : Int)); refine (cp _).mono ?_; rintro en w1 ⟨rfl, rfl⟩)
      | (go_at_call 17; refine (cq _).mono ?_; rintro en w1 ⟨rfl, rfl⟩)
      | (go_at_call 18; refine (cv _).mono ?_; rintro en w1 ⟨rfl, rfl⟩)
      | go_in)
    exact ret_two3 Tryd.results6 rfl rfl (new3 w _ _ _ _) ⟨key_eq (a := 0) (b := 0) (c := 0) K.2.1 K.2.2.1 K.2.2.2 K.1, (Below.refl _ _).alloc (Nat.le_refl _) _⟩
  have hne : ((p : Int) == (q : Int)) = false := by simp; omega
  have hne' : ¬ (p : Int) = (q : Int) := by omega
  by_cases hA : prB p = true
  case neg =>
    have K := kB_no (p := p) (q := q) (e := e) (fun x => hA x.1)
    rw [Bool.eq_false_iff.2 hA] at cp
    go_wp2_with (first
      | (go_at_call_of 17 (Value.int IntKind.u64 (p : Int)); refine (cp _).mono ?_; rintro en w1 ⟨rfl, rfl⟩)
      | (go_at_call 17; refine (cq _).mono ?_; rintro en w1 ⟨rfl, rfl⟩)
      | (go_at_call 18; refine (cv _).mono ?_; rintro en w1 ⟨rfl, rfl⟩)
      | go_in)
    exact ret_two3 Tryd.results6 rfl rfl (new3 w _ _ _ _) ⟨key_eq (a := 0) (b := 0) (c := 0) K.2.1 K.2.2.1 K.2.2.2 K.1, (Below.refl _ _).alloc (Nat.le_refl _) _⟩
  by_cases hB : prB q = true
  case neg =>
    have K := kB_no (p := p) (q := q) (e := e) (fun x => hB x.2.1)
    rw [hA] at cp
    rw [Bool.eq_false_iff.2 hB] at cq
    go_wp2_with (first
      | (go_at_call_of 17 (Value.int IntKind.u64 (p : Int)); refine (cp _).mono ?_; rintro en w1 ⟨rfl, rfl⟩)
      | (go_at_call 17; refine (cq _).mono ?_; rintro en w1 ⟨rfl, rfl⟩)
      | (go_at_call 18; refine (cv _).mono ?_; rintro en w1 ⟨rfl, rfl⟩)
      | go_in)
    exact ret_two3 Tryd.results6 rfl rfl (new3 w _ _ _ _) ⟨key_eq (a := 0) (b := 0) (c := 0) K.2.1 K.2.2.1 K.2.2.2 K.1, (Below.refl _ _).alloc (Nat.le_refl _) _⟩
  rw [hA] at cp
  rw [hB] at cq
  obtain ⟨p3, q3, lN, lM, gM⟩ := two_primes hA hB
  obtain ⟨N, hN⟩ : ∃ N, N = p * q := ⟨_, rfl⟩
  have c1 : IntKind.u64.wrap ((p : Int) * (q : Int)) = (N : Int) := by rw [← Int.natCast_mul, ← hN, IntKind.wrap_u64]; omega
  by_cases hC : 65536 < N
  case neg =>
    have K := kB_no (p := p) (q := q) (e := e) (fun x => hC (by rw [hN]; exact x.2.2.2.1))
    have hC1 : (N : Int) ≤ 65536 := by omega
    generalize hNN : (N : Int) = NN at *
    clear p3 q3 lN lM gM hN hC
    go_wp2_with (first
      | (go_at_call_of 17 (Value.int IntKind.u64 (p : Int)); refine (cp _).mono ?_; rintro en w1 ⟨rfl, rfl⟩)
      | (go_at_call 17; refine (cq _).mono ?_; rintro en w1 ⟨rfl, rfl⟩)
      | (go_at_call 18; refine (cv _).mono ?_; rintro en w1 ⟨rfl, rfl⟩)
      | go_in)
    exact ret_two3 Tryd.results6 rfl rfl (new3 w _ _ _ _) ⟨key_eq (a := 0) (b := 0) (c := 0) K.2.1 K.2.2.1 K.2.2.2 K.1, (Below.refl _ _).alloc (Nat.le_refl _) _⟩
  have hC1 : ¬ (N : Int) ≤ 65536 := by omega
  obtain ⟨p1, hp1⟩ : ∃ p1, p1 = p - 1 := ⟨_, rfl⟩
  obtain ⟨q1, hq1⟩ : ∃ q1, q1 = q - 1 := ⟨_, rfl⟩
  obtain ⟨M, hM⟩ : ∃ M, M = ph p q := ⟨_, rfl⟩
  have lp : p ≤ 2147483647 := (prB_is hA).2.1
  have lq : q ≤ 2147483647 := (prB_is hB).2.1
  have c2 : IntKind.u64.wrap ((p : Int) - 1) = (p1 : Int) := by rw [IntKind.wrap_u64]; omega
  have c3 : IntKind.u64.wrap ((q : Int) - 1) = (q1 : Int) := by rw [IntKind.wrap_u64]; omega
  have c4 : IntKind.u64.wrap ((p1 : Int) * (q1 : Int)) = (M : Int) := by
    rw [← Int.natCast_mul, hp1, hq1, show (p - 1) * (q - 1) = M by rw [hM]; rfl, IntKind.wrap_u64]
    omega
  rw [← hM] at lM gM
  by_cases hD : e < 3
  · have K := kB_no (p := p) (q := q) (e := e) (fun x => by have := x.2.2.2.2.1; omega)
    have hD1 : (e : Int) < 3 := by omega
    generalize hNN : (N : Int) = NN at *
    clear p3 q3 lN lM gM hN hC hp1 hq1 hM lp lq he
    go_wp2_with (first
      | (go_at_call_of 17 (Value.int IntKind.u64 (p : Int)); refine (cp _).mono ?_; rintro en w1 ⟨rfl, rfl⟩)
      | (go_at_call 17; refine (cq _).mono ?_; rintro en w1 ⟨rfl, rfl⟩)
      | (go_at_call 18; refine (cv _).mono ?_; rintro en w1 ⟨rfl, rfl⟩)
      | go_in)
    exact ret_two3 Tryd.results6 rfl rfl (new3 w _ _ _ _) ⟨key_eq (a := 0) (b := 0) (c := 0) K.2.1 K.2.2.1 K.2.2.2 K.1, (Below.refl _ _).alloc (Nat.le_refl _) _⟩
  have hD1 : ¬ (e : Int) < 3 := by omega
  by_cases hE : e < M
  case neg =>
    have K := kB_no (p := p) (q := q) (e := e) (fun x => hE (by rw [hM]; exact x.2.2.2.2.2.1))
    have hE1 : ¬ (e : Int) < (M : Int) := by omega
    generalize hNN : (N : Int) = NN at *
    clear p3 q3 lN lM gM hN hC hp1 hq1 hM lp lq he
    go_wp2_with (first
      | (go_at_call_of 17 (Value.int IntKind.u64 (p : Int)); refine (cp _).mono ?_; rintro en w1 ⟨rfl, rfl⟩)
      | (go_at_call 17; refine (cq _).mono ?_; rintro en w1 ⟨rfl, rfl⟩)
      | (go_at_call 18; refine (cv _).mono ?_; rintro en w1 ⟨rfl, rfl⟩)
      | go_in)
    exact ret_two3 Tryd.results6 rfl rfl (new3 w _ _ _ _) ⟨key_eq (a := 0) (b := 0) (c := 0) K.2.1 K.2.2.1 K.2.2.2 K.1, (Below.refl _ _).alloc (Nat.le_refl _) _⟩
  have hE1 : (e : Int) < (M : Int) := by omega
  have hSm : Sm M := lM
  have cv := fun w => iinv_any e M hE hSm w

  cases hI : ivB e M
  · have K := kB_no (p := p) (q := q) (e := e) (fun x => by have := x.2.2.2.2.2.2; rw [← hM, hI] at this; cases this)
    rw [hI] at cv
    have ce : IntKind.i64.wrap (e : Int) = (e : Int) := i64_ok _ (by omega) (by omega)
    have cm : IntKind.i64.wrap (M : Int) = (M : Int) := i64_ok _ (by omega) (by omega)
    generalize hNN : (N : Int) = NN at *
    clear p3 q3 lN lM gM hN hC hp1 hq1 hM lp lq he hSm
    go_wp2_with (first
      | (go_at_call_of 17 (Value.int IntKind.u64 (p : Int)); refine (cp _).mono ?_; rintro en w1 ⟨rfl, rfl⟩)
      | (go_at_call 17; refine (cq _).mono ?_; rintro en w1 ⟨rfl, rfl⟩)
      | (go_at_call 18; refine (cv _).mono ?_; rintro en w1 ⟨rfl, rfl⟩)
      | go_in)
    exact ret_two3 Tryd.results6 rfl rfl (new3 w _ _ _ _) ⟨key_eq (a := 0) (b := 0) (c := 0) K.2.1 K.2.2.1 K.2.2.2 K.1, (Below.refl _ _).alloc (Nat.le_refl _) _⟩
  · have K := kB_yes (p := p) (q := q) (e := e) ⟨hA, hB, hpq, by rw [← hN]; exact hC, by omega, by rw [← hM]; exact hE, by rw [← hM]; exact hI⟩
    rw [← hN, ← hM] at K
    have hS := ivD_spec hE (by omega) hI
    obtain ⟨D, hDD⟩ : ∃ D : Nat, ivD e M = (D : Int) := ⟨(ivD e M).toNat, by omega⟩
    have hD0 : ¬ D = 0 := by omega
    have lD : D ≤ M := by omega
    have cw : IntKind.u64.wrap (D : Int) = (D : Int) := by rw [IntKind.wrap_u64]; omega
    rw [hDD, Int.toNat_natCast] at K
    have hD0' : ((D : Int) == 0) = false := by simp; omega
    rw [hI, hDD] at cv
    have ce : IntKind.i64.wrap (e : Int) = (e : Int) := i64_ok _ (by omega) (by omega)
    have cm : IntKind.i64.wrap (M : Int) = (M : Int) := i64_ok _ (by omega) (by omega)
    generalize hNN : (N : Int) = NN at *
    clear p3 q3 lN lM gM hN hC hp1 hq1 hM lp lq hSm hS lD
    go_wp2_with (first
      | (go_at_call_of 17 (Value.int IntKind.u64 (p : Int)); refine (cp _).mono ?_; rintro en w1 ⟨rfl, rfl⟩)
      | (go_at_call 17; refine (cq _).mono ?_; rintro en w1 ⟨rfl, rfl⟩)
      | (go_at_call 18; refine (cv _).mono ?_; rintro en w1 ⟨rfl, rfl⟩)
      | go_in)
    subst hNN
    exact ret_two3 Tryd.results6 rfl rfl (new3 w _ _ _ _) ⟨key_eq K.2.1 K.2.2.1 K.2.2.2 K.1, (Below.refl _ _).alloc (Nat.le_refl _) _⟩

end Go.Proofs.YtghhogbhenlaoaaDoor.sg
