import Derived.Test.YtghhogbhenlaoaaDoorRows
import Derived.Test.YtghhogbhenlaoaaDoorSM
import Derived.Lib.Hide
namespace Go.Proofs.YtghhogbhenlaoaaDoor.sg
open Go.ChangeShapes Go.WideShapes Go.ChangeAt Go.RowKit Go.Deep
set_option linter.unusedVariables false
/-- A prime number from 3 to 2147483647: no odd number from 3 on, of which the square is not above it, divides it. -/
def prB (n : Nat) : Bool := decide (3 ≤ n) && (decide (n ≤ 2147483647) && (decide (n % 2 = 1) && (List.range n).all fun d => decide (3 ≤ d → d % 2 = 1 → d * d ≤ n → n % d ≠ 0)))

theorem prB_iff {n : Nat} : prB n = true ↔ 3 ≤ n ∧ n ≤ 2147483647 ∧ n % 2 = 1 ∧ ∀ d, 3 ≤ d → d % 2 = 1 → d * d ≤ n → n % d ≠ 0 := by
  simp only [prB, Bool.and_eq_true, decide_eq_true_eq, List.all_eq_true, List.mem_range]
  constructor
  · rintro ⟨a, b, c, h⟩
    refine ⟨a, b, c, fun d x y z => h d ?_ x y z⟩
    have := Nat.mul_le_mul x (Nat.le_refl d)
    omega
  · rintro ⟨a, b, c, h⟩
    exact ⟨a, b, c, fun d _ x y z => h d x y z⟩

theorem prB_true {n : Nat} (h3 : 3 ≤ n) (h1 : n ≤ 2147483647) (h2 : n % 2 = 1) (h : ∀ d, 3 ≤ d → d % 2 = 1 → d * d ≤ n → n % d ≠ 0) : prB n = true := prB_iff.2 ⟨h3, h1, h2, h⟩

theorem prB_false {n : Nat} (h : ¬ (3 ≤ n ∧ n ≤ 2147483647 ∧ n % 2 = 1 ∧ ∀ d, 3 ≤ d → d % 2 = 1 → d * d ≤ n → n % d ≠ 0)) : prB n = false := by
  rw [Bool.eq_false_iff]
  exact fun e => h (prB_iff.1 e)

theorem prB_is {n : Nat} (h : prB n = true) : 3 ≤ n ∧ n ≤ 2147483647 ∧ n % 2 = 1 ∧ ∀ d, 3 ≤ d → d % 2 = 1 → d * d ≤ n → n % d ≠ 0 := prB_iff.1 h

/-- Where the search stands. -/
structure Pr (n d : Nat) : Prop where
  h3 : 3 ≤ n
  h1 : n ≤ 2147483647
  h2 : n % 2 = 1
  d3 : 3 ≤ d
  d2 : d % 2 = 1
  dl : d ≤ 46343
  no : ∀ c, 3 ≤ c → c % 2 = 1 → c < d → n % c ≠ 0

theorem Pr.start {n : Nat} (h3 : 3 ≤ n) (h1 : n ≤ 2147483647) (h2 : n % 2 = 1) : Pr n 3 := ⟨h3, h1, h2, by omega, by omega, by omega, fun c a b d => by omega⟩

theorem Pr.low {n d : Nat} (h : Pr n d) (hd : d * d ≤ n) : d ≤ 46340 := by
  rcases Nat.lt_or_ge 46340 d with hh | hh
  · have := Nat.mul_le_mul hh hh
    have := h.h1
    omega
  · exact hh

theorem Pr.next {n d : Nat} (h : Pr n d) (hd : d * d ≤ n) (hr : n % d ≠ 0) : Pr n (d + 2) := by
  have := h.low hd
  have := h.d3
  have d2 := h.d2
  refine ⟨h.h3, h.h1, h.h2, by omega, by omega, by omega, fun c a b e => ?_⟩
  by_cases hc : c < d
  · exact h.no c a b hc
  · obtain rfl : c = d := by omega
    exact hr

theorem Pr.yes {n d : Nat} (h : Pr n d) (hd : ¬ d * d ≤ n) : prB n = true :=
  prB_true h.h3 h.h1 h.h2 fun c a b e => by
    apply h.no c a b
    rcases Nat.lt_or_ge c d with hh | hh
    · exact hh
    · exact absurd (Nat.le_trans (Nat.mul_le_mul hh hh) e) hd

theorem Pr.none {n d : Nat} (h : Pr n d) (hd : d * d ≤ n) (hr : n % d = 0) : prB n = false :=
  prB_false fun ⟨_, _, _, x⟩ => x d h.d3 h.d2 hd hr

theorem sprime_any (n : Nat) (hn : n < 18446744073709551616) (w : World) :
    Calls Tryd.prog 19 #[.int .u64 (n : Int)] w fun e w' => e = .returned (.bool (prB n)) ∧ w' = w := by
  go_enter Tryd.func19, Tryd.ntmps19
  by_cases h3 : n < 3
  · have hB : prB n = false := prB_false (by omega)
    rw [hB]
    have h3' : (n : Int) < 3 := by omega
    generalize hN : (n : Int) = NN at *
    clear hn h3
    go_wp2
    go_ret
    exact ⟨rfl, rfl⟩
  by_cases h1 : 2147483647 < n
  · have hB : prB n = false := prB_false (by omega)
    rw [hB]
    have h3' : ¬ (n : Int) < 3 := by omega
    have h1' : (2147483647 : Int) < (n : Int) := by omega
    generalize hN : (n : Int) = NN at *
    clear hn h3 h1
    go_wp2
    go_ret
    exact ⟨rfl, rfl⟩
  have h3' : ¬ (n : Int) < 3 := by omega
  have h1' : ¬ (2147483647 : Int) < (n : Int) := by omega
  by_cases h2 : n % 2 = 0
  · have hB : prB n = false := prB_false (by omega)
    rw [hB]
    have h2' : (n : Int) % 2 = 0 := by omega
    generalize hN : (n : Int) = NN at *
    clear hn h3 h1 h2
    go_wp2
    go_ret
    exact ⟨rfl, rfl⟩
  have h2' : (n : Int) % 2 = 1 := by omega
  have HP : Pr n 3 := Pr.start (by omega) (by omega) (by omega)
  generalize hN : (n : Int) = NN at *
  have HN : Hid ((n : Int) = NN) := hN
  clear hn h3 h1 h2 hN
  go_wp2
  go_loopw [3] (fun a wr => ∃ d : Nat, a = .int .u64 (d : Int) ∧ Pr n d ∧ wr = w) (fun a _ => 46400 - (intOf a).toNat)
  case atStart => exact ⟨3, rfl, HP, rfl⟩
  case round =>
    obtain ⟨d, rfl, HP', rfl⟩ := hrel
    have hd3 := HP'.d3
    have hdl := HP'.dl
    obtain ⟨x, hx⟩ : ∃ x, x = d * d := ⟨_, rfl⟩
    have hxl : x ≤ 46343 * 46343 := by rw [hx]; exact Nat.mul_le_mul hdl hdl
    have e1 : IntKind.u64.wrap ((d : Int) * (d : Int)) = (x : Int) := by
      rw [← Int.natCast_mul, ← hx, IntKind.wrap_u64]; omega
    have hz : ¬ d = 0 := by omega
    by_cases hc : x ≤ n
    · have hc1 : ¬ (NN < (x : Int)) := by have := HN.out; omega
      obtain ⟨r, hr⟩ : ∃ r, r = n % d := ⟨_, rfl⟩
      have e2 : NN % (d : Int) = (r : Int) := by rw [← HN.out, hr, Int.natCast_emod]
      by_cases h0 : r = 0
      · have hB : prB n = false := HP'.none (by rw [← hx]; exact hc) (by rw [← hr]; exact h0)
        subst h0
        clear hd3 hdl hx hxl hc hr
        go_wp2
        go_ret
        exact ⟨by first | rfl | (rw [hB]; rfl), rfl⟩
      · have hr0 : ((r : Int) == 0) = false := by simp; omega
        have HX : Pr n (d + 2) := HP'.next (by rw [← hx]; exact hc) (by rw [← hr]; exact h0)
        have e3 : IntKind.u64.wrap ((d : Int) + 2) = ((d + 2 : Nat) : Int) := by rw [IntKind.wrap_u64]; omega
        have hdm : Hid (d ≤ 46343) := hdl
        clear hd3 hdl hx hxl hc hr
        go_wp2
        go_roundw
        case rel => exact ⟨d + 2, rfl, HX, by first | rfl | trivial⟩
        case measure => have := hdm.out; simp [intOf]; omega
    · have hc1 : NN < (x : Int) := by have := HN.out; omega
      have hB : prB n = true := HP'.yes (by rw [← hx]; exact hc)
      clear hd3 hdl hx hxl hc
      go_wp2
      go_ret
      exact ⟨by first | rfl | (rw [hB]; rfl), rfl⟩

theorem iprime_any (n : Nat) (hn : n < 18446744073709551616) (w : World) :
    Calls Tryd.prog 17 #[.int .u64 (n : Int)] w fun e w' => e = .returned (.bool (prB n)) ∧ w' = w := by
  go_enter Tryd.func17, Tryd.ntmps17
  by_cases h3 : n < 3
  · have hB : prB n = false := prB_false (by omega)
    rw [hB]
    have h3' : (n : Int) < 3 := by omega
    generalize hN : (n : Int) = NN at *
    clear hn h3
    go_wp2
    go_ret
    exact ⟨rfl, rfl⟩
  by_cases h1 : 2147483647 < n
  · have hB : prB n = false := prB_false (by omega)
    rw [hB]
    have h3' : ¬ (n : Int) < 3 := by omega
    have h1' : (2147483647 : Int) < (n : Int) := by omega
    generalize hN : (n : Int) = NN at *
    clear hn h3 h1
    go_wp2
    go_ret
    exact ⟨rfl, rfl⟩
  have h3' : ¬ (n : Int) < 3 := by omega
  have h1' : ¬ (2147483647 : Int) < (n : Int) := by omega
  by_cases h2 : n % 2 = 0
  · have hB : prB n = false := prB_false (by omega)
    rw [hB]
    have h2' : (n : Int) % 2 = 0 := by omega
    generalize hN : (n : Int) = NN at *
    clear hn h3 h1 h2
    go_wp2
    go_ret
    exact ⟨rfl, rfl⟩
  have h2' : (n : Int) % 2 = 1 := by omega
  have HP : Pr n 3 := Pr.start (by omega) (by omega) (by omega)
  generalize hN : (n : Int) = NN at *
  have HN : Hid ((n : Int) = NN) := hN
  clear hn h3 h1 h2 hN
  go_wp2
  go_loopw [3] (fun a wr => ∃ d : Nat, a = .int .u64 (d : Int) ∧ Pr n d ∧ wr = w) (fun a _ => 46400 - (intOf a).toNat)
  case atStart => exact ⟨3, rfl, HP, rfl⟩
  case round =>
    obtain ⟨d, rfl, HP', rfl⟩ := hrel
    have hd3 := HP'.d3
    have hdl := HP'.dl
    obtain ⟨x, hx⟩ : ∃ x, x = d * d := ⟨_, rfl⟩
    have hxl : x ≤ 46343 * 46343 := by rw [hx]; exact Nat.mul_le_mul hdl hdl
    have e1 : IntKind.u64.wrap ((d : Int) * (d : Int)) = (x : Int) := by
      rw [← Int.natCast_mul, ← hx, IntKind.wrap_u64]; omega
    have hz : ¬ d = 0 := by omega
    by_cases hc : x ≤ n
    · have hc1 : ¬ (NN < (x : Int)) := by have := HN.out; omega
      obtain ⟨r, hr⟩ : ∃ r, r = n % d := ⟨_, rfl⟩
      have e2 : NN % (d : Int) = (r : Int) := by rw [← HN.out, hr, Int.natCast_emod]
      by_cases h0 : r = 0
      · have hB : prB n = false := HP'.none (by rw [← hx]; exact hc) (by rw [← hr]; exact h0)
        subst h0
        clear hd3 hdl hx hxl hc hr
        go_wp2
        go_ret
        exact ⟨by first | rfl | (rw [hB]; rfl), rfl⟩
      · have hr0 : ((r : Int) == 0) = false := by simp; omega
        have HX : Pr n (d + 2) := HP'.next (by rw [← hx]; exact hc) (by rw [← hr]; exact h0)
        have e3 : IntKind.u64.wrap ((d : Int) + 2) = ((d + 2 : Nat) : Int) := by rw [IntKind.wrap_u64]; omega
        have hdm : Hid (d ≤ 46343) := hdl
        clear hd3 hdl hx hxl hc hr
        go_wp2
        go_roundw
        case rel => exact ⟨d + 2, rfl, HX, by first | rfl | trivial⟩
        case measure => have := hdm.out; simp [intOf]; omega
    · have hc1 : NN < (x : Int) := by have := HN.out; omega
      have hB : prB n = true := HP'.yes (by rw [← hx]; exact hc)
      clear hd3 hdl hx hxl hc
      go_wp2
      go_ret
      exact ⟨by first | rfl | (rw [hB]; rfl), rfl⟩

end Go.Proofs.YtghhogbhenlaoaaDoor.sg
