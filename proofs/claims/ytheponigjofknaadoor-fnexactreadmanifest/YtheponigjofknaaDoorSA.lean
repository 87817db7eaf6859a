import Derived.Test.YtheponigjofknaaDoorRows
import Derived.Test.YtheponigjofknaaDoorSM
import Derived.Sort.AtCall
import Derived.Lib.Hide
namespace Go.Proofs.YtheponigjofknaaDoor.sg
open Go.ChangeShapes Go.WideShapes Go.ChangeAt Go.RowKit Go.Deep
set_option linter.unusedVariables false

theorem add_mod_hi {a b m : Nat} (ha : a < m) (hb : b < m) (h : m - b ≤ a) : (a + b) % m = a - (m - b) := by
  rw [Nat.mod_eq_sub_mod (by omega), Nat.mod_eq_of_lt (by omega)]
  omega

theorem add_any (a b m : Nat) (ha : a < m) (hb : b < m) (hm : m < 18446744073709551616) (w : World) :
    Calls Tryd.prog 91 #[.int .u64 (a : Int), .int .u64 (b : Int), .int .u64 (m : Int)] w fun e w' => e = .returned (.int .u64 ((am a b m : Nat) : Int)) ∧ w' = w := by
  go_enter Tryd.func91, Tryd.ntmps91
  by_cases h : m - b ≤ a
  · have e : am a b m = a - (m - b) := add_mod_hi ha hb h
    rw [e]
    have hc : ¬ ((a : Int) < (m : Int) - (b : Int)) := by omega
    go_wp2
    go_ret
    exact ⟨ret_int (by omega), rfl⟩
  · have e : am a b m = a + b := Nat.mod_eq_of_lt (by omega)
    rw [e]
    have hc : ((a : Int) < (m : Int) - (b : Int)) := by omega
    go_wp2
    go_ret
    exact ⟨ret_int (by omega), rfl⟩

theorem half_lt {b : Nat} (h : 0 < b) : b / 2 < b := by omega

theorem times_any (a b m : Nat) (ha : a < 18446744073709551616) (hb : b < 18446744073709551616) (hm0 : 0 < m) (hm : m < 18446744073709551616) (w : World) :
    Calls Tryd.prog 71 #[.int .u64 (a : Int), .int .u64 (b : Int), .int .u64 (m : Int)] w fun e w' => e = .returned (.int .u64 ((mm a b m : Nat) : Int)) ∧ w' = w := by
  go_enter Tryd.func71, Tryd.ntmps71
  have hz : ((m : Int) == 0) = false := by simp; omega
  go_wp2
  go_loopw [0, 1, 7] (fun x y o wr => ∃ a' b' o' : Nat, x = .int .u64 (a' : Int) ∧ y = .int .u64 (b' : Int) ∧ o = .int .u64 (o' : Int) ∧ a' < m ∧ o' < m ∧ b' ≤ b ∧ (o' + a' * b') % m = mm a b m ∧ wr = w) (fun _ y _ _ => (intOf y).toNat)
  case atStart => exact ⟨a % m, b, 0, by rw [← Int.natCast_emod], rfl, rfl, Nat.mod_lt _ hm0, hm0, Nat.le_refl _, by rw [Nat.zero_add, Nat.mod_mul_mod, mm], rfl⟩
  case round =>
    obtain ⟨a', b', o', rfl, rfl, rfl, ha', ho', hb', hr, rfl⟩ := hrel
    have HR : Hid ((o' + a' * b') % m = mm a b m) := hr
    clear hr
    by_cases h0 : b' = 0
    · have hno : ¬ (0 : Int) < (b' : Int) := by omega
      go_wp2
      go_ret
      have hr := HR.out
      rw [h0, Nat.mul_zero, Nat.add_zero, Nat.mod_eq_of_lt ho'] at hr
      exact ⟨ret_int (by rw [hr]), rfl⟩
    · have hpos : (0 : Int) < (b' : Int) := by omega
      have hbb : b' / 2 ≤ b := by omega
      have hlt : b' / 2 < b' := by omega
      have a2 := add_any a' a' m ha' ha' hm wr
      by_cases h1 : b' % 2 = 1
      · have hb2 : (b' : Int) % 2 = 1 := by omega
        have a1 := add_any o' a' m ho' ha' hm wr
        go_wp2_with (first
          | (go_at_call_of 91 (Value.int IntKind.u64 (o' : Int)); refine a1.mono ?_; rintro e w ⟨rfl, rfl⟩)
          | (go_at_call 91; refine a2.mono ?_; rintro e w ⟨rfl, rfl⟩)
          | go_in)
        go_roundw
        case rel => exact ⟨am a' a' m, b' / 2, am o' a' m, rfl, by simp, rfl, am_lt hm0, am_lt hm0, hbb, times_odd h1 HR.out, trivial⟩
        case measure => simp [intOf]; omega
      · have hb2 : (b' : Int) % 2 = 0 := by omega
        go_wp2_with (first
          | (go_at_call 91; refine a2.mono ?_; rintro e w ⟨rfl, rfl⟩)
          | go_in)
        go_roundw
        case rel => exact ⟨am a' a' m, b' / 2, o', rfl, by simp, rfl, am_lt hm0, ho', hbb, times_even (by omega) HR.out, trivial⟩
        case measure => simp [intOf]; omega

theorem spow_any (x n m : Nat) (hx : x < 18446744073709551616) (hn : n < 18446744073709551616) (hm : m < 18446744073709551616) (w : World) :
    Calls Tryd.prog 50 #[.int .u64 (x : Int), .int .u64 (n : Int), .int .u64 (m : Int)] w fun e w' => e = .returned (.int .u64 ((pm x n m : Nat) : Int)) ∧ w' = w := by
  go_enter Tryd.func50, Tryd.ntmps50
  by_cases h2 : m < 2
  · have e : pm x n m = 0 := pm_small h2
    rw [e]
    go_wp2
    go_ret
    exact ⟨rfl, rfl⟩
  have hm0 : 0 < m := by omega
  have hz : ((m : Int) == 0) = false := by simp; omega
  go_wp2
  go_loopw [0, 1, 7] (fun a b o wr => ∃ a' b' o' : Nat, a = .int .u64 (a' : Int) ∧ b = .int .u64 (b' : Int) ∧ o = .int .u64 (o' : Int) ∧ a' < m ∧ o' < m ∧ b' ≤ n ∧ (o' * a' ^ b') % m = pm x n m ∧ wr = w) (fun _ y _ _ => (intOf y).toNat)
  case atStart => exact ⟨x % m, n, 1, by rw [← Int.natCast_emod], rfl, rfl, Nat.mod_lt _ hm0, by omega, Nat.le_refl _, by rw [Nat.one_mul, ← Nat.pow_mod, pm_big (by omega)], rfl⟩
  case round =>
    obtain ⟨a', b', o', rfl, rfl, rfl, ha', ho', hb', hr, rfl⟩ := hrel
    have HR : Hid ((o' * a' ^ b') % m = pm x n m) := hr
    clear hr
    by_cases h0 : b' = 0
    · have hno : ¬ (0 : Int) < (b' : Int) := by omega
      go_wp2
      go_ret
      have hr := HR.out
      rw [h0, Nat.pow_zero, Nat.mul_one, Nat.mod_eq_of_lt ho'] at hr
      exact ⟨ret_int (by rw [hr]), rfl⟩
    · have hpos : (0 : Int) < (b' : Int) := by omega
      have hbb : b' / 2 ≤ n := by omega
      have hlt : b' / 2 < b' := by omega
      have a2 := times_any a' a' m (by omega) (by omega) hm0 hm wr
      by_cases h1 : b' % 2 = 1
      · have hb2 : (b' : Int) % 2 = 1 := by omega
        have a1 := times_any o' a' m (by omega) (by omega) hm0 hm wr
        go_wp2_with (first
          | (go_at_call_of 71 (Value.int IntKind.u64 (o' : Int)); refine a1.mono ?_; rintro e w ⟨rfl, rfl⟩)
          | (go_at_call 71; refine a2.mono ?_; rintro e w ⟨rfl, rfl⟩)
          | go_in)
        go_roundw
        case rel => exact ⟨mm a' a' m, b' / 2, mm o' a' m, rfl, by simp, rfl, mm_lt hm0, mm_lt hm0, hbb, pow_odd h1 HR.out, trivial⟩
        case measure => simp [intOf]; omega
      · have hb2 : (b' : Int) % 2 = 0 := by omega
        go_wp2_with (first
          | (go_at_call 71; refine a2.mono ?_; rintro e w ⟨rfl, rfl⟩)
          | go_in)
        go_roundw
        case rel => exact ⟨mm a' a' m, b' / 2, o', rfl, by simp, rfl, mm_lt hm0, ho', hbb, pow_even (by omega) HR.out, trivial⟩
        case measure => simp [intOf]; omega

end Go.Proofs.YtheponigjofknaaDoor.sg
