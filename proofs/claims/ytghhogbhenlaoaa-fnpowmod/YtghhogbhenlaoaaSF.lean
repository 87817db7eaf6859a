import Derived.Test.YtghhogbhenlaoaaSC
import Derived.Test.YtghhogbhenlaoaaDU
import Derived.Deep.RegionHeld3
import Derived.Deep.Cut
namespace Go.Proofs.Ytghhogbhenlaoaa.sg
open Go.ChangeShapes Go.WideShapes Go.ChangeAt Go.RowKit Go.Deep
set_option linter.unusedVariables false

theorem drawPow (a : Option Addr) (n cap : Nat) (w : World) (hb : dr.CodeB w a n) (hn : n ≤ 1048576) (hlt : ∀ x, a = some x → 0 < n → x.block < w.heap.size) :
    Calls Try.prog 5 #[.slice a n cap] w fun e w' => (∃ X Y Z : Nat, e = .returned (.tuple #[.int .u64 (X : Int), .int .u64 (Y : Int), .int .u64 (Z : Int)]) ∧ X < 18446744073709551616 ∧ Y < 18446744073709551616 ∧ Z < 18446744073709551616) ∧ Below w.heap.size w w' := by
  go_enter Try.func5, Try.ntmps5
  go_wp2_with (go_at_call 7; refine (dr.new_any a n cap w hb hn).mono ?_; rintro e w0 ⟨rfl, h0, rfl⟩; refine Hid.out ?_)
  refine Lib.hid ?_
  have C0 := dr.new_can (cap := cap) hb hn hlt h0
  have F := fun {w' : World} (d : dr.Draws (w.alloc (.cells #[.slice a n cap, .int .i64 0, .int .i64 h0] 39)) w' w.heap.size a n cap) => ((Below.refl _ w).alloc (Nat.le_refl _) _).trans (dr.below_of_grown d.grown (Nat.le_refl _) (by simp))
  have S := fun {w' : World} (d : dr.Draws (w.alloc (.cells #[.slice a n cap, .int .i64 0, .int .i64 h0] 39)) w' w.heap.size a n cap) => (show w.heap.size < w'.heap.size by have := d.grown.size; simp at this; omega)
  go_wp2_with (go_at_call 8; refine (dr.u64_can C0 (by simp)).mono ?_; rintro e w1 ⟨X, rfl, hX, d1⟩; refine Hid.out ?_)
  refine Lib.hid ?_
  have HX : Hid (X < 18446744073709551616) := hX
  clear hX
  go_wp2_with (go_at_call 8; refine (dr.u64_can (C0.draws d1) (S d1)).mono ?_; rintro e w2 ⟨Y, rfl, hY, d2⟩; refine Hid.out ?_)
  refine Lib.hid ?_
  have D2 := d1.trans d2
  have HY : Hid (Y < 18446744073709551616) := hY
  clear hY d1 d2
  go_wp2_with (go_at_call 8; refine (dr.u64_can (C0.draws D2) (S D2)).mono ?_; rintro e w3 ⟨Z, rfl, hZ, d3⟩; refine Hid.out ?_)
  refine Lib.hid ?_
  have D3 := D2.trans d3
  have HZ : Hid (Z < 18446744073709551616) := hZ
  clear hZ d3 D2
  go_wp2_with (go_at_call 9; refine (dr.once_can (C0.draws D3) 3 (by decide) (by decide)).mono ?_; rintro e w4 ⟨b4, rfl, d4⟩; have D4 := D3.trans d4; clear d4 D3; cases b4)
  · go_ret3
    exact ⟨⟨X, Y, Z, rfl, HX.out, HY.out, HZ.out⟩, F D4⟩
  · refine Hid.out ?_
    refine Lib.hid ?_
    go_wp2_with (go_at_call 10; refine (dr.below_can (C0.draws D4) 50 (by decide) (by decide)).mono ?_; rintro e w5 ⟨x5, rfl, hx5, d5⟩; refine Hid.out ?_)
    refine Lib.hid ?_
    have D5 := D4.trans d5
    clear d5 D4
    go_wp2_with (go_at_call 10; refine (dr.below_can (C0.draws D5) 50 (by decide) (by decide)).mono ?_; rintro e w6 ⟨x6, rfl, hx6, d6⟩)
    go_ret3
    exact ⟨⟨X, x6, x5, rfl, HX.out, by omega, by omega⟩, F (D5.trans d6)⟩

theorem pow_zero_m {x m : Nat} (h : 2 ≤ m) : ((pm x 0 m : Nat) : Int) = 1 % (m : Int) := by
  rw [pm_big h, Nat.pow_zero, Int.natCast_emod]; rfl
theorem pow_one_m {x m : Nat} (h : 2 ≤ m) : ((pm x 1 m : Nat) : Int) = (x : Int) % (m : Int) := by
  rw [pm_big h, Nat.pow_one, Int.natCast_emod]
/-- A half of the exponent, squared. -/
theorem half_even {x n m : Nat} (h : 2 ≤ m) (hn : n % 2 = 0) : pm (pm x (n / 2) m) 2 m = pm x n m := by
  rw [pm_big h, pm_big h, pm_big h, ← Nat.pow_mod, ← Nat.pow_mul, show n / 2 * 2 = n by omega]
theorem half_odd {x n m : Nat} (h : 2 ≤ m) (hn : n % 2 = 1) : pm (pm x (n / 2) m) 2 m * (x % m) % m = pm x n m := by
  rw [pm_big h, pm_big h, pm_big h, ← Nat.pow_mod, ← Nat.pow_mul, ← Nat.mul_mod, ← Nat.pow_succ, show (n / 2 * 2).succ = n by omega]

theorem big_any (a : Option Addr) (n cap : Nat) (w : World) : Calls Try.prog 4 #[.slice a n cap] w fun e w' => e = .returned (.bool (decide ((1048576 : Int) < (n : Int)))) ∧ w' = w := by
  go_enter Try.func4, Try.ntmps4
  go_wp2
  go_ret
  exact ⟨rfl, rfl⟩

set_option maxHeartbeats 2000000 in
theorem pow_law (a : Option Addr) (n cap : Nat) (w : World) (hb : dr.CodeB w a n) (hlt : ∀ x, a = some x → 0 < n → x.block < w.heap.size) :
    Calls Try.prog 3 #[.slice a n cap] w fun e w' => e = .returned (.bool true) ∧ Below w.heap.size w w' := by
  have cb := big_any a n cap w
  by_cases hf : 1048576 < n
  · rw [show decide ((1048576 : Int) < (n : Int)) = true from decide_eq_true (by omega)] at cb
    clear hb hlt hf
    go_enter Try.func3, Try.ntmps3
    go_wp2_with (first | (go_at_call 4; refine cb.mono ?_; rintro e w' ⟨rfl, rfl⟩) | go_in)
    go_ret
    exact ⟨rfl, Below.refl _ _⟩
  rw [show decide ((1048576 : Int) < (n : Int)) = false from decide_eq_false (by omega)] at cb
  have cd := drawPow a n cap w hb (by omega) hlt
  have B0 := Below.refl w.heap.size w
  clear hb hlt hf
  go_enter Try.func3, Try.ntmps3
  go_wp2_with (first | (go_at_call 4; refine cb.mono ?_; rintro e w' ⟨rfl, rfl⟩) | (go_at_call 5; refine cd.mono ?_; rintro e w1 ⟨⟨x, n', m, rfl, hx, hn, hm⟩, B1⟩; refine Hid.out ?_) | go_in)
  refine Lib.hid ?_
  have ca : ∀ (i j : Nat), i < 18446744073709551616 → j < 18446744073709551616 → ∀ W, Calls Try.prog 6 #[.int .u64 (i : Int), .int .u64 (j : Int), .int .u64 (m : Int)] W fun e w' => e = .returned (.int .u64 ((pm i j m : Nat) : Int)) ∧ Below W.heap.size W w' := fun i j hi hj W => ipow_any i j m hi hj hm W
  have cy := fun W => ca x n' hx hn W
  by_cases h2 : m < 2
  · rw [show pm x n' m = 0 from pm_small h2] at cy
    have c3 : ∀ W, Calls Try.prog 6 #[.int .u64 3, .int .u64 4, .int .u64 100] W fun e w' => e = .returned (.int .u64 81) ∧ Below W.heap.size W w' := fun W => ipow_any 3 4 100 (by omega) (by omega) (by omega) W
    have h2' : (m : Int) < 2 := by omega
    clear hx hn hm ca h2
    go_wp2_with (first
      | (go_at_call_of 6 (Value.int IntKind.u64 100); refine (c3 _).mono ?_; rintro e w3 ⟨rfl, hl⟩; have B3 := B2.trans (hl.mono B2.size); clear hl)
      | (go_at_call 6; refine (cy _).mono ?_; rintro e w2 ⟨rfl, hl⟩; have B2 := B1.trans (hl.mono B1.size); clear hl)
      | go_in)
    go_ret
    exact ⟨rfl, B3⟩
  have h2' : ¬ (m : Int) < 2 := by omega
  have hm2 : 2 ≤ m := by omega
  obtain ⟨y, hy⟩ : ∃ y, y = pm x n' m := ⟨_, rfl⟩
  rw [← hy] at cy
  have hym : y < m := by rw [hy]; exact pm_lt hm2
  have hym' : (y : Int) < (m : Int) := by omega
  have hgd : decide (m ≤ y) = false := decide_eq_false (by omega)
  have c0 : ∀ W, Calls Try.prog 6 #[.int .u64 (x : Int), .int .u64 0, .int .u64 (m : Int)] W fun e w' => e = .returned (.int .u64 (1 % (m : Int))) ∧ Below W.heap.size W w' := fun W => by
    have := ca x 0 hx (by omega) W
    rwa [pow_zero_m hm2] at this
  have c1 : ∀ W, Calls Try.prog 6 #[.int .u64 (x : Int), .int .u64 1, .int .u64 (m : Int)] W fun e w' => e = .returned (.int .u64 ((x : Int) % (m : Int))) ∧ Below W.heap.size W w' := fun W => by
    have := ca x 1 hx (by omega) W
    rwa [pow_one_m hm2] at this
  obtain ⟨hh, hhh⟩ : ∃ hh, hh = pm x (n' / 2) m := ⟨_, rfl⟩
  obtain ⟨k2, hk2⟩ : ∃ k2, k2 = n' / 2 := ⟨_, rfl⟩
  have q2 : IntKind.u64.wrap ((n' : Int) / 2) = (k2 : Int) := by rw [IntKind.wrap_u64]; omega
  have ch : ∀ W, Calls Try.prog 6 #[.int .u64 (x : Int), .int .u64 (k2 : Int), .int .u64 (m : Int)] W fun e w' => e = .returned (.int .u64 (hh : Int)) ∧ Below W.heap.size W w' := fun W => by
    have := ca x k2 hx (by omega) W
    rwa [hk2, ← hhh, ← hk2] at this
  have lh : hh < m := by rw [hhh]; exact pm_lt hm2
  obtain ⟨s2, hs2⟩ : ∃ s2, s2 = pm hh 2 m := ⟨_, rfl⟩
  have cs : ∀ W, Calls Try.prog 6 #[.int .u64 (hh : Int), .int .u64 2, .int .u64 (m : Int)] W fun e w' => e = .returned (.int .u64 (s2 : Int)) ∧ Below W.heap.size W w' := fun W => by
    have := ca hh 2 (by omega) (by omega) W
    rwa [← hs2] at this
  obtain ⟨t2, ht2⟩ : ∃ t2, t2 = pm x 2 m := ⟨_, rfl⟩
  have ct : ∀ W, Calls Try.prog 6 #[.int .u64 (x : Int), .int .u64 2, .int .u64 (m : Int)] W fun e w' => e = .returned (.int .u64 (t2 : Int)) ∧ Below W.heap.size W w' := fun W => by
    have := ca x 2 hx (by omega) W
    rwa [← ht2] at this
  have lt2 : (t2 : Int) < (m : Int) := by have := pm_lt (x := x) (n := 2) hm2; omega
  have ls2 : s2 < m := by rw [hs2]; exact pm_lt hm2
  have HEV : Hid (n' % 2 = 0 → s2 = y) := fun h => by rw [hs2, hhh, half_even hm2 h, hy]
  have HOD : Hid (n' % 2 = 1 → m ≤ 4294967296 → IntKind.u64.wrap ((s2 : Int) * ((x : Int) % (m : Int))) % (m : Int) = (y : Int)) := fun h hl => by
    have e := half_odd (x := x) hm2 h
    rw [← hhh, ← hs2, ← hy] at e
    have lx := Nat.mod_lt x (show 0 < m by omega)
    have lp : s2 * (x % m) ≤ 4294967295 * 4294967295 := Nat.mul_le_mul (by omega) (by omega)
    rw [← Int.natCast_emod, ← Int.natCast_mul, show IntKind.u64.wrap ((s2 * (x % m) : Nat) : Int) = ((s2 * (x % m) : Nat) : Int) by rw [IntKind.wrap_u64]; omega, ← Int.natCast_emod, e]
  have hz : ¬ m = 0 := by omega
  have tm1 : Int.tmod 1 (m : Int) = 1 % (m : Int) := Int.tmod_eq_emod_of_nonneg (by omega)
  have tm2 : Int.tmod (x : Int) (m : Int) = (x : Int) % (m : Int) := Int.tmod_eq_emod_of_nonneg (by omega)
  clear hx hn hm ca h2 hm2 hy hym hhh lh hs2 ht2 ls2 hk2
  go_wp2_with (first
    | (go_at_call 6; refine (cy _).mono ?_; rintro e w2 ⟨rfl, hl⟩; have B2 := B1.trans (hl.mono B1.size); clear hl; refine Hid.out ?_)
    | go_in)
  refine Lib.hid ?_
  clear cy B1
  go_upto_region 7 with fail
  refine wp_region_held_drew (S := (fun _ => True)) (by kernel_rfl) (trivial) (fun hHeld => ?_)
  refine wpAnyH_take (i := 0) (oi := ⟨some 28, .move (.tmp 6), 24, "laws.go:1076", #[], none⟩) (v := ?v1) rfl (by kernel_rfl) (by kernel_rfl) (by kernel_rfl) (fun _ _ _ h => h) (Or.inl ⟨by rfl, ?hy1⟩) (by assumption) ?r1
  case hy1 => (intro w hSw; (try dsimp only at hSw); go_simp; try with_reducible rfl)
  try simp only [Act.put, List.setIfInBounds_toArray, List.set_cons_zero, List.set_cons_succ]
  refine wpAnyH_take (i := 1) (oi := ⟨some 29, .move (.tmp 5), 24, "laws.go:1076", #[], none⟩) (v := ?v2) rfl (by kernel_rfl) (by kernel_rfl) (by kernel_rfl) (fun _ _ _ h => h) (Or.inl ⟨by rfl, ?hy2⟩) (by assumption) ?r2
  case hy2 => (intro w hSw; (try dsimp only at hSw); go_simp; try with_reducible rfl)
  try simp only [Act.put, List.setIfInBounds_toArray, List.set_cons_zero, List.set_cons_succ]
  refine wpAnyH_take (i := 2) (oi := ⟨some 30, .binOp .geq 24 (.tmp 28) (.tmp 29) 24, 4, "laws.go:1076", #[⟨0, .data⟩, ⟨1, .data⟩], none⟩) (v := ?v3) rfl (by kernel_rfl) (by kernel_rfl) (by kernel_rfl) (fun _ _ _ h => h) (Or.inl ⟨by rfl, ?hy3⟩) (by assumption) ?r3
  case hy3 => (intro w hSw; (try dsimp only at hSw); go_simp; try with_reducible rfl)
  try simp only [Act.put, List.setIfInBounds_toArray, List.set_cons_zero, List.set_cons_succ]
  refine wpAnyH_take (i := 3) (oi := ⟨some 31, .move (.tmp 30), 4, "laws.go:1076", #[⟨2, .data⟩], none⟩) (v := ?v4) rfl (by kernel_rfl) (by kernel_rfl) (by kernel_rfl) (fun _ _ _ h => h) (Or.inl ⟨by rfl, ?hy4⟩) (by assumption) ?r4
  case hy4 => (intro w hSw; (try dsimp only at hSw); go_simp; try with_reducible rfl)
  try simp only [Act.put, List.setIfInBounds_toArray, List.set_cons_zero, List.set_cons_succ]
  refine wpAnyH_take (i := 4) (oi := ⟨some 32, .move (.tmp 3), 24, "laws.go:1076", #[⟨3, .guard⟩], some (3, false)⟩) (v := ?v5) rfl (by kernel_rfl) (by kernel_rfl) (by kernel_rfl) (fun _ _ _ h => h) (Or.inl ⟨by rfl, ?hy5⟩) (by assumption) ?r5
  case hy5 => (intro w hSw; (try dsimp only at hSw); go_simp; try with_reducible rfl)
  try simp only [Act.put, List.setIfInBounds_toArray, List.set_cons_zero, List.set_cons_succ]
  refine wpAnyH_take (i := 5) (oi := ⟨some 33, .move (.tmp 5), 24, "laws.go:1076", #[⟨3, .guard⟩], some (3, false)⟩) (v := ?v6) rfl (by kernel_rfl) (by kernel_rfl) (by kernel_rfl) (fun _ _ _ h => h) (Or.inl ⟨by rfl, ?hy6⟩) (by assumption) ?r6
  case hy6 => (intro w hSw; (try dsimp only at hSw); go_simp; try with_reducible rfl)
  try simp only [Act.put, List.setIfInBounds_toArray, List.set_cons_zero, List.set_cons_succ]
  refine wpAnyH_take (i := 7) (oi := ⟨some 35, .move (.tmp 5), 24, "laws.go:1076", #[⟨3, .guard⟩], some (3, false)⟩) (v := ?v7) rfl (by kernel_rfl) (by kernel_rfl) (by kernel_rfl) (fun _ _ _ h => h) (Or.inl ⟨by rfl, ?hy7⟩) (by assumption) ?r7
  case hy7 => (intro w hSw; (try dsimp only at hSw); go_simp; try with_reducible rfl)
  try simp only [Act.put, List.setIfInBounds_toArray, List.set_cons_zero, List.set_cons_succ]
  refine wpAnyH_take (i := 8) (oi := ⟨some 36, .binOp .rem 24 (.const (.int .u64 1)) (.tmp 35) 24, 24, "laws.go:1076", #[⟨7, .data⟩, ⟨3, .guard⟩], some (3, false)⟩) (v := ?v8) rfl (by kernel_rfl) (by kernel_rfl) (by kernel_rfl) (fun _ _ _ h => h) (Or.inl ⟨by rfl, ?hy8⟩) (by assumption) ?r8
  case hy8 => (intro w hSw; (try dsimp only at hSw); go_simp; try with_reducible rfl)
  try simp only [Act.put, List.setIfInBounds_toArray, List.set_cons_zero, List.set_cons_succ]
  refine wpAnyH_ready (rs := [6]) (by kernel_rfl) (by simp) ?_
  refine AllReadyH.cons (o := ⟨some 34, .call { callee := .value (.func 6), args := #[.tmp 32, .const (.int .u64 0), .tmp 33], argTypes := #[24, 24, 24] }, 24, "laws.go:1076", #[⟨4, .data⟩, ⟨5, .data⟩, ⟨3, .chain⟩, ⟨3, .guard⟩], some (3, false)⟩) rfl (fun K hK => ?_) AllReadyH.nil
  go_simp
  go_at_call 6
  refine (c0 _).mono ?_
  rintro e w3 ⟨rfl, hl⟩
  have B3 := (B2.drew).trans (hl.mono (B2.drew).size)
  clear hl
  try go_wp2_with fail
  refine hK.out _ _ (trivial) (fun hHeld => ?_)
  clear hK K
  try simp only [Act.put, List.setIfInBounds_toArray, List.set_cons_zero, List.set_cons_succ]
  refine wpAnyH_take (i := 9) (oi := ⟨some 37, .binOp .neq 24 (.tmp 34) (.tmp 36) 24, 4, "laws.go:1076", #[⟨6, .data⟩, ⟨8, .data⟩, ⟨3, .guard⟩], some (3, false)⟩) (v := ?v9) rfl (by kernel_rfl) (by kernel_rfl) (by kernel_rfl) (fun _ _ _ h => h) (Or.inl ⟨by rfl, ?hy9⟩) (by assumption) ?r9
  case hy9 => (intro w hSw; (try dsimp only at hSw); go_simp; try with_reducible rfl)
  try simp only [Act.put, List.setIfInBounds_toArray, List.set_cons_zero, List.set_cons_succ]
  refine wpAnyH_take (i := 10) (oi := ⟨some 38, .pick (.tmp 31) (.const (.bool true)) (.tmp 37), 4, "laws.go:1076", #[⟨3, .data⟩, ⟨9, .data⟩], none⟩) (v := ?v10) rfl (by kernel_rfl) (by kernel_rfl) (by kernel_rfl) (fun _ _ _ h => h) (Or.inl ⟨by rfl, ?hy10⟩) (by assumption) ?r10
  case hy10 => (intro w hSw; (try dsimp only at hSw); go_simp; try with_reducible rfl)
  try simp only [Act.put, List.setIfInBounds_toArray, List.set_cons_zero, List.set_cons_succ]
  refine wpAnyH_take (i := 11) (oi := ⟨some 39, .move (.tmp 38), 4, "laws.go:1076", #[⟨10, .data⟩, ⟨6, .chain⟩], none⟩) (v := ?v11) rfl (by kernel_rfl) (by kernel_rfl) (by kernel_rfl) (fun _ _ _ h => h) (Or.inl ⟨by rfl, ?hy11⟩) (by assumption) ?r11
  case hy11 => (intro w hSw; (try dsimp only at hSw); go_simp; try with_reducible rfl)
  try simp only [Act.put, List.setIfInBounds_toArray, List.set_cons_zero, List.set_cons_succ]
  refine wpAnyH_take (i := 12) (oi := ⟨some 40, .move (.tmp 3), 24, "laws.go:1076", #[⟨11, .guard⟩], some (11, false)⟩) (v := ?v12) rfl (by kernel_rfl) (by kernel_rfl) (by kernel_rfl) (fun _ _ _ h => h) (Or.inl ⟨by rfl, ?hy12⟩) (by assumption) ?r12
  case hy12 => (intro w hSw; (try dsimp only at hSw); go_simp; try with_reducible rfl)
  try simp only [Act.put, List.setIfInBounds_toArray, List.set_cons_zero, List.set_cons_succ]
  refine wpAnyH_take (i := 13) (oi := ⟨some 41, .move (.tmp 5), 24, "laws.go:1076", #[⟨11, .guard⟩], some (11, false)⟩) (v := ?v13) rfl (by kernel_rfl) (by kernel_rfl) (by kernel_rfl) (fun _ _ _ h => h) (Or.inl ⟨by rfl, ?hy13⟩) (by assumption) ?r13
  case hy13 => (intro w hSw; (try dsimp only at hSw); go_simp; try with_reducible rfl)
  try simp only [Act.put, List.setIfInBounds_toArray, List.set_cons_zero, List.set_cons_succ]
  refine wpAnyH_take (i := 15) (oi := ⟨some 43, .move (.tmp 3), 24, "laws.go:1076", #[⟨11, .guard⟩], some (11, false)⟩) (v := ?v14) rfl (by kernel_rfl) (by kernel_rfl) (by kernel_rfl) (fun _ _ _ h => h) (Or.inl ⟨by rfl, ?hy14⟩) (by assumption) ?r14
  case hy14 => (intro w hSw; (try dsimp only at hSw); go_simp; try with_reducible rfl)
  try simp only [Act.put, List.setIfInBounds_toArray, List.set_cons_zero, List.set_cons_succ]
  refine wpAnyH_take (i := 16) (oi := ⟨some 44, .move (.tmp 5), 24, "laws.go:1076", #[⟨11, .guard⟩], some (11, false)⟩) (v := ?v15) rfl (by kernel_rfl) (by kernel_rfl) (by kernel_rfl) (fun _ _ _ h => h) (Or.inl ⟨by rfl, ?hy15⟩) (by assumption) ?r15
  case hy15 => (intro w hSw; (try dsimp only at hSw); go_simp; try with_reducible rfl)
  try simp only [Act.put, List.setIfInBounds_toArray, List.set_cons_zero, List.set_cons_succ]
  refine wpAnyH_take (i := 17) (oi := ⟨some 45, .binOp .rem 24 (.tmp 43) (.tmp 44) 24, 24, "laws.go:1076", #[⟨15, .data⟩, ⟨16, .data⟩, ⟨11, .guard⟩], some (11, false)⟩) (v := ?v16) rfl (by kernel_rfl) (by kernel_rfl) (by kernel_rfl) (fun _ _ _ h => h) (Or.inl ⟨by rfl, ?hy16⟩) (by assumption) ?r16
  case hy16 => (intro w hSw; (try dsimp only at hSw); go_simp; try with_reducible rfl)
  try simp only [Act.put, List.setIfInBounds_toArray, List.set_cons_zero, List.set_cons_succ]
  refine wpAnyH_ready (rs := [14]) (by kernel_rfl) (by simp) ?_
  refine AllReadyH.cons (o := ⟨some 42, .call { callee := .value (.func 6), args := #[.tmp 40, .const (.int .u64 1), .tmp 41], argTypes := #[24, 24, 24] }, 24, "laws.go:1076", #[⟨12, .data⟩, ⟨13, .data⟩, ⟨11, .chain⟩, ⟨11, .guard⟩], some (11, false)⟩) rfl (fun K hK => ?_) AllReadyH.nil
  go_simp
  go_at_call 6
  refine (c1 _).mono ?_
  rintro e w4 ⟨rfl, hl⟩
  have B4 := (B3).trans (hl.mono (B3).size)
  clear hl
  try go_wp2_with fail
  refine hK.out _ _ (trivial) (fun hHeld => ?_)
  clear hK K
  try simp only [Act.put, List.setIfInBounds_toArray, List.set_cons_zero, List.set_cons_succ]
  refine wpAnyH_take (i := 18) (oi := ⟨some 46, .binOp .neq 24 (.tmp 42) (.tmp 45) 24, 4, "laws.go:1076", #[⟨14, .data⟩, ⟨17, .data⟩, ⟨11, .guard⟩], some (11, false)⟩) (v := ?v17) rfl (by kernel_rfl) (by kernel_rfl) (by kernel_rfl) (fun _ _ _ h => h) (Or.inl ⟨by rfl, ?hy17⟩) (by assumption) ?r17
  case hy17 => (intro w hSw; (try dsimp only at hSw); go_simp; try with_reducible rfl)
  try simp only [Act.put, List.setIfInBounds_toArray, List.set_cons_zero, List.set_cons_succ]
  refine wpAnyH_take (i := 19) (oi := ⟨some 47, .pick (.tmp 39) (.const (.bool true)) (.tmp 46), 4, "laws.go:1076", #[⟨11, .data⟩, ⟨18, .data⟩], none⟩) (v := ?v18) rfl (by kernel_rfl) (by kernel_rfl) (by kernel_rfl) (fun _ _ _ h => h) (Or.inl ⟨by rfl, ?hy18⟩) (by assumption) ?r18
  case hy18 => (intro w hSw; (try dsimp only at hSw); go_simp; try with_reducible rfl)
  try simp only [Act.put, List.setIfInBounds_toArray, List.set_cons_zero, List.set_cons_succ]
  refine wpAnyH_done (by kernel_rfl) ?_ _
  clear B2 B3
  go_wp2_with (first
    | (go_at_call 6; refine (ch _).mono ?_; rintro e w5 ⟨rfl, hl⟩; have B5 := B4.trans (hl.mono B4.size); clear hl; refine Hid.out ?_)
    | go_in)
  refine Lib.hid ?_
  clear B4
  by_cases hev : n' % 2 = 0
  · have hev' : (n' : Int) % 2 = 0 := by omega
    have he := HEV.out hev
    subst he
    clear HOD HEV hev
    go_wp2_with (first
      | (go_at_call 6; refine (cs _).mono ?_; rintro e w6 ⟨rfl, hl⟩; have B6 := B5.trans (hl.mono B5.size); clear hl)
      | go_in)
    go_ret
    exact ⟨rfl, B6⟩
  have hev' : (n' : Int) % 2 = 1 := by omega
  have hod : n' % 2 = 1 := by omega
  by_cases hml : m ≤ 4294967296
  · have hml' : ¬ (4294967296 : Int) < (m : Int) := by omega
    have he := HOD.out hod hml
    have HE : Hid (IntKind.u64.wrap ((s2 : Int) * ((x : Int) % (m : Int))) % (m : Int) = (y : Int)) := he
    clear he HOD HEV hev hml hod
    generalize hMM : (m : Int) = MM at *
    have hzM : ¬ MM = 0 := by omega
    go_wp2_with fail
    refine wp_region_held_drew (S := (fun _ => True)) (by kernel_rfl) (trivial) (fun hHeld => ?_)
    refine wpAnyH_take (i := 0) (oi := ⟨some 68, .move (.tmp 7), 24, "laws.go:1086", #[], none⟩) (v := ?v19) rfl (by kernel_rfl) (by kernel_rfl) (by kernel_rfl) (fun _ _ _ h => h) (Or.inl ⟨by rfl, ?hy19⟩) (by assumption) ?r19
    case hy19 => (intro w hSw; (try dsimp only at hSw); go_simp; try with_reducible rfl)
    try simp only [Act.put, List.setIfInBounds_toArray, List.set_cons_zero, List.set_cons_succ]
    refine wpAnyH_take (i := 1) (oi := ⟨some 69, .move (.tmp 5), 24, "laws.go:1086", #[], none⟩) (v := ?v20) rfl (by kernel_rfl) (by kernel_rfl) (by kernel_rfl) (fun _ _ _ h => h) (Or.inl ⟨by rfl, ?hy20⟩) (by assumption) ?r20
    case hy20 => (intro w hSw; (try dsimp only at hSw); go_simp; try with_reducible rfl)
    try simp only [Act.put, List.setIfInBounds_toArray, List.set_cons_zero, List.set_cons_succ]
    refine wpAnyH_take (i := 3) (oi := ⟨some 71, .move (.tmp 3), 24, "laws.go:1086", #[], none⟩) (v := ?v21) rfl (by kernel_rfl) (by kernel_rfl) (by kernel_rfl) (fun _ _ _ h => h) (Or.inl ⟨by rfl, ?hy21⟩) (by assumption) ?r21
    case hy21 => (intro w hSw; (try dsimp only at hSw); go_simp; try with_reducible rfl)
    try simp only [Act.put, List.setIfInBounds_toArray, List.set_cons_zero, List.set_cons_succ]
    refine wpAnyH_take (i := 4) (oi := ⟨some 72, .move (.tmp 5), 24, "laws.go:1086", #[], none⟩) (v := ?v22) rfl (by kernel_rfl) (by kernel_rfl) (by kernel_rfl) (fun _ _ _ h => h) (Or.inl ⟨by rfl, ?hy22⟩) (by assumption) ?r22
    case hy22 => (intro w hSw; (try dsimp only at hSw); go_simp; try with_reducible rfl)
    try simp only [Act.put, List.setIfInBounds_toArray, List.set_cons_zero, List.set_cons_succ]
    refine wpAnyH_take (i := 5) (oi := ⟨some 73, .binOp .rem 24 (.tmp 71) (.tmp 72) 24, 24, "laws.go:1086", #[⟨3, .data⟩, ⟨4, .data⟩], none⟩) (v := ?v23) rfl (by kernel_rfl) (by kernel_rfl) (by kernel_rfl) (fun _ _ _ h => h) (Or.inl ⟨by rfl, ?hy23⟩) (by assumption) ?r23
    case hy23 => (intro w hSw; (try dsimp only at hSw); go_simp; try with_reducible rfl)
    try simp only [Act.put, List.setIfInBounds_toArray, List.set_cons_zero, List.set_cons_succ]
    refine wpAnyH_take (i := 7) (oi := ⟨some 75, .move (.tmp 5), 24, "laws.go:1086", #[], none⟩) (v := ?v24) rfl (by kernel_rfl) (by kernel_rfl) (by kernel_rfl) (fun _ _ _ h => h) (Or.inl ⟨by rfl, ?hy24⟩) (by assumption) ?r24
    case hy24 => (intro w hSw; (try dsimp only at hSw); go_simp; try with_reducible rfl)
    try simp only [Act.put, List.setIfInBounds_toArray, List.set_cons_zero, List.set_cons_succ]
    refine wpAnyH_take (i := 9) (oi := ⟨some 77, .move (.tmp 6), 24, "laws.go:1086", #[], none⟩) (v := ?v25) rfl (by kernel_rfl) (by kernel_rfl) (by kernel_rfl) (fun _ _ _ h => h) (Or.inl ⟨by rfl, ?hy25⟩) (by assumption) ?r25
    case hy25 => (intro w hSw; (try dsimp only at hSw); go_simp; try with_reducible rfl)
    try simp only [Act.put, List.setIfInBounds_toArray, List.set_cons_zero, List.set_cons_succ]
    refine wpAnyH_ready (rs := [2]) (by kernel_rfl) (by simp) ?_
    refine AllReadyH.cons (o := ⟨some 70, .call { callee := .value (.func 6), args := #[.tmp 68, .const (.int .u64 2), .tmp 69], argTypes := #[24, 24, 24] }, 24, "laws.go:1086", #[⟨0, .data⟩, ⟨1, .data⟩], none⟩) rfl (fun K hK => ?_) AllReadyH.nil
    go_simp
    go_at_call 6
    refine (cs _).mono ?_
    rintro e w6 ⟨rfl, hl⟩
    have B6 := (B5.drew).trans (hl.mono (B5.drew).size)
    clear hl
    try go_wp2_with fail
    refine hK.out _ _ (trivial) (fun hHeld => ?_)
    clear hK K
    try simp only [Act.put, List.setIfInBounds_toArray, List.set_cons_zero, List.set_cons_succ]
    refine wpAnyH_take (i := 6) (oi := ⟨some 74, .binOp .mul 24 (.tmp 70) (.tmp 73) 24, 24, "laws.go:1086", #[⟨2, .data⟩, ⟨5, .data⟩], none⟩) (v := ?v26) rfl (by kernel_rfl) (by kernel_rfl) (by kernel_rfl) (fun _ _ _ h => h) (Or.inl ⟨by rfl, ?hy26⟩) (by assumption) ?r26
    case hy26 => (intro w hSw; (try dsimp only at hSw); go_simp; try with_reducible rfl)
    try simp only [Act.put, List.setIfInBounds_toArray, List.set_cons_zero, List.set_cons_succ]
    refine wpAnyH_take (i := 8) (oi := ⟨some 76, .binOp .rem 24 (.tmp 74) (.tmp 75) 24, 24, "laws.go:1086", #[⟨6, .data⟩, ⟨7, .data⟩], none⟩) (v := ?v27) rfl (by kernel_rfl) (by kernel_rfl) (by kernel_rfl) (fun _ _ _ h => h) (Or.inl ⟨by rfl, ?hy27⟩) (by assumption) ?r27
    case hy27 => (intro w hSw; (try dsimp only at hSw); go_simp; try with_reducible rfl)
    try simp only [Act.put, List.setIfInBounds_toArray, List.set_cons_zero, List.set_cons_succ]
    refine wpAnyH_take (i := 10) (oi := ⟨some 78, .binOp .eql 24 (.tmp 76) (.tmp 77) 24, 4, "laws.go:1086", #[⟨8, .data⟩, ⟨9, .data⟩], none⟩) (v := ?v28) rfl (by kernel_rfl) (by kernel_rfl) (by kernel_rfl) (fun _ _ _ h => h) (Or.inl ⟨by rfl, ?hy28⟩) (by assumption) ?r28
    case hy28 => (intro w hSw; (try dsimp only at hSw); go_simp; try with_reducible rfl)
    try simp only [Act.put, List.setIfInBounds_toArray, List.set_cons_zero, List.set_cons_succ]
    refine wpAnyH_take (i := 11) (oi := ⟨some 2, .assign (.tmp 78), 4, "laws.go:1086", #[⟨10, .data⟩, ⟨2, .chain⟩, ⟨0, .phase⟩, ⟨1, .phase⟩, ⟨2, .phase⟩, ⟨3, .phase⟩, ⟨4, .phase⟩, ⟨5, .phase⟩, ⟨6, .phase⟩, ⟨7, .phase⟩, ⟨8, .phase⟩, ⟨9, .phase⟩, ⟨10, .phase⟩], none⟩) (v := ?v29) rfl (by kernel_rfl) (by kernel_rfl) (by kernel_rfl) (fun _ _ _ h => h) (Or.inl ⟨by rfl, ?hy29⟩) (by assumption) ?r29
    case hy29 => (intro w hSw; (try dsimp only at hSw); go_simp; try with_reducible rfl)
    try simp only [Act.put, List.setIfInBounds_toArray, List.set_cons_zero, List.set_cons_succ]
    refine wpAnyH_done (by kernel_rfl) ?_ _
    go_wp2_with fail
    go_ret
    exact ⟨ret_bool (by rw [Int.tmod_eq_emod_of_nonneg (by rw [IntKind.wrap_u64]; exact Int.emod_nonneg _ (by omega)), HE.out]; simp), B6⟩
  · have hml' : (4294967296 : Int) < (m : Int) := by omega
    clear HOD HEV hev hml hod
    generalize hMM : (m : Int) = MM at *
    go_wp2_with (first
      | (go_at_call 6; refine (ct _).mono ?_; rintro e w6 ⟨rfl, hl⟩; have B6 := B5.trans (hl.mono B5.size); clear hl)
      | go_in)
    go_ret
    exact ⟨rfl, B6⟩

end Go.Proofs.Ytghhogbhenlaoaa.sg
