import Derived.Test.YtheponigjofknaaDoorSB
namespace Go.Proofs.YtheponigjofknaaDoor.sg
open Go.ChangeShapes Go.WideShapes Go.ChangeAt Go.RowKit Go.Deep
set_option linter.unusedVariables false

/-- A product in two words. -/
def hiP (x y : Nat) : Nat := x * y / 18446744073709551616
def loP (x y : Nat) : Nat := x * y % 18446744073709551616

theorem hiP_lt {x y : Nat} (hx : x < 18446744073709551616) (hy : y < 18446744073709551616) : hiP x y < 18446744073709551616 := by
  unfold hiP
  rw [Nat.div_lt_iff_lt_mul (by omega)]
  exact Nat.lt_of_le_of_lt (Nat.mul_le_mul_left x (Nat.le_of_lt hy)) (Nat.mul_lt_mul_of_pos_right hx (by omega))

theorem loP_lt {x y : Nat} : loP x y < 18446744073709551616 := Nat.mod_lt _ (by omega)

theorem both {x y m : Nat} : (hiP x y * 18446744073709551616 + loP x y) % m = mm x y m := by
  unfold hiP loP
  rw [Nat.mul_comm (x * y / 18446744073709551616), Nat.div_add_mod]
  rfl

theorem ret_cell2 {fn : Func} {i : Tmp} (hf : fn.results = #[.cell i 91]) {tmps : Array Value} {W : World} {b : Nat} {v0 v1 : Value} {R : Ending → World → Prop} (h4 : tmps.getD i undef = .pointer (some ⟨b, 0, none⟩))
    (k0 : W.cell? ⟨b, 0, none⟩ = some v0) (k1 : W.cell? ⟨b, 1, none⟩ = some v1) (hR : R (.returned (.agg #[v0, v1])) W) :
    bodyPost Tryd.prog fn R Exit.ret { tmps := tmps, defers := [] } W := by
  have h4' : tmps[i]?.getD undef = .pointer (some ⟨b, 0, none⟩) := by simpa using h4
  exact bodyPost_ret (v := .agg #[v0, v1]) (by simp [results, hf, go_sem, h4', k0, k1]) rfl hR

theorem new2 (w : World) (u v : Value) (t : TypeId) : (w.alloc (.cells #[u, v] t)).cell? ⟨w.heap.size, 0, none⟩ = some u ∧ (w.alloc (.cells #[u, v] t)).cell? ⟨w.heap.size, 1, none⟩ = some v := by
  constructor <;> simp

theorem product_any (x y : Nat) (hx : x < 18446744073709551616) (hy : y < 18446744073709551616) (w : World) :
    Calls Tryd.prog 74 #[.int .u64 (x : Int), .int .u64 (y : Int)] w fun e w' => e = .returned (.agg #[.int .u64 ((hiP x y : Nat) : Int), .int .u64 ((loP x y : Nat) : Int)]) ∧ Below w.heap.size w w' := by
  go_enter Tryd.func74, Tryd.ntmps74
  have c1 : ∀ w, Calls Tryd.prog 92 #[.int .u64 (x : Int), .int .u64 (y : Int)] w fun e w' => e = .returned (.tuple #[.int .u64 ((hiP x y : Nat) : Int), .int .u64 ((loP x y : Nat) : Int)]) ∧ w' = w := fun w => mul64_any x y hx hy w
  clear hx hy
  go_wp2_with (first
    | (go_at_call 92; refine (c1 _).mono ?_; rintro e w' ⟨rfl, rfl⟩)
    | go_in)
  obtain ⟨k0, k1⟩ := new2 w (.int .u64 ((hiP x y : Nat) : Int)) (.int .u64 ((loP x y : Nat) : Int)) 91
  exact ret_cell2 Tryd.results74 rfl k0 k1 ⟨rfl, (Below.refl _ _).alloc (Nat.le_refl _) _⟩

theorem rest_any (x y m : Nat) (hx : x < 18446744073709551616) (hy : y < 18446744073709551616) (hm0 : 0 < m) (hm : m < 18446744073709551616) (w : World) :
    Calls Tryd.prog 75 #[.agg #[.int .u64 ((hiP x y : Nat) : Int), .int .u64 ((loP x y : Nat) : Int)], .int .u64 (m : Int)] w fun e w' => e = .returned (.int .u64 ((mm x y m : Nat) : Int)) ∧ Below w.heap.size w w' := by
  have c1 := fun w => rem64_any (hiP x y) (loP x y) m (hiP_lt hx hy) loP_lt hm0 hm w
  rw [both] at c1
  clear hx hy hm0 hm
  go_enter Tryd.func75, Tryd.ntmps75
  go_wp2_with (first
    | (go_at_call 93; refine (c1 _).mono ?_; rintro e w' ⟨rfl, hb⟩)
    | go_in)
  go_ret
  exact ⟨rfl, ((Below.refl _ _).alloc (Nat.le_refl _) _).trans (hb.mono (by simp))⟩

/-- Where the loop over bits stands. -/
structure Pw (x n m k p q : Nat) : Prop where
  lp : p < m
  lq : q < m
  ep : p = x ^ (n % 2 ^ k) % m
  eq : q = x ^ 2 ^ k % m

theorem Pw.start {x n m : Nat} (hm : 0 < m) : Pw x n m 0 (1 % m) (x % m) := ⟨Nat.mod_lt _ hm, Nat.mod_lt _ hm, by simp [Nat.mod_one], by simp⟩

theorem Pw.one {x n m k p q : Nat} (h : Pw x n m k p q) (hm : 0 < m) (hb : n / 2 ^ k % 2 = 1) : Pw x n m (k + 1) (mm p q m) (mm q q m) :=
  ⟨mm_lt hm, mm_lt hm, by unfold mm; rw [h.ep, h.eq]; exact mul_step hb, by unfold mm; rw [h.eq]; exact sq_step x k m⟩

theorem Pw.zero {x n m k p q : Nat} (h : Pw x n m k p q) (hm : 0 < m) (hb : n / 2 ^ k % 2 = 0) : Pw x n m (k + 1) p (mm q q m) :=
  ⟨h.lp, mm_lt hm, by rw [bit_zero hb]; exact h.ep, by unfold mm; rw [h.eq]; exact sq_step x k m⟩

theorem Pw.done {x n m k p q : Nat} (h : Pw x n m k p q) (hn : n < 2 ^ k) : p = pm x n m := by
  have e := h.ep
  rw [Nat.mod_eq_of_lt hn] at e
  by_cases h2 : m < 2
  · rw [pm_small h2]
    have := h.lp
    omega
  · rw [pm_big (by omega), e]

theorem andOne (a : Nat) (ha : a < 18446744073709551616) : bits .and .u64 (a : Int) 1 = ((a % 2 : Nat) : Int) := by
  have h := bits_and_u64_nat a 1 ha (by omega)
  have e : a &&& 1 = a % 2 := Nat.and_two_pow_sub_one_eq_mod a 1
  rw [e] at h
  exact h

set_option maxHeartbeats 1000000 in
theorem ipow_any (x n m : Nat) (hx : x < 18446744073709551616) (hn : n < 18446744073709551616) (hm : m < 18446744073709551616) (w : World) :
    Calls Tryd.prog 54 #[.int .u64 (x : Int), .int .u64 (n : Int), .int .u64 (m : Int)] w fun e w' => e = .returned (.int .u64 ((pm x n m : Nat) : Int)) ∧ Below w.heap.size w w' := by
  go_enter Tryd.func54, Tryd.ntmps54
  by_cases h0 : m = 0
  · have e : pm x n m = 0 := pm_small (by omega)
    rw [e]
    subst h0
    go_wp2
    go_ret
    exact ⟨rfl, Below.refl _ _⟩
  have hm0 : 0 < m := by omega
  have hz : ((m : Int) == 0) = false := by simp; omega
  obtain ⟨L, hL⟩ : ∃ L, L = Lib.bitLen n := ⟨_, rfl⟩
  have c1 := fun w => len64_any n hn w
  rw [← hL] at c1
  have hL64 : L ≤ 64 := by rw [hL]; exact bitLen_le64 n hn
  have hLn : n < 2 ^ L := by rw [hL]; exact bitLen_lt n hn
  have HP0 : Pw x n m 0 (1 % m) (x % m) := Pw.start hm0
  have HLn : Hid (n < 2 ^ L) := hLn
  obtain ⟨p0, hp0⟩ : ∃ p0, p0 = 1 % m := ⟨_, rfl⟩
  obtain ⟨q0, hq0⟩ : ∃ q0, q0 = x % m := ⟨_, rfl⟩
  rw [← hp0, ← hq0] at HP0
  have e1 : (1 : Int) % (m : Int) = (p0 : Int) := by rw [hp0, Int.natCast_emod]; rfl
  have e2 : (x : Int) % (m : Int) = (q0 : Int) := by rw [hq0, Int.natCast_emod]
  have HX : Hid (x < 18446744073709551616) := hx
  have HNB : Hid (n < 18446744073709551616) := hn
  have HM : Hid (m < 18446744073709551616) := hm
  have HL : Hid (L ≤ 64) := hL64
  clear hx hn hm hL hL64 hLn hp0 hq0
  go_wp2
  go_quiet (fail)
  go_wp2_with (first
    | (go_at_call 73; refine (c1 _).mono ?_; rintro e w' ⟨rfl, rfl⟩)
    | go_in)
  go_loopw [7, 8, 9, 19] (fun a b _ i wr => ∃ k p q : Nat, k ≤ L ∧ i = .int .i64 (k : Int) ∧ a = .int .u64 (p : Int) ∧ b = .int .u64 (q : Int) ∧ Pw x n m k p q ∧ Below w.heap.size w wr) (fun _ _ _ i _ => L - (intOf i).toNat)
  case atStart =>
    refine ⟨0, p0, q0, Nat.zero_le _, rfl, ?_, ?_, HP0, Go.below_drewN (Below.refl _ _) _⟩
    · rw [← e1]
    · rw [← e2]
  case round =>
    obtain ⟨k, p, q, hk, rfl, rfl, rfl, HP, hB⟩ := hrel
    by_cases hlt : k < L
    · obtain ⟨z, hz1⟩ : ∃ z, z = n / 2 ^ k := ⟨_, rfl⟩
      have e3 : (n : Int) / 2 ^ k = (z : Int) := by rw [hz1, Int.natCast_ediv, Int.natCast_pow]; rfl
      have e4 : min k 64 = k := by have := HL.out; omega
      have hzl : z < 18446744073709551616 := by rw [hz1]; exact Nat.lt_of_le_of_lt (Nat.div_le_self _ _) HNB.out
      have e5 := andOne z hzl
      have bp : p < 18446744073709551616 := Nat.lt_trans HP.lp HM.out
      have bq : q < 18446744073709551616 := Nat.lt_trans HP.lq HM.out
      have c2 := fun w => product_any q q bq bq w
      have c3 := fun w => rest_any q q m bq bq hm0 HM.out w
      by_cases h1 : z % 2 = 1
      · rw [h1] at e5
        have c4 := fun w => product_any p q bp bq w
        have c5 := fun w => rest_any p q m bp bq hm0 HM.out w
        have HN1 : Pw x n m (k + 1) (mm p q m) (mm q q m) := HP.one hm0 (by rw [← hz1]; exact h1)
        have F1 : Hid True := trivial
        have F2 : Hid True := trivial
        clear hz1 hzl bp bq h1
        go_wp2_with (first
          | (go_at_call 74; have := F1.out; refine (c4 _).mono ?_; rintro e w1 ⟨rfl, hb⟩; replace hB := hB.trans (hb.mono hB.size); clear hb F1)
          | (go_at_call 75; have := F2.out; refine (c5 _).mono ?_; rintro e w1 ⟨rfl, hb⟩; replace hB := hB.trans (hb.mono hB.size); clear hb F2)
          | (go_at_call 74; refine (c2 _).mono ?_; rintro e w1 ⟨rfl, hb⟩; replace hB := hB.trans (hb.mono hB.size); clear hb)
          | (go_at_call 75; refine (c3 _).mono ?_; rintro e w1 ⟨rfl, hb⟩; replace hB := hB.trans (hb.mono hB.size); clear hb)
          | go_in)
        go_roundw
        case rel => exact ⟨k + 1, mm p q m, mm q q m, hlt, by go_num, rfl, rfl, HN1, hB⟩
        case measure => simp [intOf]; omega
      · have h1' : z % 2 = 0 := by omega
        rw [h1'] at e5
        have HN1 : Pw x n m (k + 1) p (mm q q m) := HP.zero hm0 (by rw [← hz1]; exact h1')
        clear hz1 hzl bp bq h1 h1'
        go_wp2_with (first
          | (go_at_call 74; refine (c2 _).mono ?_; rintro e w1 ⟨rfl, hb⟩; replace hB := hB.trans (hb.mono hB.size); clear hb)
          | (go_at_call 75; refine (c3 _).mono ?_; rintro e w1 ⟨rfl, hb⟩; replace hB := hB.trans (hb.mono hB.size); clear hb)
          | go_in)
        go_roundw
        case rel => exact ⟨k + 1, p, mm q q m, hlt, by go_num, rfl, rfl, HN1, hB⟩
        case measure => simp [intOf]; omega
    · obtain rfl : k = L := by omega
      have hd := HP.done HLn.out
      go_wp2
      go_ret
      exact ⟨ret_int (by rw [hd]), hB⟩

end Go.Proofs.YtheponigjofknaaDoor.sg
