import Derived.Test.YtkmhaemcpakobaaGreatDoorG01
import Derived.Test.YtkmhaemcpakobaaGreatDoorRows
import Derived.Deep.QuietTactic
import Derived.BigQuiet
import Derived.Deep.RegionHeld3
import Derived.Lib.Hide
import Derived.Laws.Closers25b
import Derived.Maps.Own
import Derived.Maps.OwnOps
import Derived.Maps.OwnSet
import Derived.Maps.Views
namespace Go.Proofs.YtkmhaemcpakobaaGreatDoor.sg
open Go.ChangeShapes Go.WideShapes Go.ChangeAt Go.RowKit Go.Deep
set_option linter.unusedVariables false

/-- A product in two words. -/
def hiP (x y : Nat) : Nat := x * y / 18446744073709551616
def loP (x y : Nat) : Nat := x * y % 18446744073709551616

theorem hiP_lt {x y : Nat} (hx : x < 18446744073709551616) (hy : y < 18446744073709551616) : hiP x y < 18446744073709551616 := by
  unfold hiP
  rw [Nat.div_lt_iff_lt_mul (by omega)]
  exact Nat.lt_of_le_of_lt (Nat.mul_le_mul_left x (Nat.le_of_lt hy)) (Nat.mul_lt_mul_of_pos_right hx (by omega))

theorem loP_lt {x y : Nat} : loP x y < 18446744073709551616 := Nat.mod_lt _ (by omega)

theorem both {x y m : Nat} : (hiP x y * 18446744073709551616 + loP x y) % m = mm x y m := by
  unfold hiP loP
  rw [Nat.mul_comm (x * y / 18446744073709551616), Nat.div_add_mod]
  rfl

theorem ret_cell2 {fn : Func} {i : Tmp} (hf : fn.results = #[.cell i 147]) {tmps : Array Value} {W : World} {b : Nat} {v0 v1 : Value} {R : Ending → World → Prop} (h4 : tmps.getD i undef = .pointer (some ⟨b, 0, none⟩))
    (k0 : W.cell? ⟨b, 0, none⟩ = some v0) (k1 : W.cell? ⟨b, 1, none⟩ = some v1) (hR : R (.returned (.agg #[v0, v1])) W) :
    bodyPost Tryz.prog fn R Exit.ret { tmps := tmps, defers := [] } W := by
  have h4' : tmps[i]?.getD undef = .pointer (some ⟨b, 0, none⟩) := by simpa using h4
  exact bodyPost_ret (v := .agg #[v0, v1]) (by simp [results, hf, go_sem, h4', k0, k1]) rfl hR

theorem new2 (w : World) (u v : Value) (t : TypeId) : (w.alloc (.cells #[u, v] t)).cell? ⟨w.heap.size, 0, none⟩ = some u ∧ (w.alloc (.cells #[u, v] t)).cell? ⟨w.heap.size, 1, none⟩ = some v := by
  constructor <;> simp

theorem product_any (x y : Nat) (hx : x < 18446744073709551616) (hy : y < 18446744073709551616) (w : World) :
    Calls Tryz.prog 120 #[.int .u64 (x : Int), .int .u64 (y : Int)] w fun e w' => e = .returned (.agg #[.int .u64 ((hiP x y : Nat) : Int), .int .u64 ((loP x y : Nat) : Int)]) ∧ Below w.heap.size w w' := by
  go_enter Tryz.func120, Tryz.ntmps120
  have c1 : ∀ w, Calls Tryz.prog 152 #[.int .u64 (x : Int), .int .u64 (y : Int)] w fun e w' => e = .returned (.tuple #[.int .u64 ((hiP x y : Nat) : Int), .int .u64 ((loP x y : Nat) : Int)]) ∧ w' = w := fun w => mul64_any x y hx hy w
  clear hx hy
  go_wp2_with (first
    | (go_at_call 152; refine (c1 _).mono ?_; rintro e w' ⟨rfl, rfl⟩)
    | go_in)
  obtain ⟨k0, k1⟩ := new2 w (.int .u64 ((hiP x y : Nat) : Int)) (.int .u64 ((loP x y : Nat) : Int)) 147
  exact ret_cell2 Tryz.results120 rfl k0 k1 ⟨rfl, (Below.refl _ _).alloc (Nat.le_refl _) _⟩

theorem rest_any (x y m : Nat) (hx : x < 18446744073709551616) (hy : y < 18446744073709551616) (hm0 : 0 < m) (hm : m < 18446744073709551616) (w : World) :
    Calls Tryz.prog 121 #[.agg #[.int .u64 ((hiP x y : Nat) : Int), .int .u64 ((loP x y : Nat) : Int)], .int .u64 (m : Int)] w fun e w' => e = .returned (.int .u64 ((mm x y m : Nat) : Int)) ∧ Below w.heap.size w w' := by
  have c1 := fun w => rem64_any (hiP x y) (loP x y) m (hiP_lt hx hy) loP_lt hm0 hm w
  rw [both] at c1
  clear hx hy hm0 hm
  go_enter Tryz.func121, Tryz.ntmps121
  go_wp2_with (first
    | (go_at_call 153; refine (c1 _).mono ?_; rintro e w' ⟨rfl, hb⟩)
    | go_in)
  go_ret
  exact ⟨rfl, ((Below.refl _ _).alloc (Nat.le_refl _) _).trans (hb.mono (by simp))⟩

/-- Where the loop over bits stands. -/
structure Pw (x n m k p q : Nat) : Prop where
  lp : p < m
  lq : q < m
  ep : p = x ^ (n % 2 ^ k) % m
  eq : q = x ^ 2 ^ k % m

theorem Pw.start {x n m : Nat} (hm : 0 < m) : Pw x n m 0 (1 % m) (x % m) := ⟨Nat.mod_lt _ hm, Nat.mod_lt _ hm, by simp [Nat.mod_one], by simp⟩

theorem Pw.one {x n m k p q : Nat} (h : Pw x n m k p q) (hm : 0 < m) (hb : n / 2 ^ k % 2 = 1) : Pw x n m (k + 1) (mm p q m) (mm q q m) :=
  ⟨mm_lt hm, mm_lt hm, by unfold mm; rw [h.ep, h.eq]; exact mul_step hb, by unfold mm; rw [h.eq]; exact sq_step x k m⟩

theorem Pw.zero {x n m k p q : Nat} (h : Pw x n m k p q) (hm : 0 < m) (hb : n / 2 ^ k % 2 = 0) : Pw x n m (k + 1) p (mm q q m) :=
  ⟨h.lp, mm_lt hm, by rw [bit_zero hb]; exact h.ep, by unfold mm; rw [h.eq]; exact sq_step x k m⟩

theorem Pw.done {x n m k p q : Nat} (h : Pw x n m k p q) (hn : n < 2 ^ k) : p = pm x n m := by
  have e := h.ep
  rw [Nat.mod_eq_of_lt hn] at e
  by_cases h2 : m < 2
  · rw [pm_small h2]
    have := h.lp
    omega
  · rw [pm_big (by omega), e]

theorem andOne (a : Nat) (ha : a < 18446744073709551616) : bits .and .u64 (a : Int) 1 = ((a % 2 : Nat) : Int) := by
  have h := bits_and_u64_nat a 1 ha (by omega)
  have e : a &&& 1 = a % 2 := Nat.and_two_pow_sub_one_eq_mod a 1
  rw [e] at h
  exact h

set_option maxHeartbeats 1000000 in
theorem ipow_any (x n m : Nat) (hx : x < 18446744073709551616) (hn : n < 18446744073709551616) (hm : m < 18446744073709551616) (w : World) :
    Calls Tryz.prog 97 #[.int .u64 (x : Int), .int .u64 (n : Int), .int .u64 (m : Int)] w fun e w' => e = .returned (.int .u64 ((pm x n m : Nat) : Int)) ∧ Below w.heap.size w w' := by
  go_enter Tryz.func97, Tryz.ntmps97
  by_cases h0 : m = 0
  · have e : pm x n m = 0 := pm_small (by omega)
    rw [e]
    subst h0
    go_wp2
    go_ret
    exact ⟨rfl, Below.refl _ _⟩
  have hm0 : 0 < m := by omega
  have hz : ((m : Int) == 0) = false := by simp; omega
  obtain ⟨L, hL⟩ : ∃ L, L = Lib.bitLen n := ⟨_, rfl⟩
  have c1 := fun w => len64_any n hn w
  rw [← hL] at c1
  have hL64 : L ≤ 64 := by rw [hL]; exact bitLen_le64 n hn
  have hLn : n < 2 ^ L := by rw [hL]; exact bitLen_lt n hn
  have HP0 : Pw x n m 0 (1 % m) (x % m) := Pw.start hm0
  have HLn : Hid (n < 2 ^ L) := hLn
  obtain ⟨p0, hp0⟩ : ∃ p0, p0 = 1 % m := ⟨_, rfl⟩
  obtain ⟨q0, hq0⟩ : ∃ q0, q0 = x % m := ⟨_, rfl⟩
  rw [← hp0, ← hq0] at HP0
  have e1 : (1 : Int) % (m : Int) = (p0 : Int) := by rw [hp0, Int.natCast_emod]; rfl
  have e2 : (x : Int) % (m : Int) = (q0 : Int) := by rw [hq0, Int.natCast_emod]
  have HX : Hid (x < 18446744073709551616) := hx
  have HNB : Hid (n < 18446744073709551616) := hn
  have HM : Hid (m < 18446744073709551616) := hm
  have HL : Hid (L ≤ 64) := hL64
  clear hx hn hm hL hL64 hLn hp0 hq0
  go_wp2
  go_quiet (fail)
  go_wp2_with (first
    | (go_at_call 119; refine (c1 _).mono ?_; rintro e w' ⟨rfl, rfl⟩)
    | go_in)
  go_loopw [7, 8, 9, 19] (fun a b _ i wr => ∃ k p q : Nat, k ≤ L ∧ i = .int .i64 (k : Int) ∧ a = .int .u64 (p : Int) ∧ b = .int .u64 (q : Int) ∧ Pw x n m k p q ∧ Below w.heap.size w wr) (fun _ _ _ i _ => L - (intOf i).toNat)
  case atStart =>
    refine ⟨0, p0, q0, Nat.zero_le _, rfl, ?_, ?_, HP0, Go.below_drewN (Below.refl _ _) _⟩
    · rw [← e1]
    · rw [← e2]
  case round =>
    obtain ⟨k, p, q, hk, rfl, rfl, rfl, HP, hB⟩ := hrel
    by_cases hlt : k < L
    · obtain ⟨z, hz1⟩ : ∃ z, z = n / 2 ^ k := ⟨_, rfl⟩
      have e3 : (n : Int) / 2 ^ k = (z : Int) := by rw [hz1, Int.natCast_ediv, Int.natCast_pow]; rfl
      have e4 : min k 64 = k := by have := HL.out; omega
      have hzl : z < 18446744073709551616 := by rw [hz1]; exact Nat.lt_of_le_of_lt (Nat.div_le_self _ _) HNB.out
      have e5 := andOne z hzl
      have bp : p < 18446744073709551616 := Nat.lt_trans HP.lp HM.out
      have bq : q < 18446744073709551616 := Nat.lt_trans HP.lq HM.out
      have c2 := fun w => product_any q q bq bq w
      have c3 := fun w => rest_any q q m bq bq hm0 HM.out w
      by_cases h1 : z % 2 = 1
      · rw [h1] at e5
        have c4 := fun w => product_any p q bp bq w
        have c5 := fun w => rest_any p q m bp bq hm0 HM.out w
        have HN1 : Pw x n m (k + 1) (mm p q m) (mm q q m) := HP.one hm0 (by rw [← hz1]; exact h1)
        have F1 : Hid True := trivial
        have F2 : Hid True := trivial
        clear hz1 hzl bp bq h1
        go_wp2_with (first
          | (go_at_call 120; have := F1.out; refine (c4 _).mono ?_; rintro e w1 ⟨rfl, hb⟩; replace hB := hB.trans (hb.mono hB.size); clear hb F1)
          | (go_at_call 121; have := F2.out; refine (c5 _).mono ?_; rintro e w1 ⟨rfl, hb⟩; replace hB := hB.trans (hb.mono hB.size); clear hb F2)
          | (go_at_call 120; refine (c2 _).mono ?_; rintro e w1 ⟨rfl, hb⟩; replace hB := hB.trans (hb.mono hB.size); clear hb)
          | (go_at_call 121; refine (c3 _).mono ?_; rintro e w1 ⟨rfl, hb⟩; replace hB := hB.trans (hb.mono hB.size); clear hb)
          | go_in)
        go_roundw
        case rel => exact ⟨k + 1, mm p q m, mm q q m, hlt, by go_num, rfl, rfl, HN1, hB⟩
        case measure => simp [intOf]; omega
      · have h1' : z % 2 = 0 := by omega
        rw [h1'] at e5
        have HN1 : Pw x n m (k + 1) p (mm q q m) := HP.zero hm0 (by rw [← hz1]; exact h1')
        clear hz1 hzl bp bq h1 h1'
        go_wp2_with (first
          | (go_at_call 120; refine (c2 _).mono ?_; rintro e w1 ⟨rfl, hb⟩; replace hB := hB.trans (hb.mono hB.size); clear hb)
          | (go_at_call 121; refine (c3 _).mono ?_; rintro e w1 ⟨rfl, hb⟩; replace hB := hB.trans (hb.mono hB.size); clear hb)
          | go_in)
        go_roundw
        case rel => exact ⟨k + 1, p, mm q q m, hlt, by go_num, rfl, rfl, HN1, hB⟩
        case measure => simp [intOf]; omega
    · obtain rfl : k = L := by omega
      have hd := HP.done HLn.out
      go_wp2
      go_ret
      exact ⟨ret_int (by rw [hd]), hB⟩

end Go.Proofs.YtkmhaemcpakobaaGreatDoor.sg

namespace Go.Proofs.YtkmhaemcpakobaaGreatDoor.sm
open Go.ChangeShapes Go.WideShapes Go.ChangeAt Go.RowKit Go.Deep
set_option linter.unusedVariables false

/-- The first 'n' bytes behind a slice's address are 'l'. -/
def Bs (w : World) (a : Option Addr) (n : Nat) (l : List Int) : Prop :=
  n = 0 ∨ ∃ b off, a = some ⟨b, off, none⟩ ∧ ∀ i, i < n → w.cell? ⟨b, off + i, none⟩ = some (.int .u8 (l[i]?.getD 0))

def stepS (l : List Int) (g : Int) (k : Nat) : Int := IntKind.u64.wrap (bits BinOp.xor IntKind.u64 g (IntKind.u64.wrap (l[k]?.getD 0)) * 1099511628211)
def sumS (l : List Int) (h : Int) : Nat → Int
  | 0 => h
  | k + 1 => stepS l (sumS l h k) k

theorem sumOn_any (h : Int) (a : Option Addr) (n cap : Nat) (l : List Int) (w : World) (hb : Bs w a n l) (hn : n ≤ 1099511627776) :
    Calls Tryz.prog 69 #[.int .u64 h, .slice a n cap] w fun e w' => e = .returned (.int .u64 (sumS l h n)) ∧ w' = w := by
  go_enter Tryz.func69, Tryz.ntmps69
  go_wp2
  go_loop [0, 6, 9] (fun s x i => ∃ k : Nat, k ≤ n ∧ i = .int .i64 k ∧ s = .int .u64 (sumS l h k)) (fun _ _ i => n - (intOf i).toNat)
  case atStart => exact ⟨0, Nat.zero_le _, rfl, rfl⟩
  case round =>
    obtain ⟨k, hk, rfl, rfl⟩ := hrel
    by_cases hlt : k < n
    · rcases hb with rfl | ⟨b, off, rfl, hc⟩
      · omega
      have hck := hc k hlt
      go_wp2
      go_round
      case rel => exact ⟨k + 1, by omega, by go_num, rfl⟩
      case measure => simp [intOf]; omega
    · go_wp2
      go_ret
      obtain rfl : k = n := by omega
      exact ⟨rfl, rfl⟩

def turnS (g : Int) : Nat → Int
  | 0 => g
  | k + 1 => IntKind.u64.wrap (bits BinOp.xor IntKind.u64 (turnS g k) (turnS g k / 536870912) * 11400714819323198485)
def lastS (g : Int) : Int := bits BinOp.xor IntKind.u64 (turnS g 3) (turnS g 3 / 4294967296)

theorem last_any (h : Int) (w : World) :
    Calls Tryz.prog 68 #[.int .u64 h] w fun e w' => e = .returned (.int .u64 (lastS h)) ∧ w' = w := by
  go_enter Tryz.func68, Tryz.ntmps68
  go_wp2
  go_loop [0, 3] (fun s i => ∃ k : Nat, k ≤ 3 ∧ i = .int .u64 k ∧ s = .int .u64 (turnS h k)) (fun _ i => 3 - (intOf i).toNat)
  case atStart => exact ⟨0, Nat.zero_le _, rfl, rfl⟩
  case round =>
    obtain ⟨k, hk, rfl, rfl⟩ := hrel
    by_cases hlt : k < 3
    · go_wp2
      go_round
      case rel => exact ⟨k + 1, by omega, by go_num, rfl⟩
      case measure => simp [intOf]; omega
    · obtain rfl : k = 3 := by omega
      go_wp2
      go_ret
      exact ⟨rfl, rfl⟩

theorem spec_any (a : Option Addr) (n cap : Nat) (l : List Int) (w : World) (hb : Bs w a n l) (hn : n ≤ 1099511627776) :
    Calls Tryz.prog 17 #[.slice a n cap] w fun e w' => e = .returned (.int .u64 (lastS (sumS l 14695981039346656037 n))) ∧ w' = w := by
  go_enter Tryz.func17, Tryz.ntmps17
  go_wp2
  go_loop [3, 4] (fun s i => ∃ k : Nat, k ≤ n ∧ i = .int .i64 k ∧ s = .int .u64 (sumS l 14695981039346656037 k)) (fun _ i => n - (intOf i).toNat)
  case atStart => exact ⟨0, Nat.zero_le _, rfl, rfl⟩
  case round =>
    obtain ⟨k, hk, rfl, rfl⟩ := hrel
    by_cases hlt : k < n
    · rcases hb with rfl | ⟨b, off, rfl, hc⟩
      · omega
      have hck := hc k hlt
      go_wp2
      go_round
      case rel => exact ⟨k + 1, by omega, by go_num, rfl⟩
      case measure => simp [intOf]; omega
    · obtain rfl : k = n := by omega
      go_wp2
      go_loop [3, 5] (fun s i => ∃ j : Nat, j ≤ 3 ∧ i = .int .i64 j ∧ s = .int .u64 (turnS (sumS l 14695981039346656037 k) j)) (fun _ i => 3 - (intOf i).toNat)
      case atStart => exact ⟨0, Nat.zero_le _, rfl, rfl⟩
      case round =>
        obtain ⟨j, hj, rfl, rfl⟩ := hrel
        by_cases hl3 : j < 3
        · go_wp2
          go_round
          case rel => exact ⟨j + 1, by omega, by go_num, rfl⟩
          case measure => simp [intOf]; omega
        · obtain rfl : j = 3 := by omega
          go_wp2
          go_ret
          exact ⟨rfl, rfl⟩

theorem impl_any (a : Option Addr) (n cap : Nat) (l : List Int) (w : World) (hb : Bs w a n l) (hn : n ≤ 1099511627776) :
    Calls Tryz.prog 44 #[.slice a n cap] w fun e w' => e = .returned (.int .u64 (lastS (sumS l 14695981039346656037 n))) ∧ w' = w := by
  go_enter Tryz.func44, Tryz.ntmps44
  go_wp2_with (first
    | (go_at_call 69; refine (sumOn_any _ _ _ _ l _ hb hn).mono ?_; rintro e w' ⟨rfl, rfl⟩)
    | (go_at_call 68; refine (last_any _ _).mono ?_; rintro e w' ⟨rfl, rfl⟩))
  go_ret
  exact ⟨rfl, rfl⟩

theorem info5 : (Tryz.prog.info? 5).map (fun i => (i.zero, i.size, i.bytes)) = some (some (.int .u8 0), 1, 1) := by kernel_rfl

theorem row_step {w : World} {b n k : Nat} {l : List Int} (h : w.rowIs b 5 n (fun j => .int .u8 (if j < k then l[j]?.getD 0 else 0))) :
    (w.setCell ⟨b, k, none⟩ (.int .u8 (l[k]?.getD 0))).rowIs b 5 n (fun j => .int .u8 (if j < k + 1 then l[j]?.getD 0 else 0)) :=
  (h.set k _).congr fun i hi => by
    by_cases h : i = k
    · simp [h]
    · have e : (i < k + 1) ↔ (i < k) := by omega
      simp [h, e]

theorem to_any (a : Option Addr) (n cap : Nat) (l : List Int) (w : World) (hb : Bs w a n l) (hn : n ≤ 1099511627776) :
    Calls Tryz.prog 21 #[.slice a n cap] w fun e w' => e = .returned (.slice (some ⟨w.heap.size, 0, none⟩) n n) ∧ w'.rowIs w.heap.size 5 n (fun i => .int .u8 (l[i]?.getD 0)) ∧ Below w.heap.size w w' := by
  have hmk := run_make_row' (P := Tryz.prog) 22 5 (.int .u8 0) 1 Tryz.underlying22 info5 rfl .i64 .i64 n (by omega) (by omega)
  go_enter Tryz.func21, Tryz.ntmps21
  go_wp2
  clear hmk
  go_loopw [4] (fun i wr => ∃ k : Nat, k ≤ n ∧ i = .int .i64 k ∧ wr.rowIs w.heap.size 5 n (fun j => .int .u8 (if j < k then l[j]?.getD 0 else 0)) ∧ Below w.heap.size w wr) (fun i _ => n - (intOf i).toNat)
  case atStart => exact ⟨0, Nat.zero_le _, rfl, by simpa using World.rowIs_made w _ n 5, (Below.refl _ _).alloc (Nat.le_refl _) _⟩
  case round =>
    obtain ⟨k, hk, rfl, hrow, hbel⟩ := hrel
    by_cases hlt : k < n
    · rcases hb with rfl | ⟨b, off, rfl, hc⟩
      · omega
      have hck := hc k hlt
      have hlt' : b < w.heap.size := World.block_lt_of_cell? _ _ hck
      have g0 : wr.cell? ⟨b, off + k, none⟩ = some (.int .u8 (l[k]?.getD 0)) := (hbel.cell hlt').trans hck
      have g1 := hrow.cell hlt
      have g2 := hrow.frozen k
      go_wp2
      go_roundw
      case rel => exact ⟨k + 1, by omega, by go_num, row_step hrow, hbel.setCell (Nat.le_refl _) _⟩
      case measure => simp [intOf]; omega
    · obtain rfl : k = n := by omega
      go_wp2
      go_ret
      refine ⟨rfl, hrow.congr fun i hi => by simp [hi], hbel⟩

theorem Bs.row {w : World} {b n : Nat} {l : List Int} (h : w.rowIs b 5 n (fun i => .int .u8 (l[i]?.getD 0))) : Bs w (some ⟨b, 0, none⟩) n l :=
  .inr ⟨b, 0, rfl, fun i hi => by have := h.cell hi; simpa using this⟩

theorem Bs.below {w w' : World} {a : Option Addr} {n : Nat} {l : List Int} (h : Bs w a n l) (hb : Below w.heap.size w w') : Bs w' a n l := by
  rcases h with h | ⟨b, off, e, hc⟩
  · exact .inl h
  · exact .inr ⟨b, off, e, fun i hi => (hb.cell (World.block_lt_of_cell? _ _ (hc i hi))).trans (hc i hi)⟩

theorem eq_any (a a' : Option Addr) (n cap cap' : Nat) (l : List Int) (w : World) (hb : Bs w a n l) (hb' : Bs w a' n l) (hn : n ≤ 1099511627776) :
    Calls Tryz.prog 24 #[.slice a n cap, .slice a' n cap'] w fun e w' => e = .returned (.bool true) ∧ ∃ q, w' = w.drewN q := by
  go_enter Tryz.func24, Tryz.ntmps24
  go_wp2
  go_loopw [5] (fun i wr => ∃ k : Nat, k ≤ n ∧ i = .int .i64 k ∧ ∃ q, wr = w.drewN q) (fun i _ => n - (intOf i).toNat)
  case atStart => exact ⟨0, Nat.zero_le _, rfl, 0, rfl⟩
  case round =>
    obtain ⟨k, hk, rfl, q, rfl⟩ := hrel
    by_cases hlt : k < n
    · rcases hb with rfl | ⟨b, off, rfl, hc⟩
      · omega
      rcases hb' with rfl | ⟨b', off', rfl, hc'⟩
      · omega
      have hck := hc k hlt
      have hck' := hc' k hlt
      have hlt' : (k : Int) < (n : Int) := by omega
      go_wp2
      go_quiet (fail)
      go_wp2
      go_roundw
      case rel => exact ⟨k + 1, by omega, by go_num, _, rfl⟩
      case measure => simp [intOf]; omega
    · go_wp2
      go_ret
      exact ⟨rfl, q, rfl⟩

end Go.Proofs.YtkmhaemcpakobaaGreatDoor.sm

namespace Go.Proofs.YtkmhaemcpakobaaGreatDoor.sg
open Go.ChangeShapes Go.WideShapes Go.ChangeAt Go.RowKit Go.Deep
set_option linter.unusedVariables false

/-- A sum as a natural number. -/
def SV (l : List Int) (n : Nat) : Nat := (sm.lastS (sm.sumS l 14695981039346656037 n)).toNat

theorem SV_is (l : List Int) (n : Nat) : sm.lastS (sm.sumS l 14695981039346656037 n) = ((SV l n : Nat) : Int) ∧ SV l n < 18446744073709551616 := by
  have h0 : 0 ≤ sm.lastS (sm.sumS l 14695981039346656037 n) := bits_lo_u64 _ _ _
  have h1 : sm.lastS (sm.sumS l 14695981039346656037 n) ≤ 18446744073709551615 := bits_hi_u64 _ _ _
  unfold SV
  omega

theorem ssum_any (a : Option Addr) (n cap : Nat) (l : List Int) (w : World) (hb : sm.Bs w a n l) (hn : n ≤ 1099511627776) :
    Calls Tryz.prog 17 #[.slice a n cap] w fun e w' => e = .returned (.int .u64 ((SV l n : Nat) : Int)) ∧ w' = w := by
  have := sm.spec_any a n cap l w hb hn
  rwa [(SV_is l n).1] at this

theorem isum_any (a : Option Addr) (n cap : Nat) (l : List Int) (w : World) (hb : sm.Bs w a n l) (hn : n ≤ 1099511627776) :
    Calls Tryz.prog 44 #[.slice a n cap] w fun e w' => e = .returned (.int .u64 ((SV l n : Nat) : Int)) ∧ w' = w := by
  have := sm.impl_any a n cap l w hb hn
  rwa [(SV_is l n).1] at this

/-- What a key signs. -/
def sgV (N D S : Nat) : Nat := if N = 0 then 0 else pm (S % N) D N
/-- What checks. -/
def chB (n e S s : Nat) : Bool := decide (n ≠ 0) && (decide (s < n) && decide (pm s e n = S % n))

/-- One contract of a power for both sides. -/
theorem ipow_b (x n m : Nat) (hx : x < 18446744073709551616) (hn : n < 18446744073709551616) (hm : m < 18446744073709551616) (w : World) :
    Calls Tryz.prog 97 #[.int .u64 (x : Int), .int .u64 (n : Int), .int .u64 (m : Int)] w fun e w' => e = .returned (.int .u64 ((pm x n m : Nat) : Int)) ∧ Below w.heap.size w w' := ipow_any x n m hx hn hm w

theorem spow_b (x n m : Nat) (hx : x < 18446744073709551616) (hn : n < 18446744073709551616) (hm : m < 18446744073709551616) (w : World) :
    Calls Tryz.prog 51 #[.int .u64 (x : Int), .int .u64 (n : Int), .int .u64 (m : Int)] w fun e w' => e = .returned (.int .u64 ((pm x n m : Nat) : Int)) ∧ Below w.heap.size w w' :=
  (spow_any x n m hx hn hm w).mono fun e w' ⟨h, hw⟩ => ⟨h, by rw [hw]; exact Below.refl _ _⟩

theorem scheck_any (N E s : Nat) (hN : N < 18446744073709551616) (hE : E < 18446744073709551616) (hs : s < 18446744073709551616) (a : Option Addr) (n cap : Nat) (l : List Int) (w : World) (hb : sm.Bs w a n l) (hn : n ≤ 1099511627776) :
    Calls Tryz.prog 31 #[.int .u64 (N : Int), .int .u64 (E : Int), .slice a n cap, .int .u64 (s : Int)] w fun e w' => e = .returned (.bool (chB N E (SV l n) s)) ∧ Below w.heap.size w w' := by
  go_enter Tryz.func31, Tryz.ntmps31
  by_cases h0 : N = 0
  · have e : chB N E (SV l n) s = false := by unfold chB; simp [h0]
    rw [e]
    subst h0
    clear hN hE hs
    go_wp2
    go_ret
    exact ⟨rfl, Below.refl _ _⟩
  have hz : ((N : Int) == 0) = false := by simp; omega
  have hz' : ¬ N = 0 := h0
  by_cases h1 : s < N
  case neg =>
    have e : chB N E (SV l n) s = false := by unfold chB; simp [h1]
    have h1' : ¬ (s : Int) < (N : Int) := by omega
    rw [e]
    clear hN hE hs
    go_wp2
    go_ret
    exact ⟨rfl, Below.refl _ _⟩
  have h1' : (s : Int) < (N : Int) := by omega
  obtain ⟨S, hS⟩ : ∃ S, S = SV l n := ⟨_, rfl⟩
  obtain ⟨R, hR⟩ : ∃ R, R = S % N := ⟨_, rfl⟩
  have e1 : (S : Int) % (N : Int) = (R : Int) := by rw [hR, Int.natCast_emod]
  obtain ⟨c, hc⟩ : ∃ c : Bool, (((pm s E N : Nat) : Int) == (R : Int)) = c := ⟨_, rfl⟩
  have HV : Hid (chB N E (SV l n) s = c) := by
    show _ = _
    unfold chB
    rw [← hS, ← hR, ← hc, Bool.eq_iff_iff]
    simp [h0, h1]
    omega
  have HS : Hid (∀ W, Below w.heap.size w W → Calls Tryz.prog 17 #[.slice a n cap] W fun e w' => e = .returned (.int .u64 (S : Int)) ∧ w' = W) := fun W h => by
    have := ssum_any a n cap l W (hb.below h) hn
    rwa [← hS] at this
  have HP : Hid (∀ W, Calls Tryz.prog 51 #[.int .u64 (s : Int), .int .u64 (E : Int), .int .u64 (N : Int)] W fun e w' => e = .returned (.int .u64 ((pm s E N : Nat) : Int)) ∧ Below W.heap.size W w') := fun W => spow_b s E N hs hE hN W
  clear hN hE hs hb hn hS hR h0
  have HC : Hid ((((pm s E N : Nat) : Int) == (R : Int)) = c) := hc
  clear hc
  go_wp2_with (first
    | (go_at_call 51; refine (HP.out _).mono ?_; rintro e w2 ⟨rfl, hl2⟩)
    | (go_at_call 17; refine (HS.out _ hl2).mono ?_; rintro e wx ⟨rfl, hw⟩; obtain rfl := hw.symm; clear hw)
    | go_in)
  go_ret
  exact ⟨ret_bool (by rw [HV.out, ← HC.out]; first | rfl | simp [hz']), hl2⟩

theorem icheck_any (N E s : Nat) (hN : N < 18446744073709551616) (hE : E < 18446744073709551616) (hs : s < 18446744073709551616) (a : Option Addr) (n cap : Nat) (l : List Int) (w : World) (hb : sm.Bs w a n l) (hn : n ≤ 1099511627776) :
    Calls Tryz.prog 67 #[.int .u64 (N : Int), .int .u64 (E : Int), .slice a n cap, .int .u64 (s : Int)] w fun e w' => e = .returned (.bool (chB N E (SV l n) s)) ∧ Below w.heap.size w w' := by
  go_enter Tryz.func67, Tryz.ntmps67
  by_cases h0 : N = 0
  · have e : chB N E (SV l n) s = false := by unfold chB; simp [h0]
    rw [e]
    subst h0
    clear hN hE hs
    go_wp2
    go_ret
    exact ⟨rfl, Below.refl _ _⟩
  have hz : ((N : Int) == 0) = false := by simp; omega
  have hz' : ¬ N = 0 := h0
  by_cases h1 : s < N
  case neg =>
    have e : chB N E (SV l n) s = false := by unfold chB; simp [h1]
    have h1' : ¬ (s : Int) < (N : Int) := by omega
    rw [e]
    clear hN hE hs
    go_wp2
    go_ret
    exact ⟨rfl, Below.refl _ _⟩
  have h1' : (s : Int) < (N : Int) := by omega
  obtain ⟨S, hS⟩ : ∃ S, S = SV l n := ⟨_, rfl⟩
  obtain ⟨R, hR⟩ : ∃ R, R = S % N := ⟨_, rfl⟩
  have e1 : (S : Int) % (N : Int) = (R : Int) := by rw [hR, Int.natCast_emod]
  obtain ⟨c, hc⟩ : ∃ c : Bool, (((pm s E N : Nat) : Int) == (R : Int)) = c := ⟨_, rfl⟩
  have HV : Hid (chB N E (SV l n) s = c) := by
    show _ = _
    unfold chB
    rw [← hS, ← hR, ← hc, Bool.eq_iff_iff]
    simp [h0, h1]
    omega
  have HS : Hid (∀ W, Below w.heap.size w W → Calls Tryz.prog 44 #[.slice a n cap] W fun e w' => e = .returned (.int .u64 (S : Int)) ∧ w' = W) := fun W h => by
    have := isum_any a n cap l W (hb.below h) hn
    rwa [← hS] at this
  have HP : Hid (∀ W, Calls Tryz.prog 97 #[.int .u64 (s : Int), .int .u64 (E : Int), .int .u64 (N : Int)] W fun e w' => e = .returned (.int .u64 ((pm s E N : Nat) : Int)) ∧ Below W.heap.size W w') := fun W => ipow_b s E N hs hE hN W
  clear hN hE hs hb hn hS hR h0
  have HC : Hid ((((pm s E N : Nat) : Int) == (R : Int)) = c) := hc
  clear hc
  go_wp2_with (first
    | (go_at_call 97; refine (HP.out _).mono ?_; rintro e w2 ⟨rfl, hl2⟩)
    | (go_at_call 44; refine (HS.out _ hl2).mono ?_; rintro e wx ⟨rfl, hw⟩; obtain rfl := hw.symm; clear hw)
    | go_in)
  go_ret
  exact ⟨ret_bool (by rw [HV.out, ← HC.out]; first | rfl | simp [hz']), hl2⟩

end Go.Proofs.YtkmhaemcpakobaaGreatDoor.sg

namespace Go.Proofs.YtkmhaemcpakobaaGreatDoor.st
open Go.ChangeShapes Go.WideShapes Go.ChangeAt Go.RowKit Go.Deep
set_option linter.unusedVariables false

def atS (l : List ByteArray) (i : Nat) : ByteArray := l[i]?.getD ByteArray.empty

/-- The first 'n' texts behind a slice's address are 'l'. -/
def Ss (w : World) (a : Option Addr) (n : Nat) (l : List ByteArray) : Prop :=
  n = 0 ∨ ∃ b off, a = some ⟨b, off, none⟩ ∧ ∀ i, i < n → w.cell? ⟨b, off + i, none⟩ = some (.string (atS l i))

theorem info9 : (Tryz.prog.info? 9).map (fun i => (i.zero, i.size, i.bytes)) = some (some (.string ⟨#[]⟩), 1, 16) := by kernel_rfl

theorem row_step {w : World} {b n k : Nat} {l : List ByteArray} (h : w.rowIs b 9 n (fun j => .string (if j < k then atS l j else ⟨#[]⟩))) :
    (w.setCell ⟨b, k, none⟩ (.string (atS l k))).rowIs b 9 n (fun j => .string (if j < k + 1 then atS l j else ⟨#[]⟩)) :=
  (h.set k _).congr fun i hi => by
    by_cases h : i = k
    · simp [h]
    · have e : (i < k + 1) ↔ (i < k) := by omega
      simp [h, e]

theorem Ss.row {w : World} {b n : Nat} {l : List ByteArray} (h : w.rowIs b 9 n (fun i => .string (atS l i))) : Ss w (some ⟨b, 0, none⟩) n l :=
  .inr ⟨b, 0, rfl, fun i hi => by have := h.cell hi; simpa using this⟩

theorem Ss.below {w w' : World} {a : Option Addr} {n : Nat} {l : List ByteArray} (h : Ss w a n l) (hb : Below w.heap.size w w') : Ss w' a n l := by
  rcases h with h | ⟨b, off, e, hc⟩
  · exact .inl h
  · exact .inr ⟨b, off, e, fun i hi => (hb.cell (World.block_lt_of_cell? _ _ (hc i hi))).trans (hc i hi)⟩

end Go.Proofs.YtkmhaemcpakobaaGreatDoor.st

namespace Go.Proofs.YtkmhaemcpakobaaGreatDoor.wd
open Go.ChangeShapes Go.WideShapes Go.ChangeAt Go.RowKit Go.Deep
set_option linter.unusedVariables false

def LET : List UInt8 := [48, 49, 50, 51, 52, 53, 54, 55, 56, 57, 97, 98, 99, 100, 102, 103, 104, 105, 106, 107, 108, 109, 110, 112, 113, 114, 115, 118, 119, 120, 121, 122]
def letU (n : Nat) : UInt8 := LET[n]?.getD 0
def dv (X k : Nat) : Nat := X / 32 ^ k
def dm (X k : Nat) : Nat := dv X k % 32
def digit (X k : Nat) : UInt8 := letU (dm X k)
def wordA (X : Nat) : ByteArray := ⟨((List.range 13).map fun j => digit X (12 - j)).toArray⟩

/-- The table of letters lies in block 0. -/
def Tab (w : World) : Prop := ∀ i, i < 32 → w.cell? ⟨0, i, none⟩ = some (.int .u8 ((letU i).toNat : Int))

theorem Tab.below {w w' : World} (h : Tab w) (hb : Below w.heap.size w w') : Tab w' := fun i hi => (hb.cell (World.block_lt_of_cell? _ _ (h i hi))).trans (h i hi)

theorem and31 (X : Nat) (h : X < 18446744073709551616) : bits BinOp.and IntKind.u64 (X : Int) 31 = ((X % 32 : Nat) : Int) := by
  have := bits_and_u64_nat X 31 h (by omega)
  rw [show ((31 : Nat) : Int) = 31 from rfl] at this
  rw [this, show (31 : Nat) = 2 ^ 5 - 1 from rfl, Nat.and_two_pow_sub_one_eq_mod]

theorem wordA_size (X : Nat) : (wordA X).size = 13 := by simp [wordA, ByteArray.size]

theorem dv_step (X k : Nat) : ((dv X k : Nat) : Int) / 32 = ((dv X (k + 1) : Nat) : Int) := by
  have : dv X k / 32 = dv X (k + 1) := by unfold dv; rw [Nat.div_div_eq_div_mul, Nat.pow_succ]
  rw [← this]; rfl

theorem dv_lt (X k : Nat) (h : X < 18446744073709551616) : dv X k < 18446744073709551616 := Nat.lt_of_le_of_lt (Nat.div_le_self _ _) h

theorem dm_lt (X k : Nat) : dm X k < 32 := Nat.mod_lt _ (by omega)

theorem and_dv (X k : Nat) (h : X < 18446744073709551616) : bits BinOp.and IntKind.u64 ((dv X k : Nat) : Int) 31 = ((dm X k : Nat) : Int) := and31 _ (dv_lt X k h)

theorem word_step {w : World} {b t X k : Nat} (hk : k < 13) (h : w.rowIs b t 13 (fun j => .int .u8 (if 12 < j + k then ((digit X (12 - j)).toNat : Int) else 0))) :
    (w.setCell ⟨b, 12 - k, none⟩ (.int .u8 ((digit X k).toNat : Int))).rowIs b t 13 (fun j => .int .u8 (if 12 < j + (k + 1) then ((digit X (12 - j)).toNat : Int) else 0)) :=
  (h.set (12 - k) _).congr fun i hi => by
    by_cases h : i = 12 - k
    · have e : 12 < i + (k + 1) := by omega
      have e2 : 12 - i = k := by omega
      rw [if_pos h, if_pos e, e2]
    · have e : (12 < i + (k + 1)) ↔ (12 < i + k) := by omega
      simp [h, e]

theorem word_row {w : World} {b t X : Nat} (h : w.rowIs b t 13 (fun j => .int .u8 (if 12 < j + 13 then ((digit X (12 - j)).toNat : Int) else 0))) : Lib.Bytes w b 0 (wordA X) := fun i hi => by
  have hi' : i < 13 := by simpa [wordA_size] using hi
  have := h.cell hi'
  rw [if_pos (by omega)] at this
  rw [Nat.zero_add, this]
  simp [wordA, ByteArray.getElem_eq_getElem_data]

theorem zero_row (w : World) (X : Nat) : (w.alloc (Obj.cells
    #[Value.int IntKind.u8 0, Value.int IntKind.u8 0, Value.int IntKind.u8 0, Value.int IntKind.u8 0,
      Value.int IntKind.u8 0, Value.int IntKind.u8 0, Value.int IntKind.u8 0, Value.int IntKind.u8 0,
      Value.int IntKind.u8 0, Value.int IntKind.u8 0, Value.int IntKind.u8 0, Value.int IntKind.u8 0,
      Value.int IntKind.u8 0]
    105)).rowIs w.heap.size 105 13 (fun j => .int .u8 (if 12 < j + 0 then ((digit X (12 - j)).toNat : Int) else 0)) :=
  World.rowIs_alloc w _ 105 _ (fun i hi => by
    have hi' : i < 13 := hi
    have e : ¬ 12 < i + 0 := by omega
    simp only [e, if_false]
    match i, hi' with
    | 0, _ => rfl
    | 1, _ => rfl
    | 2, _ => rfl
    | 3, _ => rfl
    | 4, _ => rfl
    | 5, _ => rfl
    | 6, _ => rfl
    | 7, _ => rfl
    | 8, _ => rfl
    | 9, _ => rfl
    | 10, _ => rfl
    | 11, _ => rfl
    | 12, _ => rfl)

theorem impl_any (X : Nat) (h1 : X < 18446744073709551616) (w : World) (hT : Tab w) :
    Calls Tryz.prog 43 #[.int .u64 (X : Int)] w fun e w' => e = .returned (.string (wordA X)) ∧ Below w.heap.size w w' := by
  go_enter Tryz.func43, Tryz.ntmps43
  go_wp2
  go_loopw [0, 4] (fun y i wr => ∃ k : Nat, k ≤ 13 ∧ i = .int .i64 (12 - k) ∧ y = .int .u64 ((dv X k : Nat) : Int) ∧ wr.rowIs w.heap.size 105 13 (fun j => .int .u8 (if 12 < j + k then ((digit X (12 - j)).toNat : Int) else 0)) ∧ Below w.heap.size w wr) (fun _ i _ => (intOf i + 1).toNat)
  case atStart => exact ⟨0, by omega, rfl, by simp [dv], zero_row w X, (Below.refl _ _).alloc (Nat.le_refl _) _⟩
  case round =>
    obtain ⟨k, hk, rfl, rfl, hrow, hbel⟩ := hrel
    by_cases hlt : k < 13
    · have e31 := and_dv X k h1
      have hm : ((dm X k : Nat) : Int) < 32 := by have := dm_lt X k; omega
      have g0 : wr.cell? ⟨0, dm X k, none⟩ = some (.int .u8 ((digit X k).toNat : Int)) := (hT.below hbel) _ (dm_lt X k)
      have g1 := hrow.cell (i := 12 - k) (by omega)
      have g2 := hrow.frozen (12 - k)
      have eo : ((12 : Int) - (k : Int)).toNat = 12 - k := by omega
      go_wp2
      go_roundw
      case rel => exact ⟨k + 1, by omega, by go_num, by rw [dv_step], word_step hlt hrow, hbel.setCell (Nat.le_refl _) _⟩
      case measure => simp [intOf]; omega
    · obtain rfl : k = 13 := by omega
      have hconv := fun c => Lib.run_convert_whole (P := Tryz.prog) wr 22 5 9 Tryz.underlying22 Tryz.underlying5 Tryz.underlying9 _ _ _ (word_row hrow) c
      rw [wordA_size] at hconv
      go_wp2
      go_ret
      exact ⟨rfl, hbel⟩

theorem and_sh (X k : Nat) (h : X < 18446744073709551616) : bits BinOp.and IntKind.u64 ((X : Int) / 2 ^ (5 * (12 - k))) 31 = ((dm X (12 - k) : Nat) : Int) := by
  rw [← and_dv X (12 - k) h]
  congr 1
  unfold dv
  rw [Int.natCast_ediv, Int.pow_mul]
  norm_cast

theorem info5 : (Tryz.prog.info? 5).map (fun i => (i.zero, i.size, i.bytes)) = some (some (.int .u8 0), 1, 1) := by kernel_rfl

def wordL (X k : Nat) : List UInt8 := (List.range k).map fun j => digit X (12 - j)
theorem wordL_succ (X k : Nat) : wordL X (k + 1) = wordL X k ++ [digit X (12 - k)] := by simp [wordL, List.range_succ]

theorem let_at (n : Nat) (h : n < 32) : (⟨#[48, 49, 50, 51, 52, 53, 54, 55, 56, 57, 97, 98, 99, 100, 102, 103, 104, 105, 106, 107, 108, 109, 110, 112, 113, 114, 115, 118, 119, 120, 121, 122]⟩ : ByteArray)[n]'h = letU n := by
  unfold letU
  have h' : n < LET.length := h
  rw [List.getElem?_eq_getElem h']
  rfl

theorem spec_any (X : Nat) (h1 : X < 18446744073709551616) (w : World) :
    Calls Tryz.prog 16 #[.int .u64 (X : Int)] w fun e w' => e = .returned (.string (wordA X)) ∧ Below w.heap.size w w' := by
  go_enter Tryz.func16, Tryz.ntmps16
  go_wp2
  go_loopw [3, 4] (fun v i wr => ∃ k : Nat, k ≤ 13 ∧ i = .int .i64 (12 - k) ∧ wr.ownsRow w.heap.size 5 1 v k (byteCells (wordL X k)) ∧ Below w.heap.size w wr) (fun _ i _ => (intOf i + 1).toNat)
  case atStart => exact ⟨0, by omega, rfl, World.ownsRow_made w #[] 0 (Nat.le_refl _) (by decide) rfl, (Below.refl _ _).alloc (Nat.le_refl _) _⟩
  case round =>
    obtain ⟨k, hk, rfl, hown, hbel⟩ := hrel
    have hsz := hbel.size
    by_cases hlt : k < 13
    · have e31 := and_sh X k h1
      have hm : ((dm X (12 - k) : Nat) : Int) < 32 := by have := dm_lt X (12 - k); omega
      have hidx := let_at (dm X (12 - k)) (dm_lt X (12 - k))
      go_wp2_with (first
        | (at_builtin; refine app_own _ rfl _ _ 22 rfl w.heap.size 5 (.int .u8 0) 1 Tryz.underlying22 info5 rfl _ _ _ rfl (hown.alloc _) ⟨wr.heap.size, 0, none⟩ 1 1 (byteCells [digit X (12 - k)]) rfl rfl ?c1 (byteCells_oneCell _) ?c3 ?c4 ?c5 ?_)
        | go_in)
      case c1 => exact one_new _ _ _
      case c3 => unfold maxLen; omega
      case c4 => omega
      case c5 => simp; omega
      intro v' w' hown' hg
      have hb' := below_grown (hbel.alloc hsz _) (hown.alloc _) hg (by simp; omega)
      rw [← byteCells_append, ← wordL_succ] at hown'
      clear hidx
      go_wp2
      go_roundw
      case rel => exact ⟨k + 1, by omega, by go_num, hown', hb'⟩
      case measure => simp [intOf]; omega
    · obtain rfl : k = 13 := by omega
      have hconv := own_string (P := Tryz.prog) Tryz.underlying22 Tryz.underlying5 Tryz.underlying9 hown
      go_wp2
      go_ret
      exact ⟨rfl, hbel⟩

end Go.Proofs.YtkmhaemcpakobaaGreatDoor.wd

namespace Go.Proofs.YtkmhaemcpakobaaGreatDoor.wd
open Go.ChangeShapes Go.WideShapes Go.ChangeAt Go.RowKit Go.Deep Go.Maps
set_option linter.unusedVariables false

def LETC : Array Value := (LET.map fun b => Value.int .u8 (b.toNat : Int)).toArray

/-- The table's own block. -/
def TabB (w : World) : Prop := ∃ t fr, w.heap[0]? = some (.cells LETC t fr)

theorem TabB.below {w w' : World} (h : TabB w) (hb : Below w.heap.size w w') : TabB w' := by
  obtain ⟨t, fr, h⟩ := h
  exact ⟨t, fr, by rw [hb.block 0 (Array.getElem?_eq_some_iff.1 h).1]; exact h⟩

theorem idx0 (w : World) : (Instr.index 106 (.agg LETC) (.int .i64 0)).run Tryz.prog w = .ok (.int .u8 ((letU 0).toNat : Int)) w := by kernel_rfl
theorem idx1 (w : World) : (Instr.index 106 (.agg LETC) (.int .i64 1)).run Tryz.prog w = .ok (.int .u8 ((letU 1).toNat : Int)) w := by kernel_rfl
theorem idx2 (w : World) : (Instr.index 106 (.agg LETC) (.int .i64 2)).run Tryz.prog w = .ok (.int .u8 ((letU 2).toNat : Int)) w := by kernel_rfl
theorem idx3 (w : World) : (Instr.index 106 (.agg LETC) (.int .i64 3)).run Tryz.prog w = .ok (.int .u8 ((letU 3).toNat : Int)) w := by kernel_rfl
theorem idx4 (w : World) : (Instr.index 106 (.agg LETC) (.int .i64 4)).run Tryz.prog w = .ok (.int .u8 ((letU 4).toNat : Int)) w := by kernel_rfl
theorem idx5 (w : World) : (Instr.index 106 (.agg LETC) (.int .i64 5)).run Tryz.prog w = .ok (.int .u8 ((letU 5).toNat : Int)) w := by kernel_rfl
theorem idx6 (w : World) : (Instr.index 106 (.agg LETC) (.int .i64 6)).run Tryz.prog w = .ok (.int .u8 ((letU 6).toNat : Int)) w := by kernel_rfl
theorem idx7 (w : World) : (Instr.index 106 (.agg LETC) (.int .i64 7)).run Tryz.prog w = .ok (.int .u8 ((letU 7).toNat : Int)) w := by kernel_rfl
theorem idx8 (w : World) : (Instr.index 106 (.agg LETC) (.int .i64 8)).run Tryz.prog w = .ok (.int .u8 ((letU 8).toNat : Int)) w := by kernel_rfl
theorem idx9 (w : World) : (Instr.index 106 (.agg LETC) (.int .i64 9)).run Tryz.prog w = .ok (.int .u8 ((letU 9).toNat : Int)) w := by kernel_rfl
theorem idx10 (w : World) : (Instr.index 106 (.agg LETC) (.int .i64 10)).run Tryz.prog w = .ok (.int .u8 ((letU 10).toNat : Int)) w := by kernel_rfl
theorem idx11 (w : World) : (Instr.index 106 (.agg LETC) (.int .i64 11)).run Tryz.prog w = .ok (.int .u8 ((letU 11).toNat : Int)) w := by kernel_rfl
theorem idx12 (w : World) : (Instr.index 106 (.agg LETC) (.int .i64 12)).run Tryz.prog w = .ok (.int .u8 ((letU 12).toNat : Int)) w := by kernel_rfl
theorem idx13 (w : World) : (Instr.index 106 (.agg LETC) (.int .i64 13)).run Tryz.prog w = .ok (.int .u8 ((letU 13).toNat : Int)) w := by kernel_rfl
theorem idx14 (w : World) : (Instr.index 106 (.agg LETC) (.int .i64 14)).run Tryz.prog w = .ok (.int .u8 ((letU 14).toNat : Int)) w := by kernel_rfl
theorem idx15 (w : World) : (Instr.index 106 (.agg LETC) (.int .i64 15)).run Tryz.prog w = .ok (.int .u8 ((letU 15).toNat : Int)) w := by kernel_rfl
theorem idx16 (w : World) : (Instr.index 106 (.agg LETC) (.int .i64 16)).run Tryz.prog w = .ok (.int .u8 ((letU 16).toNat : Int)) w := by kernel_rfl
theorem idx17 (w : World) : (Instr.index 106 (.agg LETC) (.int .i64 17)).run Tryz.prog w = .ok (.int .u8 ((letU 17).toNat : Int)) w := by kernel_rfl
theorem idx18 (w : World) : (Instr.index 106 (.agg LETC) (.int .i64 18)).run Tryz.prog w = .ok (.int .u8 ((letU 18).toNat : Int)) w := by kernel_rfl
theorem idx19 (w : World) : (Instr.index 106 (.agg LETC) (.int .i64 19)).run Tryz.prog w = .ok (.int .u8 ((letU 19).toNat : Int)) w := by kernel_rfl
theorem idx20 (w : World) : (Instr.index 106 (.agg LETC) (.int .i64 20)).run Tryz.prog w = .ok (.int .u8 ((letU 20).toNat : Int)) w := by kernel_rfl
theorem idx21 (w : World) : (Instr.index 106 (.agg LETC) (.int .i64 21)).run Tryz.prog w = .ok (.int .u8 ((letU 21).toNat : Int)) w := by kernel_rfl
theorem idx22 (w : World) : (Instr.index 106 (.agg LETC) (.int .i64 22)).run Tryz.prog w = .ok (.int .u8 ((letU 22).toNat : Int)) w := by kernel_rfl
theorem idx23 (w : World) : (Instr.index 106 (.agg LETC) (.int .i64 23)).run Tryz.prog w = .ok (.int .u8 ((letU 23).toNat : Int)) w := by kernel_rfl
theorem idx24 (w : World) : (Instr.index 106 (.agg LETC) (.int .i64 24)).run Tryz.prog w = .ok (.int .u8 ((letU 24).toNat : Int)) w := by kernel_rfl
theorem idx25 (w : World) : (Instr.index 106 (.agg LETC) (.int .i64 25)).run Tryz.prog w = .ok (.int .u8 ((letU 25).toNat : Int)) w := by kernel_rfl
theorem idx26 (w : World) : (Instr.index 106 (.agg LETC) (.int .i64 26)).run Tryz.prog w = .ok (.int .u8 ((letU 26).toNat : Int)) w := by kernel_rfl
theorem idx27 (w : World) : (Instr.index 106 (.agg LETC) (.int .i64 27)).run Tryz.prog w = .ok (.int .u8 ((letU 27).toNat : Int)) w := by kernel_rfl
theorem idx28 (w : World) : (Instr.index 106 (.agg LETC) (.int .i64 28)).run Tryz.prog w = .ok (.int .u8 ((letU 28).toNat : Int)) w := by kernel_rfl
theorem idx29 (w : World) : (Instr.index 106 (.agg LETC) (.int .i64 29)).run Tryz.prog w = .ok (.int .u8 ((letU 29).toNat : Int)) w := by kernel_rfl
theorem idx30 (w : World) : (Instr.index 106 (.agg LETC) (.int .i64 30)).run Tryz.prog w = .ok (.int .u8 ((letU 30).toNat : Int)) w := by kernel_rfl
theorem idx31 (w : World) : (Instr.index 106 (.agg LETC) (.int .i64 31)).run Tryz.prog w = .ok (.int .u8 ((letU 31).toNat : Int)) w := by kernel_rfl
theorem idx_at (k : Nat) (hk : k < 32) (w : World) : (Instr.index 106 (.agg LETC) (.int .i64 ((k : Nat) : Int))).run Tryz.prog w = .ok (.int .u8 ((letU k).toNat : Int)) w := by
  have h : k = 0 ∨ k = 1 ∨ k = 2 ∨ k = 3 ∨ k = 4 ∨ k = 5 ∨ k = 6 ∨ k = 7 ∨ k = 8 ∨ k = 9 ∨ k = 10 ∨ k = 11 ∨ k = 12 ∨ k = 13 ∨ k = 14 ∨ k = 15 ∨ k = 16 ∨ k = 17 ∨ k = 18 ∨ k = 19 ∨ k = 20 ∨ k = 21 ∨ k = 22 ∨ k = 23 ∨ k = 24 ∨ k = 25 ∨ k = 26 ∨ k = 27 ∨ k = 28 ∨ k = 29 ∨ k = 30 ∨ k = 31 := by omega
  rcases h with rfl | rfl | rfl | rfl | rfl | rfl | rfl | rfl | rfl | rfl | rfl | rfl | rfl | rfl | rfl | rfl | rfl | rfl | rfl | rfl | rfl | rfl | rfl | rfl | rfl | rfl | rfl | rfl | rfl | rfl | rfl | rfl
  · exact idx0 w
  · exact idx1 w
  · exact idx2 w
  · exact idx3 w
  · exact idx4 w
  · exact idx5 w
  · exact idx6 w
  · exact idx7 w
  · exact idx8 w
  · exact idx9 w
  · exact idx10 w
  · exact idx11 w
  · exact idx12 w
  · exact idx13 w
  · exact idx14 w
  · exact idx15 w
  · exact idx16 w
  · exact idx17 w
  · exact idx18 w
  · exact idx19 w
  · exact idx20 w
  · exact idx21 w
  · exact idx22 w
  · exact idx23 w
  · exact idx24 w
  · exact idx25 w
  · exact idx26 w
  · exact idx27 w
  · exact idx28 w
  · exact idx29 w
  · exact idx30 w
  · exact idx31 w

theorem law5 : Keyed Tryz.prog 5 := int_keyed Tryz.underlying5
theorem zero22 (w : World) : (zeroValue 38).run Tryz.prog w = .ok (.int .u64 0) w := by kernel_rfl
theorem mk37 (w : World) : (Instr.makeMap 142 (some (.int .i64 32))).run Tryz.prog w = .ok (.map (some w.heap.size)) (w.alloc (.map #[] 0)) := by kernel_rfl

def lit8 (c : UInt8) : Lit := .int .u8 (c.toNat : Int)
def lvD : Nat → DataW Unit
  | 0 => .map []
  | k + 1 => (lvD k).put (lit8 (letU k)) (.lit (.int .u64 (k : Int)))

theorem wf8 (c : UInt8) : (Lit.int .u8 (c.toNat : Int)).wf = true := by
  have := c.toNat_lt
  simp [Lit.wf, IntKind.min, IntKind.max, IntKind.signed, IntKind.bits]; omega

set_option maxRecDepth 100000 in
theorem lv_any (w : World) (hT : TabB w) :
    Calls Tryz.prog 114 #[] w fun e w' => e = .returned (.map (some w.heap.size)) ∧ w'.ownsMap Tryz.prog 5 (plainElem Tryz.prog 38) w.heap.size 32 (lvD 32) ∧ Below w.heap.size w w' := by
  have hmk := mk37
  have hbel0 : Below w.heap.size w (w.alloc (.map #[] 0)) := (Below.refl _ _).alloc (Nat.le_refl _) _
  obtain ⟨tt, fr, hg1⟩ := hT.below hbel0
  go_enter Tryz.func114, Tryz.ntmps114
  go_wp2_with (refine wpList_load_row rfl 106 _ rfl 0 rfl tt LETC fr _ hg1 Tryz.underlying106 rfl (by kernel_rfl) ?_)
  clear hmk hg1
  go_loopw [2, 3, 6] (fun _ _ i wr => ∃ k : Nat, k ≤ 32 ∧ i = .int .i64 k ∧ wr.ownsMap Tryz.prog 5 (plainElem Tryz.prog 38) w.heap.size k (lvD k) ∧ Below w.heap.size w wr) (fun _ _ i _ => 32 - (intOf i).toNat)
  case atStart => exact ⟨0, by omega, rfl, World.ownsMap_made _ _ _ _, hbel0⟩
  case round =>
    obtain ⟨k, hk, rfl, hown, hbel⟩ := hrel
    by_cases hlt : k < 32
    · have hix := idx_at k hlt
      have hkey : keyOf Tryz.prog 5 (.int .u8 ((letU k).toNat : Int)) = some (lit8 (letU k)) := keyOf_int_mk Tryz.underlying5 (wf8 _)
      have hwf : (Lit.int .u64 (k : Int)).wf = true := by simp [Lit.wf, IntKind.min, IntKind.max, IntKind.signed, IntKind.bits]; omega
      go_wp2_with (first
        | (at_mapUpdate; refine wpList_mapUpdate_own _ rfl _ _ _ 142 rfl 5 38 law5 Tryz.underlying142 _ w.heap.size k _ rfl hown (by unfold maxLen; omega) _ _ _ rfl rfl hkey _ [] (plainElem_int Tryz.underlying38 hwf) ?_)
        | go_in)
      intro w1 hown1 hg1
      go_wp2
      go_roundw
      case rel => exact ⟨k + 1, by omega, by go_num, hown1, hbel.grown hg1 hbel.size (fun j hj => by cases hj; exact Nat.le_refl _)⟩
      case measure => simp [intOf]; omega
    · obtain rfl : k = 32 := by omega
      go_wp2
      go_ret
      exact ⟨rfl, hown, hbel⟩

end Go.Proofs.YtkmhaemcpakobaaGreatDoor.wd
