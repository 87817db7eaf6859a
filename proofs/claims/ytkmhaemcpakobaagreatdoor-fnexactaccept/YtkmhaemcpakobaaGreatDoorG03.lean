import Derived.Test.YtkmhaemcpakobaaGreatDoorG02
import Derived.Test.YtkmhaemcpakobaaGreatDoorRows
import Derived.Test.YtkmhaemcpakobaaGreatDoorG01
import Derived.Deep.QuietTactic
import Derived.BigQuiet
import Derived.Lib.Hide
namespace Go.Proofs.YtkmhaemcpakobaaGreatDoor.wd
open Go.ChangeShapes Go.WideShapes Go.ChangeAt Go.RowKit Go.Deep Go.Maps
set_option linter.unusedVariables false
set_option maxRecDepth 100000

def idxTo (c : UInt8) (k : Nat) : Option Nat := (List.range k).find? fun j => letU j == c
def idxI (c : UInt8) : Int := match idxTo c 32 with | some j => (j : Int) | none => -1

theorem idxTo_succ (c : UInt8) (k : Nat) : idxTo c (k + 1) = match idxTo c k with | some j => some j | none => if letU k == c then some k else none := by
  unfold idxTo
  rw [List.range_succ, List.find?_append]
  cases (List.range k).find? fun j => letU j == c with
  | some j => rfl
  | none => simp [List.find?_cons]; split <;> simp_all

theorem idxTo_lt {c : UInt8} {k j : Nat} (h : idxTo c k = some j) : j < k := by
  have := List.mem_of_find?_eq_some h
  simpa using this

theorem idxTo_none {c : UInt8} {k : Nat} (h : idxTo c k = none) (j : Nat) (hj : j < k) : ¬ letU j = c := by
  have := List.find?_eq_none.1 h j (by simpa using hj)
  simpa using this

theorem letU_ne : ∀ i, i < 32 → ∀ j, j < 32 → letU i = letU j → i = j := by decide

theorem idxTo_some {c : UInt8} {k j : Nat} (h : idxTo c k = some j) : letU j = c := by
  have := List.find?_some h
  simpa using this

theorem idxTo_grow {c : UInt8} {k j : Nat} (hk : k < 32) (h : idxTo c (k + 1) = some j) : idxTo c 32 = some j := by
  have : ∀ n, k + 1 + n ≤ 32 → idxTo c (k + 1 + n) = some j := by
    intro n
    induction n with
    | zero => intro _; exact h
    | succ n ih => intro hn; rw [← Nat.add_assoc, idxTo_succ, ih (by omega)]
  have := this (31 - k) (by omega)
  rwa [show k + 1 + (31 - k) = 32 by omega] at this

theorem index_any (c : UInt8) (w : World) :
    Calls Tryz.prog 49 #[.int .u8 (c.toNat : Int)] w fun e w' => e = .returned (.int .i64 (idxI c)) ∧ w' = w := by
  go_enter Tryz.func49, Tryz.ntmps49
  go_wp2
  go_loop [3] (fun i => ∃ k : Nat, k ≤ 32 ∧ i = .int .i64 k ∧ idxTo c k = none) (fun i => 32 - (intOf i).toNat)
  case atStart => exact ⟨0, by omega, rfl, rfl⟩
  case round =>
    obtain ⟨k, hk, rfl, hno⟩ := hrel
    by_cases hlt : k < 32
    · have hidx := let_at k hlt
      have hs : Hid (idxTo c (k + 1) = if letU k == c then some k else none) := by
        show idxTo c (k + 1) = _
        rw [idxTo_succ, hno]
      by_cases he : letU k = c
      · have hF : Hid (idxI c = (k : Int)) := by
          show idxI c = _
          have := idxTo_grow hlt (by rw [hs.out, if_pos (by simpa using he)])
          simp [idxI, this]
        have he' : (((letU k).toNat : Int) == (c.toNat : Int)) = true := by rw [he]; simp
        go_wp2
        go_ret
        exact ⟨ret_int hF.out.symm, rfl⟩
      · have he' : (((letU k).toNat : Int) == (c.toNat : Int)) = false := by
          rw [beq_eq_false_iff_ne]
          intro h
          exact he (UInt8.toNat_inj.1 (by omega))
        go_wp2
        go_round
        case rel => exact ⟨k + 1, by omega, by go_num, by rw [hs.out, if_neg (by simpa using he)]⟩
        case measure => simp [intOf]; omega
    · obtain rfl : k = 32 := by omega
      go_wp2
      go_ret
      exact ⟨ret_int (by simp [idxI, hno]), rfl⟩

/-- What the map of letters holds. -/
theorem key8 (c : UInt8) : WideAt.IsKeyLit (lit8 c) := trivial

theorem lvD_map (k : Nat) : IsMap (lvD k) := by
  induction k with
  | zero => exact isMap_empty
  | succ k ih => exact ih.put _ _

theorem lit8_inj {a b : UInt8} (h : lit8 a = lit8 b) : a = b := by
  simp only [lit8, Lit.int.injEq, true_and] at h
  exact UInt8.toNat_inj.1 (by omega)

theorem lvD_at (c : UInt8) : ∀ k, k ≤ 32 → has (lvD k) (lit8 c) = (idxTo c k).isSome ∧ (lvD k).atKey (lit8 c) (.lit (.int .u64 0)) = .lit (.int .u64 (((idxTo c k).getD 0 : Nat) : Int)) := by
  intro k
  induction k with
  | zero => intro _; exact ⟨rfl, rfl⟩
  | succ k ih =>
    intro hk
    obtain ⟨h1, h2⟩ := ih (by omega)
    by_cases he : letU k = c
    · have hn : idxTo c k = none := by
        cases h : idxTo c k with
        | none => rfl
        | some j =>
          have := letU_ne j (by have := idxTo_lt h; omega) k (by omega) ((idxTo_some h).trans he.symm)
          have := idxTo_lt h
          omega
      have hs : idxTo c (k + 1) = some k := by rw [idxTo_succ, hn]; simp [he]
      subst he
      rw [hs]
      exact ⟨has_put_same (lvD_map k) (key8 _) _, atKey_put_same (lvD_map k) (key8 _) _ _⟩
    · have hne : lit8 c ≠ lit8 (letU k) := fun h => he (lit8_inj h).symm
      have hs : idxTo c (k + 1) = idxTo c k := by
        rw [idxTo_succ]
        cases h : idxTo c k with
        | none => simp [he]
        | some j => rfl
      rw [hs]
      exact ⟨(has_put_other hne _).trans h1, (atKey_put_other hne _ _).trans h2⟩

/-- What is read of the first k letters. -/
def rdTo (s : ByteArray) : Nat → Option Nat
  | 0 => some 0
  | k + 1 => match rdTo s k, idxTo (s.data.toList[k]?.getD 0) 32 with
    | some x, some v => if k = 0 ∧ 15 < v then none else some (x * 32 + v)
    | _, _ => none

theorem rd_bd (s : ByteArray) : ∀ k x, rdTo s (k + 1) = some x → 2 * x + 2 ≤ 32 ^ (k + 1) := by
  intro k
  induction k with
  | zero =>
    intro x h
    simp only [rdTo] at h
    split at h
    · rename_i y v h1 h2
      have := idxTo_lt h2
      split at h
      · cases h
      · rename_i hn; simp at hn; cases h; cases h1; omega
    · cases h
  | succ k ih =>
    intro x h
    unfold rdTo at h
    split at h
    · rename_i y v h1 h2
      have := idxTo_lt h2
      have := ih y h1
      split at h
      · cases h
      · cases h
        rw [Nat.pow_succ]
        omega
    · cases h

theorem rd_lt {s : ByteArray} {k x : Nat} (hk : k ≤ 12) (h : rdTo s k = some x) : x < 576460752303423488 := by
  match k, hk, h with
  | 0, _, h => cases h; omega
  | k + 1, hk, h =>
    have h1 := rd_bd s k x h
    have h2 : 32 ^ (k + 1) ≤ 32 ^ 12 := Nat.pow_le_pow_right (by omega) hk
    omega

theorem rd_none {s : ByteArray} {k : Nat} (h : rdTo s k = none) (n : Nat) : rdTo s (k + n) = none := by
  induction n with
  | zero => exact h
  | succ n ih => rw [← Nat.add_assoc]; unfold rdTo; rw [ih]

theorem rd_stop {s : ByteArray} {k : Nat} (hk : k < 13) (h : rdTo s (k + 1) = none) : rdTo s 13 = none := by
  have := rd_none h (12 - k)
  rwa [show k + 1 + (12 - k) = 13 by omega] at this

/-- The two answers of ReadWord32. -/
def rwX (s : ByteArray) : Int := if s.size = 13 then (((rdTo s 13).getD 0 : Nat) : Int) else 0
def rwB (s : ByteArray) : Bool := decide (s.size = 13) && (rdTo s 13).isSome

theorem get_at {s : ByteArray} {k : Nat} (h : k < s.size) : s.data.toList[k]?.getD 0 = s[k] := by
  rw [List.getElem?_eq_getElem (by simpa using h)]; rfl

theorem rd_step {s : ByteArray} {k x : Nat} (hk : k < s.size) (hx : rdTo s k = some x) : rdTo s (k + 1) = match idxTo s[k] 32 with | some v => if k = 0 ∧ 15 < v then none else some (x * 32 + v) | none => none := by
  have e := get_at hk
  unfold rdTo
  rw [hx, e]
  cases idxTo s[k] 32 <;> rfl

theorem ret_two {k : IntKind} {a b : Int} {c d : Bool} (h : a = b) (h2 : c = d) : Ending.returned (.tuple #[.int k a, .bool c]) = .returned (.tuple #[.int k b, .bool d]) := by rw [h, h2]

theorem index_none {c : UInt8} (h : Hid (idxTo c 32 = none)) (w : World) :
    Calls Tryz.prog 49 #[.int .u8 (c.toNat : Int)] w fun e w' => e = .returned (.int .i64 (-1)) ∧ w' = w :=
  (index_any c w).mono fun e w' ⟨he, hw⟩ => ⟨he.trans (ret_int (by simp [idxI, h.out])), hw⟩

theorem index_some {c : UInt8} {v : Nat} (h : Hid (idxTo c 32 = some v)) (w : World) :
    Calls Tryz.prog 49 #[.int .u8 (c.toNat : Int)] w fun e w' => e = .returned (.int .i64 (v : Int)) ∧ w' = w :=
  (index_any c w).mono fun e w' ⟨he, hw⟩ => ⟨he.trans (ret_int (by simp [idxI, h.out])), hw⟩

theorem rw_no {s : ByteArray} {k : Nat} (hz : s.size = 13) (hk : k < 13) (h : rdTo s (k + 1) = none) :
    Ending.returned (.tuple #[.int .u64 (rwX s), .bool (rwB s)]) = .returned (.tuple #[.int .u64 0, .bool false]) := by
  have := rd_stop hk h
  exact ret_two (by simp [rwX, this]) (by simp [rwB, this])

theorem mix_add {x v : Nat} (h : x < 576460752303423488) (hv : v < 32) : IntKind.u64.wrap (IntKind.u64.wrap ((x : Int) * 32) + (v : Int)) = ((x * 32 + v : Nat) : Int) := by
  rw [IntKind.wrap_u64, IntKind.wrap_u64]
  omega

theorem mix_or {x v : Nat} (h : x < 576460752303423488) (hv : v < 32) : bits BinOp.or IntKind.u64 (IntKind.u64.wrap ((x : Int) * 32)) (v : Int) = ((x * 32 + v : Nat) : Int) := by
  have e : IntKind.u64.wrap ((x : Int) * 32) = ((32 * x : Nat) : Int) := by rw [IntKind.wrap_u64]; omega
  rw [e, bits_or_u64_nat (32 * x) v (by omega) (by omega)]
  have := Nat.two_pow_add_eq_or_of_lt (i := 5) hv x
  rw [show (2 : Nat) ^ 5 = 32 from rfl] at this
  rw [← this, Nat.mul_comm]

theorem rspec_any (s : ByteArray) (hs : s.size ≤ 1048576) (w : World) :
    Calls Tryz.prog 29 #[.string s] w fun e w' => e = .returned (.tuple #[.int .u64 (rwX s), .bool (rwB s)]) ∧ w' = w := by
  by_cases hz : s.size = 13
  · have hz' : ((s.size : Int) == 13) = true := by rw [hz]; rfl
    have hzi : (s.size : Int) = 13 := by omega
    go_enter Tryz.func29, Tryz.ntmps29
    go_wp2
    go_loop [4, 5, 6] (fun y i _ => ∃ k x : Nat, k ≤ 13 ∧ i = .int .i64 k ∧ y = .int .u64 (x : Int) ∧ rdTo s k = some x) (fun _ i _ => 13 - (intOf i).toNat)
    case atStart => exact ⟨0, 0, by omega, rfl, rfl, rfl⟩
    case round =>
      obtain ⟨k, x, hk, rfl, rfl, hrd⟩ := hrel
      by_cases hlt : k < 13
      · have hks : k < s.size := by omega
        have hst : Hid (rdTo s (k + 1) = match idxTo s[k] 32 with | some v => if k = 0 ∧ 15 < v then none else some (x * 32 + v) | none => none) := rd_step hks hrd
        have hxb : Hid (x < 576460752303423488) := rd_lt (by omega : k ≤ 12) hrd
        have hki : (k : Int) < (s.size : Int) := by omega
        have HR : Hid (rdTo s k = some x) := hrd
        have HZ : Hid (s.size = 13) := hz
        clear hz hz' hzi hrd
        cases hi : idxTo s[k] 32 with
        | none =>
          have HI : Hid (idxTo s[k] 32 = none) := hi
          clear hi
          go_wp2_with (go_at_call 49; refine (index_none HI _).mono ?_; rintro e w' ⟨rfl, rfl⟩)
          go_ret2
          exact ⟨(rw_no HZ.out hlt (by rw [hst.out, HI.out])).symm, rfl⟩
        | some v =>
          have HI : Hid (idxTo s[k] 32 = some v) := hi
          have hv : v < 32 := idxTo_lt hi
          clear hi
          by_cases hc : k = 0 ∧ 15 < v
          · obtain ⟨rfl, hc⟩ := hc
            go_wp2_with (go_at_call 49; refine (index_some HI _).mono ?_; rintro e w' ⟨rfl, rfl⟩)
            go_ret2
            exact ⟨(rw_no HZ.out hlt (by rw [hst.out, HI.out]; simp [hc])).symm, rfl⟩
          · have hnx : Hid (rdTo s (k + 1) = some (x * 32 + v)) := by
              show rdTo s (k + 1) = _
              rw [hst.out, HI.out]
              simp only [if_neg hc]
            by_cases hk0 : k = 0
            · have hv15 : v ≤ 15 := by omega
              subst hk0
              go_wp2_with (go_at_call 49; refine (index_some HI _).mono ?_; rintro e w' ⟨rfl, rfl⟩)
              go_round
              case rel => exact ⟨0 + 1, x * 32 + v, by omega, by go_num, by rw [mix_add hxb.out hv], hnx.out⟩
              case measure => simp [intOf]
            · have hk0' : ((k : Int) == 0) = false := by simp; omega
              go_wp2_with (go_at_call 49; refine (index_some HI _).mono ?_; rintro e w' ⟨rfl, rfl⟩)
              go_round
              case rel => exact ⟨k + 1, x * 32 + v, by omega, by go_num, by rw [mix_add hxb.out hv], hnx.out⟩
              case measure => simp [intOf]; omega
      · obtain rfl : k = 13 := by omega
        go_wp2
        go_ret2
        exact ⟨ret_two (by simp [rwX, hz, hrd]) (by simp [rwB, hz, hrd]), rfl⟩
  · have hz' : ((s.size : Int) == 13) = false := by simp; omega
    go_enter Tryz.func29, Tryz.ntmps29
    go_wp2
    go_ret2
    exact ⟨ret_two (by simp [rwX, hz]) (by simp [rwB, hz]), rfl⟩

theorem lv_c {c : UInt8} {z : Int} {v : Nat} (h : idxTo c 32 = some v) (hat : (lvD 32).atKey (lit8 c) (.lit (.int .u64 0)) = .lit (.int .u64 z)) : z = (v : Int) := by
  have := (lvD_at c 32 (Nat.le_refl _)).2
  rw [hat, h] at this
  simpa using this

theorem lv_has {c : UInt8} {v : Nat} (h : idxTo c 32 = some v) : Maps.has (lvD 32) (lit8 c) = true := by
  rw [(lvD_at c 32 (Nat.le_refl _)).1, h]; rfl

theorem lv_hasnt {c : UInt8} (h : idxTo c 32 = none) : Maps.has (lvD 32) (lit8 c) = false := by
  rw [(lvD_at c 32 (Nat.le_refl _)).1, h]; rfl

theorem rword_any (s : ByteArray) (hs : s.size ≤ 1048576) (mb : Nat) (w : World) (hown : w.ownsMap Tryz.prog 5 (plainElem Tryz.prog 38) mb 32 (lvD 32)) :
    Calls Tryz.prog 113 #[.string s, .map (some mb)] w fun e w' => e = .returned (.tuple #[.int .u64 (rwX s), .bool (rwB s)]) ∧ w' = w := by
  by_cases hz : s.size = 13
  · have hz' : ((s.size : Int) == 13) = true := by rw [hz]; rfl
    have hzi : (s.size : Int) = 13 := by omega
    go_enter Tryz.func113, Tryz.ntmps113
    go_wp2
    go_loop [6, 7, 8, 9, 13] (fun y _ _ _ i => ∃ k x : Nat, k ≤ 13 ∧ i = .int .i64 k ∧ y = .int .u64 (x : Int) ∧ rdTo s k = some x) (fun _ _ _ _ i => 13 - (intOf i).toNat)
    case atStart => exact ⟨0, 0, by omega, rfl, rfl, rfl⟩
    case round =>
      obtain ⟨k, x, hk, rfl, rfl, hrd⟩ := hrel
      by_cases hlt : k < 13
      · have hks : k < s.size := by omega
        have hst : Hid (rdTo s (k + 1) = match idxTo s[k] 32 with | some v => if k = 0 ∧ 15 < v then none else some (x * 32 + v) | none => none) := rd_step hks hrd
        have hxb : Hid (x < 576460752303423488) := rd_lt (by omega : k ≤ 12) hrd
        have hki : (k : Int) < (s.size : Int) := by omega
        have HR : Hid (rdTo s k = some x) := hrd
        have HZ : Hid (s.size = 13) := hz
        have hkey : keyOf Tryz.prog 5 (.int .u8 (s[k].toNat : Int)) = some (lit8 s[k]) := keyOf_int_mk Tryz.underlying5 (wf8 _)
        clear hz hz' hzi hrd
        cases hi : idxTo s[k] 32 with
        | none =>
          have HI : Hid (idxTo s[k] 32 = none) := hi
          have hh := lv_hasnt hi
          clear hi
          go_wp2_with (first
            | (at_lookup; refine wpList_lookup_own_ok_int _ rfl _ _ 142 rfl 5 38 .u64 law5 Tryz.underlying142 Tryz.underlying38 (zero22 _) mb 32 (lvD 32) rfl hown _ _ rfl hkey ?_; intro c hat hwc; clear hat hwc)
            | go_in)
          go_ret2
          exact ⟨(rw_no HZ.out hlt (by rw [hst.out, HI.out])).symm, rfl⟩
        | some v =>
          have HI : Hid (idxTo s[k] 32 = some v) := hi
          have hv : v < 32 := idxTo_lt hi
          have hh := lv_has hi
          have hC : Hid (∀ z, (lvD 32).atKey (lit8 s[k]) (.lit (.int .u64 0)) = .lit (.int .u64 z) → z = (v : Int)) := fun z h => lv_c hi h
          clear hi
          by_cases hc : k = 0 ∧ 15 < v
          · obtain ⟨rfl, hc⟩ := hc
            go_wp2_with (first
              | (at_lookup; refine wpList_lookup_own_ok_int _ rfl _ _ 142 rfl 5 38 .u64 law5 Tryz.underlying142 Tryz.underlying38 (zero22 _) mb 32 (lvD 32) rfl hown _ _ rfl hkey ?_; intro c hat hwc; obtain rfl := hC.out c hat; clear hat hwc)
              | go_in)
            go_ret2
            exact ⟨(rw_no HZ.out hlt (by rw [hst.out, HI.out]; simp [hc])).symm, rfl⟩
          · have hnx : Hid (rdTo s (k + 1) = some (x * 32 + v)) := by
              show rdTo s (k + 1) = _
              rw [hst.out, HI.out]
              simp only [if_neg hc]
            by_cases hk0 : k = 0
            · have hv15 : v ≤ 15 := by omega
              subst hk0
              go_wp2_with (first
                | (at_lookup; refine wpList_lookup_own_ok_int _ rfl _ _ 142 rfl 5 38 .u64 law5 Tryz.underlying142 Tryz.underlying38 (zero22 _) mb 32 (lvD 32) rfl hown _ _ rfl hkey ?_; intro c hat hwc; obtain rfl := hC.out c hat; clear hat hwc)
                | go_in)
              go_round
              case rel => exact ⟨0 + 1, x * 32 + v, by omega, by go_num, by rw [mix_or hxb.out hv], hnx.out⟩
              case measure => simp [intOf]
            · have hk0' : ((k : Int) == 0) = false := by simp; omega
              go_wp2_with (first
                | (at_lookup; refine wpList_lookup_own_ok_int _ rfl _ _ 142 rfl 5 38 .u64 law5 Tryz.underlying142 Tryz.underlying38 (zero22 _) mb 32 (lvD 32) rfl hown _ _ rfl hkey ?_; intro c hat hwc; obtain rfl := hC.out c hat; clear hat hwc)
                | go_in)
              go_round
              case rel => exact ⟨k + 1, x * 32 + v, by omega, by go_num, by rw [mix_or hxb.out hv], hnx.out⟩
              case measure => simp [intOf]; omega
      · obtain rfl : k = 13 := by omega
        go_wp2
        go_ret2
        exact ⟨ret_two (by simp [rwX, hz, hrd]) (by simp [rwB, hz, hrd]), rfl⟩
  · have hz' : ((s.size : Int) == 13) = false := by simp; omega
    go_enter Tryz.func113, Tryz.ntmps113
    go_wp2
    go_ret2
    exact ⟨ret_two (by simp [rwX, hz]) (by simp [rwB, hz]), rfl⟩

theorem rimpl_any (s : ByteArray) (hs : s.size ≤ 1048576) (w : World) (hT : TabB w) :
    Calls Tryz.prog 89 #[.string s] w fun e w' => e = .returned (.tuple #[.int .u64 (rwX s), .bool (rwB s)]) ∧ Below w.heap.size w w' := by
  go_enter Tryz.func89, Tryz.ntmps89
  go_wp2_with (first
    | (go_at_call 114; refine (lv_any _ hT).mono ?_; rintro e w1 ⟨rfl, hown, hbel⟩)
    | (go_at_call 113; refine (rword_any s hs _ _ hown).mono ?_; rintro e w2 ⟨rfl, rfl⟩))
  go_ret2
  exact ⟨rfl, hbel⟩

end Go.Proofs.YtkmhaemcpakobaaGreatDoor.wd

namespace Go.Proofs.YtkmhaemcpakobaaGreatDoor.nm
open Go.ChangeShapes Go.WideShapes Go.ChangeAt Go.RowKit Go.Deep
set_option linter.unusedVariables false

def letB (c : Int) : Bool := decide (97 ≤ c ∧ c ≤ 122 ∨ 65 ≤ c ∧ c ≤ 90)
def digB (c : Int) : Bool := decide (48 ≤ c ∧ c ≤ 57)
def okB (c : Int) : Bool := letB c || digB c || (c == 45) || (c == 95) || (c == 46) || (c == 43)

theorem letter_any (c : Int) (w : World) :
    Calls Tryz.prog 82 #[.int .u8 c] w fun e w' => e = .returned (.bool (letB c)) ∧ w' = w := by
  go_enter Tryz.func82, Tryz.ntmps82
  go_wp2
  all_goals go_ret
  all_goals refine ⟨ret_bool ?_, rfl⟩
  all_goals (rw [Bool.eq_iff_iff]; simp [letB]; omega)

theorem digit_any (c : Int) (w : World) :
    Calls Tryz.prog 48 #[.int .u8 c] w fun e w' => e = .returned (.bool (digB c)) ∧ w' = w := by
  go_enter Tryz.func48, Tryz.ntmps48
  go_wp2
  all_goals go_ret
  all_goals refine ⟨ret_bool ?_, rfl⟩
  all_goals (rw [Bool.eq_iff_iff]; simp [digB]; omega)

theorem isLetter_any (c : Int) (w : World) :
    Calls Tryz.prog 146 #[.int .i32 c] w fun e w' => e = .returned (.bool (letB c)) ∧ w' = w := by
  go_enter Tryz.func146, Tryz.ntmps146
  go_wp2
  all_goals go_ret
  all_goals refine ⟨ret_bool ?_, rfl⟩
  all_goals (rw [Bool.eq_iff_iff]; simp [letB]; omega)

theorem isDigit_any (c : Int) (w : World) :
    Calls Tryz.prog 147 #[.int .i32 c] w fun e w' => e = .returned (.bool (digB c)) ∧ w' = w := by
  go_enter Tryz.func147, Tryz.ntmps147
  go_wp2
  all_goals go_ret
  all_goals refine ⟨ret_bool ?_, rfl⟩
  all_goals (rw [Bool.eq_iff_iff]; simp [digB]; omega)

theorem inName_any (c : Int) (h0 : 0 ≤ c) (h1 : c ≤ 255) (w : World) :
    Calls Tryz.prog 117 #[.int .u8 c] w fun e w' => e = .returned (.bool (okB c)) ∧ w' = w := by
  go_enter Tryz.func117, Tryz.ntmps117
  go_wp2_with (first
    | (go_at_call 146; refine (isLetter_any _ _).mono ?_; rintro e w' ⟨rfl, rfl⟩)
    | (go_at_call 147; refine (isDigit_any _ _).mono ?_; rintro e w' ⟨rfl, rfl⟩))
  all_goals go_ret
  all_goals refine ⟨ret_bool ?_, rfl⟩
  all_goals simp [okB, *]

def allOk (s : ByteArray) (k : Nat) : Bool := (s.data.toList.take k).all fun c => okB (c.toNat : Int)
def nameB (s : ByteArray) : Bool := decide (1 ≤ s.size) && decide (s.size ≤ 60) && !(((s.data.toList[0]?.getD 0).toNat : Int) == 46) && allOk s s.size

theorem take_snoc (s : ByteArray) (k : Nat) (h : k < s.size) : s.data.toList.take (k + 1) = s.data.toList.take k ++ [s[k]] := by
  rw [List.take_succ_eq_append_getElem (by simpa using h)]; rfl

theorem allOk_succ (s : ByteArray) (k : Nat) (h : k < s.size) : allOk s (k + 1) = (allOk s k && okB (s[k].toNat : Int)) := by
  unfold allOk
  rw [take_snoc s k h, List.all_append]
  simp

theorem allOk_false {s : ByteArray} {k : Nat} (h : k < s.size) (ho : okB (s[k].toNat : Int) = false) : allOk s s.size = false := by
  rw [Bool.eq_false_iff]
  intro hall
  unfold allOk at hall
  rw [List.all_eq_true] at hall
  have := hall s[k] (by rw [List.take_of_length_le (by simp)]; exact List.getElem_mem (l := s.data.toList) (by simpa using h))
  rw [ho] at this
  cases this

theorem get0 {s : ByteArray} (h : 0 < s.size) : s.data.toList[0]?.getD 0 = s[0] := by
  rw [List.getElem?_eq_getElem (by simpa using h)]; rfl

theorem name_dot {s : ByteArray} (h0 : 0 < s.size) (h3 : ((s[0].toNat : Int) == 46) = true) : nameB s = false := by
  unfold nameB
  rw [get0 h0, h3]
  simp

theorem impl_any (s : ByteArray) (hs : s.size ≤ 1048576) (w : World) :
    Calls Tryz.prog 94 #[.string s] w fun e w' => e = .returned (.bool (nameB s)) ∧ w' = w := by
  by_cases h1 : s.size < 1
  · go_enter Tryz.func94, Tryz.ntmps94
    go_wp2
    go_ret
    exact ⟨ret_bool (by simp [nameB]; omega), rfl⟩
  by_cases h2 : 60 < s.size
  · go_enter Tryz.func94, Tryz.ntmps94
    go_wp2
    go_ret
    exact ⟨ret_bool (by simp [nameB]; omega), rfl⟩
  have h0 : 0 < s.size := by omega
  by_cases h3 : ((s[0].toNat : Int) == 46) = true
  · go_enter Tryz.func94, Tryz.ntmps94
    go_wp2
    go_ret
    exact ⟨ret_bool (name_dot h0 h3).symm, rfl⟩
  have h3' : ((s[0].toNat : Int) == 46) = false := by simpa using h3
  have hn : Hid (nameB s = allOk s s.size) := by
    show nameB s = allOk s s.size
    unfold nameB
    rw [get0 h0, h3']
    simp
    omega
  clear h3
  go_enter Tryz.func94, Tryz.ntmps94
  go_wp2
  go_loop [3, 19] (fun x i => ∃ k : Nat, k ≤ s.size ∧ i = .int .i64 k ∧ allOk s k = true) (fun _ i => s.size - (intOf i).toNat)
  case atStart => exact ⟨0, Nat.zero_le _, rfl, by simp [allOk]⟩
  case round =>
    obtain ⟨k, hk, rfl, hok⟩ := hrel
    by_cases hlt : k < s.size
    · have hsn : Hid (allOk s (k + 1) = (allOk s k && okB (s[k].toNat : Int))) := allOk_succ s k hlt
      have hb : (0 : Int) ≤ (s[k].toNat : Int) ∧ (s[k].toNat : Int) ≤ 255 := ⟨by omega, by have := s[k].toNat_lt; omega⟩
      by_cases ho : okB (s[k].toNat : Int) = true
      · go_wp2_with (go_at_call 117; refine (inName_any _ hb.1 hb.2 _).mono ?_; rintro e w' ⟨rfl, rfl⟩)
        go_round
        case rel => exact ⟨k + 1, by omega, by go_num, by rw [hsn.out, hok, ho]; rfl⟩
        case measure => simp [intOf]; omega
      · have ho' : okB (s[k].toNat : Int) = false := by simpa using ho
        have hF : Hid (allOk s s.size = false) := allOk_false hlt ho'
        go_wp2_with (go_at_call 117; refine (inName_any _ hb.1 hb.2 _).mono ?_; rintro e w' ⟨rfl, rfl⟩)
        go_ret
        exact ⟨ret_bool (by rw [hn.out, hF.out]), rfl⟩
    · obtain rfl : k = s.size := by omega
      go_wp2
      go_ret
      exact ⟨ret_bool (by rw [hn.out, hok]), rfl⟩

theorem spec_any (s : ByteArray) (hs : s.size ≤ 1048576) (w : World) :
    Calls Tryz.prog 58 #[.string s] w fun e w' => e = .returned (.bool (nameB s)) ∧ w' = w := by
  by_cases h1 : s.size < 1
  · go_enter Tryz.func58, Tryz.ntmps58
    go_wp2
    go_ret
    exact ⟨ret_bool (by simp [nameB]; omega), rfl⟩
  by_cases h2 : 60 < s.size
  · go_enter Tryz.func58, Tryz.ntmps58
    go_wp2
    go_ret
    exact ⟨ret_bool (by simp [nameB]; omega), rfl⟩
  have h0 : 0 < s.size := by omega
  by_cases h3 : ((s[0].toNat : Int) == 46) = true
  · go_enter Tryz.func58, Tryz.ntmps58
    go_wp2
    go_ret
    exact ⟨ret_bool (name_dot h0 h3).symm, rfl⟩
  have h3' : ((s[0].toNat : Int) == 46) = false := by simpa using h3
  have hn : Hid (nameB s = allOk s s.size) := by
    show nameB s = allOk s s.size
    unfold nameB
    rw [get0 h0, h3']
    simp
    omega
  clear h3
  go_enter Tryz.func58, Tryz.ntmps58
  go_wp2
  go_loop [3, 4] (fun i x => ∃ k : Nat, k ≤ s.size ∧ i = .int .i64 k ∧ allOk s k = true) (fun i _ => s.size - (intOf i).toNat)
  case atStart => exact ⟨0, Nat.zero_le _, rfl, by simp [allOk]⟩
  case round =>
    obtain ⟨k, hk, rfl, hok⟩ := hrel
    by_cases hlt : k < s.size
    · have hsn : Hid (allOk s (k + 1) = (allOk s k && okB (s[k].toNat : Int))) := allOk_succ s k hlt
      have hb : (0 : Int) ≤ (s[k].toNat : Int) ∧ (s[k].toNat : Int) ≤ 255 := ⟨by omega, by have := s[k].toNat_lt; omega⟩
      go_wp2_with (first | (go_at_call 82; refine (letter_any _ _).mono ?_; rintro e w' ⟨rfl, rfl⟩) | (go_at_call 48; refine (digit_any _ _).mono ?_; rintro e w' ⟨rfl, rfl⟩))
      all_goals first
        | (go_round
           case rel => exact ⟨k + 1, by omega, by go_num, by rw [hsn.out, hok]; simp [okB, *] <;> (rename_i h; simp at h; omega)⟩
           case measure => simp [intOf]; omega)
        | (go_ret
           exact ⟨ret_bool (by rw [hn.out, allOk_false hlt (by simp [okB, *] <;> (rename_i h; simp at h; omega))]), rfl⟩)
    · obtain rfl : k = s.size := by omega
      go_wp2
      go_ret
      exact ⟨ret_bool (by rw [hn.out, hok]), rfl⟩

end Go.Proofs.YtkmhaemcpakobaaGreatDoor.nm

namespace Go.Proofs.YtkmhaemcpakobaaGreatDoor.wd
open Go.ChangeShapes Go.WideShapes Go.ChangeAt Go.RowKit Go.Deep Go.Maps
set_option linter.unusedVariables false
set_option maxRecDepth 100000

def aokB (s : ByteArray) : Bool := decide (15 ≤ s.size) && ((((s.data.toList[13]?.getD 0).toNat : Int) == 45) && (rwB (s.extract 0 13) && nm.nameB (s.extract 14 s.size)))

theorem rspec_b {s : ByteArray} (hs : Hid (s.size ≤ 1048576)) {b : Bool} (h : Hid (rwB s = b)) (w : World) :
    Calls Tryz.prog 29 #[.string s] w fun e w' => ∃ x, e = .returned (.tuple #[.int .u64 x, .bool b]) ∧ w' = w :=
  (rspec_any s hs.out w).mono fun e w' ⟨he, hw⟩ => ⟨_, he.trans (ret_two rfl h.out), hw⟩

theorem rword_b {s : ByteArray} (hs : Hid (s.size ≤ 1048576)) {b : Bool} (h : Hid (rwB s = b)) {mb : Nat} {w : World} (hown : w.ownsMap Tryz.prog 5 (plainElem Tryz.prog 38) mb 32 (lvD 32)) :
    Calls Tryz.prog 113 #[.string s, .map (some mb)] w fun e w' => ∃ x, e = .returned (.tuple #[.int .u64 x, .bool b]) ∧ w' = w :=
  (rword_any s hs.out mb w hown).mono fun e w' ⟨he, hw⟩ => ⟨_, he.trans (ret_two rfl h.out), hw⟩

theorem nspec_b {s : ByteArray} (hs : Hid (s.size ≤ 1048576)) {b : Bool} (h : Hid (nm.nameB s = b)) (w : World) :
    Calls Tryz.prog 58 #[.string s] w fun e w' => e = .returned (.bool b) ∧ w' = w :=
  (nm.spec_any s hs.out w).mono fun e w' ⟨he, hw⟩ => ⟨he.trans (ret_bool h.out), hw⟩

theorem nimpl_b {s : ByteArray} (hs : Hid (s.size ≤ 1048576)) {b : Bool} (h : Hid (nm.nameB s = b)) (w : World) :
    Calls Tryz.prog 94 #[.string s] w fun e w' => e = .returned (.bool b) ∧ w' = w :=
  (nm.impl_any s hs.out w).mono fun e w' ⟨he, hw⟩ => ⟨he.trans (ret_bool h.out), hw⟩

theorem aspec_any (s : ByteArray) (hs : s.size ≤ 1048576) (w : World) :
    Calls Tryz.prog 38 #[.string s] w fun e w' => e = .returned (.bool (aokB s)) ∧ w' = w := by
  by_cases h1 : s.size < 15
  · go_enter Tryz.func38, Tryz.ntmps38
    go_wp2
    go_ret
    exact ⟨ret_bool (by simp [aokB]; omega), rfl⟩
  have h13 : 13 < s.size := by omega
  have i1 : (13 : Int) < (s.size : Int) := by omega
  have HG : Hid (s.data.toList[13]?.getD 0 = s[13]) := get_at h13
  by_cases h2 : ((s[13].toNat : Int) == 45) = true
  · have hA : Hid (aokB s = (rwB (s.extract 0 13) && nm.nameB (s.extract 14 s.size))) := by
      show aokB s = _
      unfold aokB
      rw [HG.out, h2]
      simp
      omega
    have hz : Hid ((s.extract 0 13).size ≤ 1048576) := by show _ ≤ _; simp; omega
    have hz2 : Hid ((s.extract 14 s.size).size ≤ 1048576) := by show _ ≤ _; simp; omega
    have hne : ((s[13].toNat : Int) != 45) = false := by simpa using h2
    clear h2
    obtain ⟨b, HB⟩ : ∃ b, Hid (rwB (s.extract 0 13) = b) := ⟨_, rfl⟩
    obtain ⟨c, HC⟩ : ∃ c, Hid (nm.nameB (s.extract 14 s.size) = c) := ⟨_, rfl⟩
    have hA' : Hid (aokB s = (b && c)) := by
      show aokB s = _
      rw [hA.out, HB.out, HC.out]
    have i2 : ¬ (s.size : Int) < 15 := by omega
    clear hA HG h1 i1
    have i1 : (13 : Int) < (s.size : Int) := by omega

    cases b
    · go_enter Tryz.func38, Tryz.ntmps38
      go_wp2_with (go_at_call 29; refine (rspec_b hz HB _).mono ?_; rintro e w' ⟨x, rfl, rfl⟩)
      go_ret
      exact ⟨ret_bool hA'.out.symm, rfl⟩
    · go_enter Tryz.func38, Tryz.ntmps38
      go_wp2_with (first
        | (go_at_call 29; refine (rspec_b hz HB _).mono ?_; rintro e w' ⟨x, rfl, rfl⟩)
        | (go_at_call 58; refine (nspec_b hz2 HC _).mono ?_; rintro e w' ⟨rfl, rfl⟩))
      go_ret
      exact ⟨ret_bool (by rw [hA'.out]; rfl), rfl⟩
  · have h2' : ((s[13].toNat : Int) == 45) = false := by simpa using h2
    have hA : Hid (aokB s = false) := by
      show aokB s = _
      unfold aokB
      rw [HG.out, h2']
      simp
    have hne : ((s[13].toNat : Int) != 45) = true := by simpa using h2
    clear h2 h2'
    go_enter Tryz.func38, Tryz.ntmps38
    go_wp2
    go_ret
    exact ⟨ret_bool hA.out.symm, rfl⟩

theorem isadr_any (s : ByteArray) (hs : s.size ≤ 1048576) (mb : Nat) (w : World) (hown : w.ownsMap Tryz.prog 5 (plainElem Tryz.prog 38) mb 32 (lvD 32)) :
    Calls Tryz.prog 115 #[.string s, .map (some mb)] w fun e w' => e = .returned (.bool (aokB s)) ∧ w' = w := by
  by_cases h1 : s.size ≤ 13
  · go_enter Tryz.func115, Tryz.ntmps115
    go_wp2
    go_ret
    exact ⟨ret_bool (by simp [aokB]; omega), rfl⟩
  have h13 : 13 < s.size := by omega
  have i1 : (13 : Int) < (s.size : Int) := by omega
  have HG : Hid (s.data.toList[13]?.getD 0 = s[13]) := get_at h13
  by_cases h2 : ((s[13].toNat : Int) == 45) = true
  · have hA : Hid (aokB s = (rwB (s.extract 0 13) && nm.nameB (s.extract 14 s.size))) := by
      show aokB s = _
      unfold aokB
      rw [HG.out, h2]
      by_cases h15 : 15 ≤ s.size
      · simp [h15]
      · have : nm.nameB (s.extract 14 s.size) = false := by simp [nm.nameB]; omega
        simp [h15, this]
    have hz : Hid ((s.extract 0 13).size ≤ 1048576) := by show _ ≤ _; simp; omega
    have hz2 : Hid ((s.extract 14 s.size).size ≤ 1048576) := by show _ ≤ _; simp; omega
    have hne : ((s[13].toNat : Int) != 45) = false := by simpa using h2
    clear h2
    obtain ⟨b, HB⟩ : ∃ b, Hid (rwB (s.extract 0 13) = b) := ⟨_, rfl⟩
    obtain ⟨c, HC⟩ : ∃ c, Hid (nm.nameB (s.extract 14 s.size) = c) := ⟨_, rfl⟩
    have hA' : Hid (aokB s = (b && c)) := by
      show aokB s = _
      rw [hA.out, HB.out, HC.out]
    have i2 : ¬ (s.size : Int) ≤ 13 := by omega
    clear hA HG h1 i1
    have i1 : (13 : Int) < (s.size : Int) := by omega
    cases b
    · go_enter Tryz.func115, Tryz.ntmps115
      go_wp2_with (go_at_call 113; refine (rword_b hz HB hown).mono ?_; rintro e w1 ⟨x, rfl, rfl⟩)
      go_ret
      exact ⟨ret_bool hA'.out.symm, rfl⟩
    · go_enter Tryz.func115, Tryz.ntmps115
      go_wp2_with (first
        | (go_at_call 113; refine (rword_b hz HB hown).mono ?_; rintro e w1 ⟨x, rfl, rfl⟩)
        | (go_at_call 94; refine (nimpl_b hz2 HC _).mono ?_; rintro e w' ⟨rfl, rfl⟩))
      go_ret
      exact ⟨ret_bool (by rw [hA'.out]; rfl), rfl⟩
  · have h2' : ((s[13].toNat : Int) == 45) = false := by simpa using h2
    have hA : Hid (aokB s = false) := by
      show aokB s = _
      unfold aokB
      rw [HG.out, h2']
      simp
    have hne : ((s[13].toNat : Int) != 45) = true := by simpa using h2
    clear h2 h2'
    go_enter Tryz.func115, Tryz.ntmps115
    go_wp2
    go_ret
    exact ⟨ret_bool hA.out.symm, rfl⟩

theorem aimpl_any (s : ByteArray) (hs : s.size ≤ 1048576) (w : World) (hT : TabB w) :
    Calls Tryz.prog 91 #[.string s] w fun e w' => e = .returned (.bool (aokB s)) ∧ Below w.heap.size w w' := by
  go_enter Tryz.func91, Tryz.ntmps91
  go_wp2_with (first
    | (go_at_call 114; refine (lv_any _ hT).mono ?_; rintro e w1 ⟨rfl, hown, hbel⟩)
    | (go_at_call 115; refine (isadr_any s hs _ _ hown).mono ?_; rintro e w2 ⟨rfl, rfl⟩))
  go_ret
  exact ⟨rfl, hbel⟩

end Go.Proofs.YtkmhaemcpakobaaGreatDoor.wd

namespace Go.Proofs.YtkmhaemcpakobaaGreatDoor.mt
open Go.ChangeShapes Go.WideShapes Go.ChangeAt Go.RowKit Go.Deep Go.Maps
set_option linter.unusedVariables false
set_option linter.unusedSimpArgs false

/-! ### Ascending addresses -/

def adA (l : List ByteArray) (n : Nat) : Bool := (List.range n).all fun i => wd.aokB (st.atS l i)
def ltA (l : List ByteArray) (i : Nat) : Bool := decide (i = 0) || Op.bytesLess (st.atS l (i - 1)).toList (st.atS l i).toList
def asA (l : List ByteArray) (n : Nat) : Bool := (List.range n).all fun i => ltA l i

theorem adA_succ {l : List ByteArray} {k : Nat} (h : adA l k = true) (hk : wd.aokB (st.atS l k) = true) : adA l (k + 1) = true := by
  unfold adA at h ⊢
  rw [List.range_succ, List.all_append, h]
  simpa using hk
theorem adA_no {l : List ByteArray} {k n : Nat} (hn : k < n) (hk : wd.aokB (st.atS l k) = false) : adA l n = false := by
  unfold adA
  rw [List.all_eq_false]
  exact ⟨k, List.mem_range.2 hn, by rw [hk]; decide⟩
theorem asA_succ {l : List ByteArray} {k : Nat} (h : asA l k = true) (hk : ltA l k = true) : asA l (k + 1) = true := by
  unfold asA at h ⊢
  rw [List.range_succ, List.all_append, h]
  simpa using hk
theorem asA_no {l : List ByteArray} {k n : Nat} (hn : k < n) (hk : ltA l k = false) : asA l n = false := by
  unfold asA
  rw [List.all_eq_false]
  exact ⟨k, List.mem_range.2 hn, by rw [hk]; decide⟩
theorem adA_zero (l : List ByteArray) : adA l 0 = true := rfl
theorem asA_zero (l : List ByteArray) : asA l 0 = true := rfl

end Go.Proofs.YtkmhaemcpakobaaGreatDoor.mt
