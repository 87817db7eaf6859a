import Derived.Test.YthbgpfjbfkiljaaGreatDoorG06
import Derived.Test.YthbgpfjbfkiljaaGreatDoorG01
import Derived.Deep.RegionHeld3
import Derived.Sort.Walk0
import Derived.Lib.Hide
set_option linter.unusedVariables false
set_option linter.unusedSimpArgs false
set_option maxRecDepth 100000
set_option maxHeartbeats 16000000
namespace Go.Proofs.YthbgpfjbfkiljaaGreatDoor.wd
open Go.ChangeShapes Go.WideShapes Go.ChangeAt Go.RowKit Go.Deep Go.Maps
def idxTo (c : UInt8) (k : Nat) : Option Nat := (List.range k).find? fun j => letU j == c
def idxI (c : UInt8) : Int := match idxTo c 32 with | some j => (j : Int) | none => -1
theorem idxTo_succ (c : UInt8) (k : Nat) : idxTo c (k + 1) = match idxTo c k with | some j => some j | none => if letU k == c then some k else none := by
 unfold idxTo
 rw [List.range_succ, List.find?_append]
 cases (List.range k).find? fun j => letU j == c with
 | some j => rfl
 | none => simp [List.find?_cons]; split <;> simp_all
theorem idxTo_lt {c : UInt8} {k j : Nat} (h : idxTo c k = some j) : j < k := by
 have := List.mem_of_find?_eq_some h
 simpa using this
theorem letU_ne : ∀ i, i < 32 → ∀ j, j < 32 → letU i = letU j → i = j := by decide
theorem idxTo_some {c : UInt8} {k j : Nat} (h : idxTo c k = some j) : letU j = c := by
 have := List.find?_some h
 simpa using this
theorem idxTo_grow {c : UInt8} {k j : Nat} (hk : k < 32) (h : idxTo c (k + 1) = some j) : idxTo c 32 = some j := by
 have : ∀ n, k + 1 + n ≤ 32 → idxTo c (k + 1 + n) = some j := by
  intro n
  induction n with
  | zero => intro _; exact h
  | succ n ih => intro hn; rw [← Nat.add_assoc, idxTo_succ, ih (by omega)]
 have := this (31 - k) (by omega)
 rwa [show k + 1 + (31 - k) = 32 by omega] at this
theorem index_any (c : UInt8) (w : World) :
  Calls Tryz.prog 115 #[.int .u8 (c.toNat : Int)] w fun e w' => e = .returned (.int .i64 (idxI c)) ∧ w' = w := by
 go_enter Tryz.func115, Tryz.ntmps115
 go_wp2
 go_loop [3] (fun i => ∃ k : Nat, k ≤ 32 ∧ i = .int .i64 k ∧ idxTo c k = none) (fun i => 32 - (intOf i).toNat)
 case atStart => exact ⟨0, by omega, rfl, rfl⟩
 case round =>
  obtain ⟨k, hk, rfl, hno⟩ := hrel
  by_cases hlt : k < 32
  ·have hidx := let_at k hlt
   have hs : Hid (idxTo c (k + 1) = if letU k == c then some k else none) := by
    show idxTo c (k + 1) = _
    rw [idxTo_succ, hno]
   by_cases he : letU k = c
   ·have hF : Hid (idxI c = (k : Int)) := by
     show idxI c = _
     have := idxTo_grow hlt (by rw [hs.out, if_pos (by simpa using he)])
     simp [idxI, this]
    have he' : (((letU k).toNat : Int) == (c.toNat : Int)) = true := by rw [he]; simp
    go_wp2
    go_ret
    exact ⟨ret_int hF.out.symm, rfl⟩
   ·have he' : (((letU k).toNat : Int) == (c.toNat : Int)) = false := by
     rw [beq_eq_false_iff_ne]
     intro h
     exact he (UInt8.toNat_inj.1 (by omega))
    go_wp2
    go_round
    case rel => exact ⟨k + 1, by omega, by go_num, by rw [hs.out, if_neg (by simpa using he)]⟩
    case measure => simp [intOf]; omega
  ·obtain rfl : k = 32 := by omega
   go_wp2
   go_ret
   exact ⟨ret_int (by simp [idxI, hno]), rfl⟩
theorem key8 (c : UInt8) : WideAt.IsKeyLit (lit8 c) := trivial
theorem lvD_map (k : Nat) : IsMap (lvD k) := by
 induction k with
 | zero => exact isMap_empty
 | succ k ih => exact ih.put _ _
theorem lit8_inj {a b : UInt8} (h : lit8 a = lit8 b) : a = b := by
 simp only [lit8, Lit.int.injEq, true_and] at h
 exact UInt8.toNat_inj.1 (by omega)
theorem lvD_at (c : UInt8) : ∀ k, k ≤ 32 → has (lvD k) (lit8 c) = (idxTo c k).isSome ∧ (lvD k).atKey (lit8 c) (.lit (.int .u64 0)) = .lit (.int .u64 (((idxTo c k).getD 0 : Nat) : Int)) := by
 intro k
 induction k with
 | zero => intro _; exact ⟨rfl, rfl⟩
 | succ k ih =>
  intro hk
  obtain ⟨h1, h2⟩ := ih (by omega)
  by_cases he : letU k = c
  ·have hn : idxTo c k = none := by
    cases h : idxTo c k with
    | none => rfl
    | some j =>
     have := letU_ne j (by have := idxTo_lt h; omega) k (by omega) ((idxTo_some h).trans he.symm)
     have := idxTo_lt h
     omega
   have hs : idxTo c (k + 1) = some k := by rw [idxTo_succ, hn]; simp [he]
   subst he
   rw [hs]
   exact ⟨has_put_same (lvD_map k) (key8 _) _, atKey_put_same (lvD_map k) (key8 _) _ _⟩
  ·have hne : lit8 c ≠ lit8 (letU k) := fun h => he (lit8_inj h).symm
   have hs : idxTo c (k + 1) = idxTo c k := by
    rw [idxTo_succ]
    cases h : idxTo c k with
    | none => simp [he]
    | some j => rfl
   rw [hs]
   exact ⟨(has_put_other hne _).trans h1, (atKey_put_other hne _ _).trans h2⟩
def rdTo (s : ByteArray) : Nat → Option Nat
 | 0 => some 0
 | k + 1 => match rdTo s k, idxTo (s.data.toList[k]?.getD 0) 32 with
  | some x, some v => if k = 0 ∧ 15 < v then none else some (x * 32 + v)
  | _, _ => none
theorem rd_bd (s : ByteArray) : ∀ k x, rdTo s (k + 1) = some x → 2 * x + 2 ≤ 32 ^ (k + 1) := by
 intro k
 induction k with
 | zero =>
  intro x h
  simp only [rdTo] at h
  split at h
  ·rename_i y v h1 h2
   have := idxTo_lt h2
   split at h
   ·cases h
   ·rename_i hn; simp at hn; cases h; cases h1; omega
  ·cases h
 | succ k ih =>
  intro x h
  unfold rdTo at h
  split at h
  ·rename_i y v h1 h2
   have := idxTo_lt h2
   have := ih y h1
   split at h
   ·cases h
   ·cases h
    rw [Nat.pow_succ]
    omega
  ·cases h
theorem rd_lt {s : ByteArray} {k x : Nat} (hk : k ≤ 12) (h : rdTo s k = some x) : x < 576460752303423488 := by
 match k, hk, h with
 | 0, _, h => cases h; omega
 | k + 1, hk, h =>
  have h1 := rd_bd s k x h
  have h2 : 32 ^ (k + 1) ≤ 32 ^ 12 := Nat.pow_le_pow_right (by omega) hk
  omega
theorem rd_none {s : ByteArray} {k : Nat} (h : rdTo s k = none) (n : Nat) : rdTo s (k + n) = none := by
 induction n with
 | zero => exact h
 | succ n ih => rw [← Nat.add_assoc]; unfold rdTo; rw [ih]
theorem rd_stop {s : ByteArray} {k : Nat} (hk : k < 13) (h : rdTo s (k + 1) = none) : rdTo s 13 = none := by
 have := rd_none h (12 - k)
 rwa [show k + 1 + (12 - k) = 13 by omega] at this
def rwX (s : ByteArray) : Int := if s.size = 13 then (((rdTo s 13).getD 0 : Nat) : Int) else 0
def rwB (s : ByteArray) : Bool := decide (s.size = 13) && (rdTo s 13).isSome
theorem get_at {s : ByteArray} {k : Nat} (h : k < s.size) : s.data.toList[k]?.getD 0 = s[k] := by
 rw [List.getElem?_eq_getElem (by simpa using h)]; rfl
theorem rd_step {s : ByteArray} {k x : Nat} (hk : k < s.size) (hx : rdTo s k = some x) : rdTo s (k + 1) = match idxTo s[k] 32 with | some v => if k = 0 ∧ 15 < v then none else some (x * 32 + v) | none => none := by
 have e := get_at hk
 unfold rdTo
 rw [hx, e]
 cases idxTo s[k] 32 <;> rfl
theorem ret_two {k : IntKind} {a b : Int} {c d : Bool} (h : a = b) (h2 : c = d) : Ending.returned (.tuple #[.int k a, .bool c]) = .returned (.tuple #[.int k b, .bool d]) := by rw [h, h2]
theorem index_none {c : UInt8} (h : Hid (idxTo c 32 = none)) (w : World) :
  Calls Tryz.prog 115 #[.int .u8 (c.toNat : Int)] w fun e w' => e = .returned (.int .i64 (-1)) ∧ w' = w :=
 (index_any c w).mono fun e w' ⟨he, hw⟩ => ⟨he.trans (ret_int (by simp [idxI, h.out])), hw⟩
theorem index_some {c : UInt8} {v : Nat} (h : Hid (idxTo c 32 = some v)) (w : World) :
  Calls Tryz.prog 115 #[.int .u8 (c.toNat : Int)] w fun e w' => e = .returned (.int .i64 (v : Int)) ∧ w' = w :=
 (index_any c w).mono fun e w' ⟨he, hw⟩ => ⟨he.trans (ret_int (by simp [idxI, h.out])), hw⟩
theorem rw_no {s : ByteArray} {k : Nat} (hz : s.size = 13) (hk : k < 13) (h : rdTo s (k + 1) = none) :
  Ending.returned (.tuple #[.int .u64 (rwX s), .bool (rwB s)]) = .returned (.tuple #[.int .u64 0, .bool false]) := by
 have := rd_stop hk h
 exact ret_two (by simp [rwX, this]) (by simp [rwB, this])
theorem mix_add {x v : Nat} (h : x < 576460752303423488) (hv : v < 32) : IntKind.u64.wrap (IntKind.u64.wrap ((x : Int) * 32) + (v : Int)) = ((x * 32 + v : Nat) : Int) := by
 rw [IntKind.wrap_u64, IntKind.wrap_u64]
 omega
theorem mix_or {x v : Nat} (h : x < 576460752303423488) (hv : v < 32) : bits BinOp.or IntKind.u64 (IntKind.u64.wrap ((x : Int) * 32)) (v : Int) = ((x * 32 + v : Nat) : Int) := by
 have e : IntKind.u64.wrap ((x : Int) * 32) = ((32 * x : Nat) : Int) := by rw [IntKind.wrap_u64]; omega
 rw [e, bits_or_u64_nat (32 * x) v (by omega) (by omega)]
 have := Nat.two_pow_add_eq_or_of_lt (i := 5) hv x
 rw [show (2 : Nat) ^ 5 = 32 from rfl] at this
 rw [← this, Nat.mul_comm]
theorem rspec_any (s : ByteArray) (hs : s.size ≤ 1048576) (w : World) :
  Calls Tryz.prog 80 #[.string s] w fun e w' => e = .returned (.tuple #[.int .u64 (rwX s), .bool (rwB s)]) ∧ w' = w := by
 by_cases hz : s.size = 13
 ·have hz' : ((s.size : Int) == 13) = true := by rw [hz]; rfl
  have hzi : (s.size : Int) = 13 := by omega
  go_enter Tryz.func80, Tryz.ntmps80
  go_wp2
  go_loop [4, 5, 6] (fun y i _ => ∃ k x : Nat, k ≤ 13 ∧ i = .int .i64 k ∧ y = .int .u64 (x : Int) ∧ rdTo s k = some x) (fun _ i _ => 13 - (intOf i).toNat)
  case atStart => exact ⟨0, 0, by omega, rfl, rfl, rfl⟩
  case round =>
   obtain ⟨k, x, hk, rfl, rfl, hrd⟩ := hrel
   by_cases hlt : k < 13
   ·have hks : k < s.size := by omega
    have hst := Lib.hid (rd_step hks hrd)
    have hxb : Hid (x < 576460752303423488) := rd_lt (by omega : k ≤ 12) hrd
    have hki : (k : Int) < (s.size : Int) := by omega
    have HR : Hid (rdTo s k = some x) := hrd
    have HZ : Hid (s.size = 13) := hz
    clear hz hz' hzi hrd
    cases hi : idxTo s[k] 32 with
    | none =>
     have HI : Hid (idxTo s[k] 32 = none) := hi
     clear hi
     go_wp2_with (go_at_call 115; refine (index_none HI _).mono ?_; rintro e w' ⟨rfl, rfl⟩)
     go_ret2
     exact ⟨(rw_no HZ.out hlt (by rw [hst.out, HI.out])).symm, rfl⟩
    | some v =>
     have HI : Hid (idxTo s[k] 32 = some v) := hi
     have hv : v < 32 := idxTo_lt hi
     clear hi
     by_cases hc : k = 0 ∧ 15 < v
     ·obtain ⟨rfl, hc⟩ := hc
      go_wp2_with (go_at_call 115; refine (index_some HI _).mono ?_; rintro e w' ⟨rfl, rfl⟩)
      go_ret2
      exact ⟨(rw_no HZ.out hlt (by rw [hst.out, HI.out]; simp [hc])).symm, rfl⟩
     ·have hnx : Hid (rdTo s (k + 1) = some (x * 32 + v)) := by
       show rdTo s (k + 1) = _
       rw [hst.out, HI.out]
       simp only [if_neg hc]
      by_cases hk0 : k = 0
      ·have hv15 : v ≤ 15 := by omega
       subst hk0
       go_wp2_with (go_at_call 115; refine (index_some HI _).mono ?_; rintro e w' ⟨rfl, rfl⟩)
       go_round
       case rel => exact ⟨0 + 1, x * 32 + v, by omega, by go_num, by rw [mix_add hxb.out hv], hnx.out⟩
       case measure => simp [intOf]
      ·have hk0' : ((k : Int) == 0) = false := by simp; omega
       go_wp2_with (go_at_call 115; refine (index_some HI _).mono ?_; rintro e w' ⟨rfl, rfl⟩)
       go_round
       case rel => exact ⟨k + 1, x * 32 + v, by omega, by go_num, by rw [mix_add hxb.out hv], hnx.out⟩
       case measure => simp [intOf]; omega
   ·obtain rfl : k = 13 := by omega
    go_wp2
    go_ret2
    exact ⟨ret_two (by simp [rwX, hz, hrd]) (by simp [rwB, hz, hrd]), rfl⟩
 ·have hz' : ((s.size : Int) == 13) = false := by simp; omega
  go_enter Tryz.func80, Tryz.ntmps80
  go_wp2
  go_ret2
  exact ⟨ret_two (by simp [rwX, hz]) (by simp [rwB, hz]), rfl⟩
theorem lv_c {c : UInt8} {z : Int} {v : Nat} (h : idxTo c 32 = some v) (hat : (lvD 32).atKey (lit8 c) (.lit (.int .u64 0)) = .lit (.int .u64 z)) : z = (v : Int) := by
 have := (lvD_at c 32 (Nat.le_refl _)).2
 rw [hat, h] at this
 simpa using this
theorem lv_has {c : UInt8} {v : Nat} (h : idxTo c 32 = some v) : Maps.has (lvD 32) (lit8 c) = true := by
 rw [(lvD_at c 32 (Nat.le_refl _)).1, h]; rfl
theorem lv_hasnt {c : UInt8} (h : idxTo c 32 = none) : Maps.has (lvD 32) (lit8 c) = false := by
 rw [(lvD_at c 32 (Nat.le_refl _)).1, h]; rfl
theorem rword_any (s : ByteArray) (hs : s.size ≤ 1048576) (mb : Nat) (w : World) (hown : w.ownsMap Tryz.prog 5 (plainElem Tryz.prog 132) mb 32 (lvD 32)) :
  Calls Tryz.prog 157 #[.string s, .map (some mb)] w fun e w' => e = .returned (.tuple #[.int .u64 (rwX s), .bool (rwB s)]) ∧ w' = w := by
 by_cases hz : s.size = 13
 ·have hz' : ((s.size : Int) == 13) = true := by rw [hz]; rfl
  have hzi : (s.size : Int) = 13 := by omega
  go_enter Tryz.func157, Tryz.ntmps157
  go_wp2
  go_loop [6, 7, 8, 9, 13] (fun y _ _ _ i => ∃ k x : Nat, k ≤ 13 ∧ i = .int .i64 k ∧ y = .int .u64 (x : Int) ∧ rdTo s k = some x) (fun _ _ _ _ i => 13 - (intOf i).toNat)
  case atStart => exact ⟨0, 0, by omega, rfl, rfl, rfl⟩
  case round =>
   obtain ⟨k, x, hk, rfl, rfl, hrd⟩ := hrel
   by_cases hlt : k < 13
   ·have hks : k < s.size := by omega
    have hst := Lib.hid (rd_step hks hrd)
    have hxb : Hid (x < 576460752303423488) := rd_lt (by omega : k ≤ 12) hrd
    have hki : (k : Int) < (s.size : Int) := by omega
    have HR : Hid (rdTo s k = some x) := hrd
    have HZ : Hid (s.size = 13) := hz
    have hkey : keyOf Tryz.prog 5 (.int .u8 (s[k].toNat : Int)) = some (lit8 s[k]) := keyOf_int_mk Tryz.underlying5 (wf8 _)
    clear hz hz' hzi hrd
    cases hi : idxTo s[k] 32 with
    | none =>
     have HI : Hid (idxTo s[k] 32 = none) := hi
     have hh := lv_hasnt hi
     clear hi
     go_wp2_with (first
      | (at_lookup; refine wpList_lookup_own_ok_int _ rfl _ _ 141 rfl 5 132 .u64 law5 Tryz.underlying141 Tryz.underlying132 (zero22 _) mb 32 (lvD 32) rfl hown _ _ rfl hkey ?_; intro c hat hwc; clear hat hwc)
      | go_in)
     go_ret2
     exact ⟨(rw_no HZ.out hlt (by rw [hst.out, HI.out])).symm, rfl⟩
    | some v =>
     have HI : Hid (idxTo s[k] 32 = some v) := hi
     have hv : v < 32 := idxTo_lt hi
     have hh := lv_has hi
     have hC : Hid (∀ z, (lvD 32).atKey (lit8 s[k]) (.lit (.int .u64 0)) = .lit (.int .u64 z) → z = (v : Int)) := fun z h => lv_c hi h
     clear hi
     by_cases hc : k = 0 ∧ 15 < v
     ·obtain ⟨rfl, hc⟩ := hc
      go_wp2_with (first
       | (at_lookup; refine wpList_lookup_own_ok_int _ rfl _ _ 141 rfl 5 132 .u64 law5 Tryz.underlying141 Tryz.underlying132 (zero22 _) mb 32 (lvD 32) rfl hown _ _ rfl hkey ?_; intro c hat hwc; obtain rfl := hC.out c hat; clear hat hwc)
       | go_in)
      go_ret2
      exact ⟨(rw_no HZ.out hlt (by rw [hst.out, HI.out]; simp [hc])).symm, rfl⟩
     ·have hnx : Hid (rdTo s (k + 1) = some (x * 32 + v)) := by
       show rdTo s (k + 1) = _
       rw [hst.out, HI.out]
       simp only [if_neg hc]
      by_cases hk0 : k = 0
      ·have hv15 : v ≤ 15 := by omega
       subst hk0
       go_wp2_with (first
        | (at_lookup; refine wpList_lookup_own_ok_int _ rfl _ _ 141 rfl 5 132 .u64 law5 Tryz.underlying141 Tryz.underlying132 (zero22 _) mb 32 (lvD 32) rfl hown _ _ rfl hkey ?_; intro c hat hwc; obtain rfl := hC.out c hat; clear hat hwc)
        | go_in)
       go_round
       case rel => exact ⟨0 + 1, x * 32 + v, by omega, by go_num, by rw [mix_or hxb.out hv], hnx.out⟩
       case measure => simp [intOf]
      ·have hk0' : ((k : Int) == 0) = false := by simp; omega
       go_wp2_with (first
        | (at_lookup; refine wpList_lookup_own_ok_int _ rfl _ _ 141 rfl 5 132 .u64 law5 Tryz.underlying141 Tryz.underlying132 (zero22 _) mb 32 (lvD 32) rfl hown _ _ rfl hkey ?_; intro c hat hwc; obtain rfl := hC.out c hat; clear hat hwc)
        | go_in)
       go_round
       case rel => exact ⟨k + 1, x * 32 + v, by omega, by go_num, by rw [mix_or hxb.out hv], hnx.out⟩
       case measure => simp [intOf]; omega
   ·obtain rfl : k = 13 := by omega
    go_wp2
    go_ret2
    exact ⟨ret_two (by simp [rwX, hz, hrd]) (by simp [rwB, hz, hrd]), rfl⟩
 ·have hz' : ((s.size : Int) == 13) = false := by simp; omega
  go_enter Tryz.func157, Tryz.ntmps157
  go_wp2
  go_ret2
  exact ⟨ret_two (by simp [rwX, hz]) (by simp [rwB, hz]), rfl⟩
end Go.Proofs.YthbgpfjbfkiljaaGreatDoor.wd

set_option linter.unusedVariables false
set_option linter.unusedSimpArgs false
set_option maxRecDepth 100000
set_option maxHeartbeats 16000000
namespace Go.Proofs.YthbgpfjbfkiljaaGreatDoor.wd
open Go.ChangeShapes Go.WideShapes Go.ChangeAt Go.RowKit Go.Deep Go.Maps
def aokB (s : ByteArray) : Bool := decide (15 ≤ s.size) && ((((s.data.toList[13]?.getD 0).toNat : Int) == 45) && (rwB (s.extract 0 13) && nm.nameB (s.extract 14 s.size)))
theorem rspec_b {s : ByteArray} (hs : Hid (s.size ≤ 1048576)) {b : Bool} (h : Hid (rwB s = b)) (w : World) :
  Calls Tryz.prog 80 #[.string s] w fun e w' => ∃ x, e = .returned (.tuple #[.int .u64 x, .bool b]) ∧ w' = w :=
 (rspec_any s hs.out w).mono fun e w' ⟨he, hw⟩ => ⟨_, he.trans (ret_two rfl h.out), hw⟩
theorem rword_b {s : ByteArray} (hs : Hid (s.size ≤ 1048576)) {b : Bool} (h : Hid (rwB s = b)) {mb : Nat} {w : World} (hown : w.ownsMap Tryz.prog 5 (plainElem Tryz.prog 132) mb 32 (lvD 32)) :
  Calls Tryz.prog 157 #[.string s, .map (some mb)] w fun e w' => ∃ x, e = .returned (.tuple #[.int .u64 x, .bool b]) ∧ w' = w :=
 (rword_any s hs.out mb w hown).mono fun e w' ⟨he, hw⟩ => ⟨_, he.trans (ret_two rfl h.out), hw⟩
theorem nspec_b {s : ByteArray} (hs : Hid (s.size ≤ 1048576)) {b : Bool} (h : Hid (nm.nameB s = b)) (w : World) :
  Calls Tryz.prog 47 #[.string s] w fun e w' => e = .returned (.bool b) ∧ w' = w :=
 (nm.spec_any s hs.out w).mono fun e w' ⟨he, hw⟩ => ⟨he.trans (ret_bool h.out), hw⟩
theorem nimpl_b {s : ByteArray} (hs : Hid (s.size ≤ 1048576)) {b : Bool} (h : Hid (nm.nameB s = b)) (w : World) :
  Calls Tryz.prog 126 #[.string s] w fun e w' => e = .returned (.bool b) ∧ w' = w :=
 (nm.impl_any s hs.out w).mono fun e w' ⟨he, hw⟩ => ⟨he.trans (ret_bool h.out), hw⟩
theorem aspec_any (s : ByteArray) (hs : s.size ≤ 1048576) (w : World) :
  Calls Tryz.prog 48 #[.string s] w fun e w' => e = .returned (.bool (aokB s)) ∧ w' = w := by
 by_cases h1 : s.size < 15
 ·go_enter Tryz.func48, Tryz.ntmps48
  go_wp2
  go_ret
  exact ⟨ret_bool (by simp [aokB]; omega), rfl⟩
 have h13 : 13 < s.size := by omega
 have i1 : (13 : Int) < (s.size : Int) := by omega
 have HG := Lib.hid (get_at h13)
 by_cases h2 : ((s[13].toNat : Int) == 45) = true
 ·have hA : Hid (aokB s = (rwB (s.extract 0 13) && nm.nameB (s.extract 14 s.size))) := by
   show aokB s = _
   unfold aokB
   rw [HG.out, h2]
   simp
   omega
  have hz : Hid ((s.extract 0 13).size ≤ 1048576) := by show _ ≤ _; simp; omega
  have hz2 : Hid ((s.extract 14 s.size).size ≤ 1048576) := by show _ ≤ _; simp; omega
  have hne : ((s[13].toNat : Int) != 45) = false := by simpa using h2
  clear h2
  obtain ⟨b, HB⟩ : ∃ b, Hid (rwB (s.extract 0 13) = b) := ⟨_, rfl⟩
  obtain ⟨c, HC⟩ : ∃ c, Hid (nm.nameB (s.extract 14 s.size) = c) := ⟨_, rfl⟩
  have hA' : Hid (aokB s = (b && c)) := by
   show aokB s = _
   rw [hA.out, HB.out, HC.out]
  have i2 : ¬ (s.size : Int) < 15 := by omega
  clear hA HG h1 i1
  have i1 : (13 : Int) < (s.size : Int) := by omega

  cases b
  ·go_enter Tryz.func48, Tryz.ntmps48
   go_wp2_with (go_at_call 80; refine (rspec_b hz HB _).mono ?_; rintro e w' ⟨x, rfl, rfl⟩)
   go_ret
   exact ⟨ret_bool hA'.out.symm, rfl⟩
  ·go_enter Tryz.func48, Tryz.ntmps48
   go_wp2_with (first
    | (go_at_call 80; refine (rspec_b hz HB _).mono ?_; rintro e w' ⟨x, rfl, rfl⟩)
    | (go_at_call 47; refine (nspec_b hz2 HC _).mono ?_; rintro e w' ⟨rfl, rfl⟩))
   go_ret
   exact ⟨ret_bool (by rw [hA'.out]; rfl), rfl⟩
 ·have h2' : ((s[13].toNat : Int) == 45) = false := by simpa using h2
  have hA : Hid (aokB s = false) := by
   show aokB s = _
   unfold aokB
   rw [HG.out, h2']
   simp
  have hne : ((s[13].toNat : Int) != 45) = true := by simpa using h2
  clear h2 h2'
  go_enter Tryz.func48, Tryz.ntmps48
  go_wp2
  go_ret
  exact ⟨ret_bool hA.out.symm, rfl⟩
theorem isadr_any (s : ByteArray) (hs : s.size ≤ 1048576) (mb : Nat) (w : World) (hown : w.ownsMap Tryz.prog 5 (plainElem Tryz.prog 132) mb 32 (lvD 32)) :
  Calls Tryz.prog 129 #[.string s, .map (some mb)] w fun e w' => e = .returned (.bool (aokB s)) ∧ w' = w := by
 by_cases h1 : s.size ≤ 13
 ·go_enter Tryz.func129, Tryz.ntmps129
  go_wp2
  go_ret
  exact ⟨ret_bool (by simp [aokB]; omega), rfl⟩
 have h13 : 13 < s.size := by omega
 have i1 : (13 : Int) < (s.size : Int) := by omega
 have HG := Lib.hid (get_at h13)
 by_cases h2 : ((s[13].toNat : Int) == 45) = true
 ·have hA : Hid (aokB s = (rwB (s.extract 0 13) && nm.nameB (s.extract 14 s.size))) := by
   show aokB s = _
   unfold aokB
   rw [HG.out, h2]
   by_cases h15 : 15 ≤ s.size
   ·simp [h15]
   ·have : nm.nameB (s.extract 14 s.size) = false := by simp [nm.nameB]; omega
    simp [h15, this]
  have hz : Hid ((s.extract 0 13).size ≤ 1048576) := by show _ ≤ _; simp; omega
  have hz2 : Hid ((s.extract 14 s.size).size ≤ 1048576) := by show _ ≤ _; simp; omega
  have hne : ((s[13].toNat : Int) != 45) = false := by simpa using h2
  clear h2
  obtain ⟨b, HB⟩ : ∃ b, Hid (rwB (s.extract 0 13) = b) := ⟨_, rfl⟩
  obtain ⟨c, HC⟩ : ∃ c, Hid (nm.nameB (s.extract 14 s.size) = c) := ⟨_, rfl⟩
  have hA' : Hid (aokB s = (b && c)) := by
   show aokB s = _
   rw [hA.out, HB.out, HC.out]
  have i2 : ¬ (s.size : Int) ≤ 13 := by omega
  clear hA HG h1 i1
  have i1 : (13 : Int) < (s.size : Int) := by omega
  cases b
  ·go_enter Tryz.func129, Tryz.ntmps129
   go_wp2_with (go_at_call 157; refine (rword_b hz HB hown).mono ?_; rintro e w1 ⟨x, rfl, rfl⟩)
   go_ret
   exact ⟨ret_bool hA'.out.symm, rfl⟩
  ·go_enter Tryz.func129, Tryz.ntmps129
   go_wp2_with (first
    | (go_at_call 157; refine (rword_b hz HB hown).mono ?_; rintro e w1 ⟨x, rfl, rfl⟩)
    | (go_at_call 126; refine (nimpl_b hz2 HC _).mono ?_; rintro e w' ⟨rfl, rfl⟩))
   go_ret
   exact ⟨ret_bool (by rw [hA'.out]; rfl), rfl⟩
 ·have h2' : ((s[13].toNat : Int) == 45) = false := by simpa using h2
  have hA : Hid (aokB s = false) := by
   show aokB s = _
   unfold aokB
   rw [HG.out, h2']
   simp
  have hne : ((s[13].toNat : Int) != 45) = true := by simpa using h2
  clear h2 h2'
  go_enter Tryz.func129, Tryz.ntmps129
  go_wp2
  go_ret
  exact ⟨ret_bool hA.out.symm, rfl⟩
theorem aimpl_any (s : ByteArray) (hs : s.size ≤ 1048576) (w : World) (hT : TabB w) :
  Calls Tryz.prog 150 #[.string s] w fun e w' => e = .returned (.bool (aokB s)) ∧ Below w.heap.size w w' := by
 go_enter Tryz.func150, Tryz.ntmps150
 go_wp2_with (first
  | (go_at_call 93; refine (lv_any _ hT).mono ?_; rintro e w1 ⟨rfl, hown, hbel⟩)
  | (go_at_call 129; refine (isadr_any s hs _ _ hown).mono ?_; rintro e w2 ⟨rfl, rfl⟩))
 go_ret
 exact ⟨rfl, hbel⟩
end Go.Proofs.YthbgpfjbfkiljaaGreatDoor.wd

set_option linter.unusedVariables false
set_option linter.unusedSimpArgs false
set_option maxRecDepth 100000
set_option maxHeartbeats 16000000
namespace Go.Proofs.YthbgpfjbfkiljaaGreatDoor.pf
open Go.ChangeShapes Go.WideShapes Go.ChangeAt Go.RowKit Go.Deep
def AdjG (l : List Gn) : Prop := ∀ (i : Nat) (x y : Gn), l[i]? = some x → l[i + 1]? = some y → x.n < y.n
def AdjP (ps : List Pr) : Prop := ∀ (i : Nat) (x y : Pr), ps[i]? = some x → ps[i + 1]? = some y → x.name.data.toList < y.name.data.toList
def gIx (l : List Gn) (n : Int) : Int := match l.findIdx? (fun x => decide (x.n = n)) with
 | some i => (i : Int)
 | none => -1
theorem gIx_yes {l : List Gn} {n : Int} {i : Nat} {x : Gn} (hx : l[i]? = some x) (hn : x.n = n) (hj : ∀ (j : Nat) (y : Gn), j < i → l[j]? = some y → y.n ≠ n) : gIx l n = (i : Int) := by
 obtain ⟨hi, he⟩ := List.getElem?_eq_some_iff.1 hx
 have : l.findIdx? (fun x => decide (x.n = n)) = some i := by
  rw [List.findIdx?_eq_some_iff_getElem]
  refine ⟨hi, by simp [he, hn], fun j hji => ?_⟩
  have := hj j l[j] hji (List.getElem?_eq_getElem (by omega))
  simpa using this
 unfold gIx
 rw [this]
theorem gIx_no {l : List Gn} {n : Int} (hj : ∀ (j : Nat) (y : Gn), l[j]? = some y → y.n ≠ n) : gIx l n = -1 := by
 have : l.findIdx? (fun x => decide (x.n = n)) = none := by
  rw [List.findIdx?_eq_none_iff]
  intro x hx
  obtain ⟨i, hi⟩ := List.mem_iff_getElem?.1 hx
  simpa using hj i x hi
 unfold gIx
 rw [this]
structure POk (x : Pr) : Prop where
 name : nm.nameB x.name = true
 few : x.gens.length ≤ 50
 asc : AdjG x.gens
 gen : ∀ (i : Nat) (g : Gn), x.gens[i]? = some g → 1 ≤ g.n ∧ g.n ≤ 9007199254740992 ∧ wd.aokB g.p = true
 now : x.now = 0 ∨ 0 ≤ gIx x.gens x.now
noncomputable def pOkB (x : Pr) : Bool := @decide (POk x) (Classical.propDecidable _)
theorem pOkB_yes {x : Pr} (h : POk x) : pOkB x = true := by unfold pOkB; exact @decide_eq_true _ (Classical.propDecidable _) h
theorem pOkB_no {x : Pr} (h : ¬ POk x) : pOkB x = false := by unfold pOkB; exact @decide_eq_false _ (Classical.propDecidable _) h
theorem pOkB_iff {x : Pr} : pOkB x = true ↔ POk x := by unfold pOkB; exact @decide_eq_true_iff _ (Classical.propDecidable _)
structure PsOk (ps : List Pr) : Prop where
 few : ps.length ≤ 20
 asc : AdjP ps
 each : ∀ (i : Nat) (x : Pr), ps[i]? = some x → POk x
noncomputable def psB (ps : List Pr) : Bool := @decide (PsOk ps) (Classical.propDecidable _)
theorem psB_yes {ps : List Pr} (h : PsOk ps) : psB ps = true := by unfold psB; exact @decide_eq_true _ (Classical.propDecidable _) h
theorem psB_no {ps : List Pr} (h : ¬ PsOk ps) : psB ps = false := by unfold psB; exact @decide_eq_false _ (Classical.propDecidable _) h
theorem bl (x y : ByteArray) : Op.bytesLess x.toList y.toList = decide (x.data.toList < y.data.toList) := by
 rw [ByteArray.toList_eq, ByteArray.toList_eq, Go.Proofs.bytesLess_eq]
theorem adjG_next {l : List Gn} {i K : Nat} {x y : Gn} (h : AdjG (l.take i)) (hK : i = K + 1) (hx : l[K]? = some x) (hy : l[K + 1]? = some y) (hlt : x.n < y.n) : AdjG (l.take (i + 1)) := fun j a b ha hb => by
 have hj := (List.getElem?_eq_some_iff.1 hb).1
 rw [List.length_take] at hj
 rw [List.getElem?_take_of_lt (by omega)] at ha hb
 rcases Nat.lt_or_ge j K with h1 | h1
 ·exact h j a b (by rw [List.getElem?_take_of_lt (by omega)]; exact ha) (by rw [List.getElem?_take_of_lt (by omega)]; exact hb)
 ·obtain rfl : j = K := by omega
  rw [hx] at ha
  rw [hy] at hb
  cases ha
  cases hb
  exact hlt
theorem adjP_next {l : List Pr} {i K : Nat} {x y : Pr} (h : AdjP (l.take i)) (hK : i = K + 1) (hx : l[K]? = some x) (hy : l[K + 1]? = some y) (hlt : x.name.data.toList < y.name.data.toList) : AdjP (l.take (i + 1)) := fun j a b ha hb => by
 have hj := (List.getElem?_eq_some_iff.1 hb).1
 rw [List.length_take] at hj
 rw [List.getElem?_take_of_lt (by omega)] at ha hb
 rcases Nat.lt_or_ge j K with h1 | h1
 ·exact h j a b (by rw [List.getElem?_take_of_lt (by omega)]; exact ha) (by rw [List.getElem?_take_of_lt (by omega)]; exact hb)
 ·obtain rfl : j = K := by omega
  rw [hx] at ha
  rw [hy] at hb
  cases ha
  cases hb
  exact hlt
theorem lessG_any (n n' : Int) (p p' : ByteArray) (w : World) :
  Calls Tryz.prog 128 #[.agg #[.int .i64 n, .string p], .agg #[.int .i64 n', .string p']] w fun e w' => e = .returned (.bool (decide (n < n'))) ∧ Below w.heap.size w w' := by
 go_enter Tryz.func128, Tryz.ntmps128
 go_wp2
 go_ret
 exact ⟨by first | rfl | simp, ((Below.refl _ _).alloc (Nat.le_refl _) _).alloc (by simp) _⟩
theorem lessP_any (p p' : ByteArray) (z z' : Int) (u u' : Option Addr) (m m' c c' : Nat) (w : World) :
  Calls Tryz.prog 92 #[.agg #[.string p, .int .i64 z, .slice u m c], .agg #[.string p', .int .i64 z', .slice u' m' c']] w fun e w' => e = .returned (.bool (Op.bytesLess p.toList p'.toList)) ∧ Below w.heap.size w w' := by
 obtain ⟨r, hr⟩ : ∃ r, Op.bytesLess p.toList p'.toList = r := ⟨_, rfl⟩
 go_enter Tryz.func92, Tryz.ntmps92
 go_wp2
 go_ret
 exact ⟨by first | rfl | simp [hr], ((Below.refl _ _).alloc (Nat.le_refl _) _).alloc (by simp) _⟩
noncomputable def adjGB (l : List Gn) : Bool := @decide (AdjG l) (Classical.propDecidable _)
theorem adjGB_yes {l : List Gn} (h : AdjG l) : adjGB l = true := by unfold adjGB; exact @decide_eq_true _ (Classical.propDecidable _) h
theorem adjGB_no {l : List Gn} (h : ¬ AdjG l) : adjGB l = false := by unfold adjGB; exact @decide_eq_false _ (Classical.propDecidable _) h
theorem adjGB_iff {l : List Gn} : adjGB l = true ↔ AdjG l := by unfold adjGB; exact @decide_eq_true_iff _ (Classical.propDecidable _)
theorem ascG_any (l : List Gn) (a : Option Addr) (cap : Nat) (w : World) (hR : SrcG w a l) (hn : l.length ≤ 1048576) :
  Calls Tryz.prog 127 #[.slice a l.length cap, .func (.func 128) #[] #[]] w fun e w' => e = .returned (.bool (adjGB l)) ∧ Below w.heap.size w w' := by
 have HER : Hid (SrcG w a l) := hR
 clear hR
 obtain ⟨n, hnn⟩ : ∃ n, l.length = n := ⟨_, rfl⟩
 have HNN : Hid (l.length = n) := hnn
 rw [hnn] at hn ⊢
 clear hnn
 go_enter Tryz.func127, Tryz.ntmps127
 go_wp2
 go_loopw [5, 8] (fun _ x wr => ∃ i : Nat, i ≤ n ∧ x = .int .i64 (i : Int) ∧ AdjG (l.take i) ∧ Below w.heap.size w wr) (fun _ x _ => n - (intOf x).toNat)
 case atStart => exact ⟨0, Nat.zero_le _, rfl, fun i x y h => by simp at h, Below.refl _ _⟩
 case round =>
  obtain ⟨i, hi, rfl, hadj, hbel⟩ := hrel
  have HAD : Hid (AdjG (l.take i)) := hadj
  have HBE : Hid (Below w.heap.size w wr) := hbel
  clear hadj
  by_cases hil : i < n
  ·have hil' : (i : Int) < (n : Int) := by omega
   have hi0 : (0 : Int) ≤ (i : Int) := by omega
   obtain ⟨xP, hxP⟩ : ∃ x, l[i]? = some x := ⟨_, List.getElem?_eq_getElem (by rw [HNN.out]; exact hil)⟩
   by_cases hi1 : 0 < i
   ·have hi1' : (0 : Int) < (i : Int) := by omega
    obtain ⟨K, hKk⟩ : ∃ K, i = K + 1 := ⟨i - 1, by omega⟩
    have HKk : Hid (i = K + 1) := hKk
    have hK1 : (i : Int) - 1 = (K : Int) := by omega
    have hK2 : (K : Int) < (n : Int) := by omega
    have hK0 : (0 : Int) ≤ (K : Int) := by omega
    have hK3 : IntKind.i64.wrap ((i : Int) - 1) = (K : Int) := by rw [IntKind.wrap_i64]; omega
    have hK4 : IntKind.i64.wrap (K : Int) = (K : Int) := by rw [IntKind.wrap_i64]; omega
    obtain ⟨xM, hxM⟩ : ∃ x, l[K]? = some x := ⟨_, List.getElem?_eq_getElem (by rw [HNN.out]; omega)⟩
    rcases HER.out with h | ⟨b, o, rfl, hc⟩
    ·have := HNN.out; rw [h] at this; simp at this; omega
    obtain ⟨qM0, qM1⟩ := hc K xM hxM
    obtain ⟨qP0, qP1⟩ := hc i xP hxP
    obtain ⟨nM, hnM⟩ : ∃ t, xM.n = t := ⟨_, rfl⟩
    obtain ⟨zM, hzM⟩ : ∃ t, xM.p = t := ⟨_, rfl⟩
    obtain ⟨nP, hnP⟩ : ∃ t, xP.n = t := ⟨_, rfl⟩
    obtain ⟨zP, hzP⟩ : ∃ t, xP.p = t := ⟨_, rfl⟩
    rw [hnM] at qM0
    rw [hzM] at qM1
    rw [hnP] at qP0
    rw [hzP] at qP1
    have HLI : Hid (decide (nM < nP) = decide (xM.n < xP.n)) := by show _ = _; rw [hnM, hnP]
    have K0 : ∀ {W : World} {q p v}, Below w.heap.size w W → w.cell? ⟨q, p, none⟩ = some v → W.cell? ⟨q, p, none⟩ = some v := fun {W q p v} hW h => (hW.cell (p := ⟨q, p, none⟩) (World.block_lt_of_cell? _ _ h)).trans h
    have HCC : Hid (∀ w' : World, Below w.heap.size w w' → (w'.cell? ⟨b, o + K * 2, none⟩ = some (.int .i64 nM) ∧ w'.cell? ⟨b, o + K * 2 + 1, none⟩ = some (.string zM)) ∧ w'.cell? ⟨b, o + i * 2, none⟩ = some (.int .i64 nP) ∧ w'.cell? ⟨b, o + i * 2 + 1, none⟩ = some (.string zP)) := fun w' hb => ⟨⟨K0 hb qM0, K0 hb qM1⟩, K0 hb qP0, K0 hb qP1⟩
    have HLE : Hid (∀ W, Calls Tryz.prog 128 #[.agg #[.int .i64 nM, .string zM], .agg #[.int .i64 nP, .string zP]] W fun e w' => e = .returned (.bool (decide (nM < nP))) ∧ Below W.heap.size W w') := fun W => lessG_any _ _ _ _ W
    have HXM : Hid (l[K]? = some xM) := hxM
    have HXP : Hid (l[K + 1]? = some xP) := hKk ▸ hxP
    clear qM0 qM1 qP0 qP1 hnM hzM hnP hzP hKk hbel hxM hxP hc K0
    cases hbl : decide (nM < nP) with
    | true =>
     rw [hbl] at HLE
     have HN : Hid (AdjG (l.take (i + 1))) := adjG_next HAD.out HKk.out HXM.out HXP.out (by have := HLI.out; rw [hbl] at this; simpa using this.symm)
     clear hbl HLI
     go_wp2_with fail
     refine wq 16 (S := fun w' => (w'.cell? ⟨b, o + K * 2, none⟩ = some (.int .i64 nM) ∧ w'.cell? ⟨b, o + K * 2 + 1, none⟩ = some (.string zM)) ∧ w'.cell? ⟨b, o + i * 2, none⟩ = some (.int .i64 nP) ∧ w'.cell? ⟨b, o + i * 2 + 1, none⟩ = some (.string zP)) (by kernel_rfl) (HCC.out _ HBE.out.drew) fun hHeld => ?_
     iterate 13 (refine un 16 rfl ?_;try simp only [aP])
     refine rq 13 rfl fun K hK => ?_
     go_simp
     (go_at_call 128; refine (HLE.out _).mono ?_; rintro e w2 ⟨rfl, hl2⟩; have hb2 : Below w.heap.size w w2 := HBE.out.drew.trans (hl2.mono HBE.out.size))
     try go_wp2_with fail
     refine hK.out _ _ (HCC.out _ hb2) (fun hHeld => ?_)
     clear hK K
     try simp only [aP]
     iterate 2 (refine un 16 rfl ?_;try simp only [aP])
     refine dq ?_
     go_wp2_with fail
     go_roundw
     case rel => exact ⟨i + 1, by omega, by go_num, HN.out, hb2⟩
     case measure => simp [intOf] <;> omega
    | false =>
     rw [hbl] at HLE
     have HF : Hid (¬ AdjG l) := fun h => by
      have h2 : xM.n < xP.n := h K xM xP HXM.out HXP.out
      have := HLI.out
      rw [hbl] at this
      exact absurd h2 (by simpa using this.symm)
     clear hbl HLI
     go_wp2_with fail
     refine wq 16 (S := fun w' => (w'.cell? ⟨b, o + K * 2, none⟩ = some (.int .i64 nM) ∧ w'.cell? ⟨b, o + K * 2 + 1, none⟩ = some (.string zM)) ∧ w'.cell? ⟨b, o + i * 2, none⟩ = some (.int .i64 nP) ∧ w'.cell? ⟨b, o + i * 2 + 1, none⟩ = some (.string zP)) (by kernel_rfl) (HCC.out _ HBE.out.drew) fun hHeld => ?_
     iterate 13 (refine un 16 rfl ?_;try simp only [aP])
     refine rq 13 rfl fun K hK => ?_
     go_simp
     (go_at_call 128; refine (HLE.out _).mono ?_; rintro e w2 ⟨rfl, hl2⟩; have hb2 : Below w.heap.size w w2 := HBE.out.drew.trans (hl2.mono HBE.out.size))
     try go_wp2_with fail
     refine hK.out _ _ (HCC.out _ hb2) (fun hHeld => ?_)
     clear hK K
     try simp only [aP]
     iterate 2 (refine un 16 rfl ?_;try simp only [aP])
     refine dq ?_
     go_wp2_with fail
     go_ret
     exact ⟨by rw [adjGB_no HF.out]; first | done | rfl, hb2⟩
   ·have hi1' : ¬ (0 : Int) < (i : Int) := by omega
    have HN : Hid (AdjG (l.take (i + 1))) := fun j x y hx hy => by
     have := (List.getElem?_eq_some_iff.1 hy).1
     simp at this
     omega
    clear hbel hxP
    go_wp2_with fail
    refine wq 16 (S := fun _ => True) (by kernel_rfl) (trivial) fun hHeld => ?_
    iterate 16 ((first|refine sn 16 rfl ?_|refine un 16 rfl ?_);try simp only [aP])
    refine dq ?_
    go_wp2_with fail
    go_roundw
    case rel => exact ⟨i + 1, by omega, by go_num, HN.out, HBE.out.drew⟩
    case measure => simp [intOf] <;> omega
  ·have hil' : ¬ (i : Int) < (n : Int) := by omega
   have HT : Hid (AdjG l) := by
    have h := HAD.out
    rwa [List.take_of_length_le (by rw [HNN.out]; omega)] at h
   clear hbel
   go_wp2
   go_ret
   exact ⟨by rw [adjGB_yes HT.out]; first | done | rfl, HBE.out⟩
noncomputable def adjPB (ps : List Pr) : Bool := @decide (AdjP ps) (Classical.propDecidable _)
theorem adjPB_yes {ps : List Pr} (h : AdjP ps) : adjPB ps = true := by unfold adjPB; exact @decide_eq_true _ (Classical.propDecidable _) h
theorem adjPB_no {ps : List Pr} (h : ¬ AdjP ps) : adjPB ps = false := by unfold adjPB; exact @decide_eq_false _ (Classical.propDecidable _) h
theorem adjPB_iff {ps : List Pr} : adjPB ps = true ↔ AdjP ps := by unfold adjPB; exact @decide_eq_true_iff _ (Classical.propDecidable _)
theorem ascP_any (ps : List Pr) (a : Option Addr) (cap : Nat) (w : World) (hR : SrcP w a ps) (hn : ps.length ≤ 1048576) :
  Calls Tryz.prog 91 #[.slice a ps.length cap, .func (.func 92) #[] #[]] w fun e w' => e = .returned (.bool (adjPB ps)) ∧ Below w.heap.size w w' := by
 have HER : Hid (SrcP w a ps) := hR
 clear hR
 obtain ⟨n, hnn⟩ : ∃ n, ps.length = n := ⟨_, rfl⟩
 have HNN : Hid (ps.length = n) := hnn
 rw [hnn] at hn ⊢
 clear hnn
 go_enter Tryz.func91, Tryz.ntmps91
 go_wp2
 go_loopw [5, 8] (fun _ x wr => ∃ i : Nat, i ≤ n ∧ x = .int .i64 (i : Int) ∧ AdjP (ps.take i) ∧ Below w.heap.size w wr) (fun _ x _ => n - (intOf x).toNat)
 case atStart => exact ⟨0, Nat.zero_le _, rfl, fun i x y h => by simp at h, Below.refl _ _⟩
 case round =>
  obtain ⟨i, hi, rfl, hadj, hbel⟩ := hrel
  have HAD : Hid (AdjP (ps.take i)) := hadj
  have HBE : Hid (Below w.heap.size w wr) := hbel
  clear hadj
  by_cases hil : i < n
  ·have hil' : (i : Int) < (n : Int) := by omega
   have hi0 : (0 : Int) ≤ (i : Int) := by omega
   obtain ⟨xP, hxP⟩ : ∃ x, ps[i]? = some x := ⟨_, List.getElem?_eq_getElem (by rw [HNN.out]; exact hil)⟩
   by_cases hi1 : 0 < i
   ·have hi1' : (0 : Int) < (i : Int) := by omega
    obtain ⟨K, hKk⟩ : ∃ K, i = K + 1 := ⟨i - 1, by omega⟩
    have HKk : Hid (i = K + 1) := hKk
    have hK1 : (i : Int) - 1 = (K : Int) := by omega
    have hK2 : (K : Int) < (n : Int) := by omega
    have hK0 : (0 : Int) ≤ (K : Int) := by omega
    have hK3 : IntKind.i64.wrap ((i : Int) - 1) = (K : Int) := by rw [IntKind.wrap_i64]; omega
    have hK4 : IntKind.i64.wrap (K : Int) = (K : Int) := by rw [IntKind.wrap_i64]; omega
    obtain ⟨xM, hxM⟩ : ∃ x, ps[K]? = some x := ⟨_, List.getElem?_eq_getElem (by rw [HNN.out]; omega)⟩
    rcases HER.out with h | ⟨b, o, rfl, hc⟩
    ·have := HNN.out; rw [h] at this; simp at this; omega
    obtain ⟨uM, cM, qM0, qM1, qM2, -⟩ := hc K xM hxM
    obtain ⟨uP, cP, qP0, qP1, qP2, -⟩ := hc i xP hxP
    obtain ⟨nM, hnM⟩ : ∃ t, xM.name = t := ⟨_, rfl⟩
    obtain ⟨zM, hzM⟩ : ∃ t, xM.now = t := ⟨_, rfl⟩
    obtain ⟨mM, hmM⟩ : ∃ t, xM.gens.length = t := ⟨_, rfl⟩
    obtain ⟨nP, hnP⟩ : ∃ t, xP.name = t := ⟨_, rfl⟩
    obtain ⟨zP, hzP⟩ : ∃ t, xP.now = t := ⟨_, rfl⟩
    obtain ⟨mP, hmP⟩ : ∃ t, xP.gens.length = t := ⟨_, rfl⟩
    rw [hnM] at qM0
    rw [hzM] at qM1
    rw [hmM] at qM2
    rw [hnP] at qP0
    rw [hzP] at qP1
    rw [hmP] at qP2
    have HLI : Hid (Op.bytesLess nM.toList nP.toList = decide (xM.name.data.toList < xP.name.data.toList)) := by show _ = _; rw [hnM, hnP]; exact bl nM nP
    have K0 : ∀ {W : World} {q p v}, Below w.heap.size w W → w.cell? ⟨q, p, none⟩ = some v → W.cell? ⟨q, p, none⟩ = some v := fun {W q p v} hW h => (hW.cell (p := ⟨q, p, none⟩) (World.block_lt_of_cell? _ _ h)).trans h
    have HCC : Hid (∀ w' : World, Below w.heap.size w w' → (w'.cell? ⟨b, o + K * 3, none⟩ = some (.string nM) ∧ w'.cell? ⟨b, o + K * 3 + 1, none⟩ = some (.int .i64 zM) ∧ w'.cell? ⟨b, o + K * 3 + 2, none⟩ = some (.slice uM mM cM)) ∧ w'.cell? ⟨b, o + i * 3, none⟩ = some (.string nP) ∧ w'.cell? ⟨b, o + i * 3 + 1, none⟩ = some (.int .i64 zP) ∧ w'.cell? ⟨b, o + i * 3 + 2, none⟩ = some (.slice uP mP cP)) := fun w' hb => ⟨⟨K0 hb qM0, K0 hb qM1, K0 hb qM2⟩, K0 hb qP0, K0 hb qP1, K0 hb qP2⟩
    have HLE : Hid (∀ W, Calls Tryz.prog 92 #[.agg #[.string nM, .int .i64 zM, .slice uM mM cM], .agg #[.string nP, .int .i64 zP, .slice uP mP cP]] W fun e w' => e = .returned (.bool (Op.bytesLess nM.toList nP.toList)) ∧ Below W.heap.size W w') := fun W => lessP_any _ _ _ _ _ _ _ _ _ _ W
    have HXM : Hid (ps[K]? = some xM) := hxM
    have HXP : Hid (ps[K + 1]? = some xP) := hKk ▸ hxP
    clear qM0 qM1 qM2 qP0 qP1 qP2 hnM hzM hmM hnP hzP hmP hKk hbel hxM hxP hc K0
    cases hbl : Op.bytesLess nM.toList nP.toList with
    | true =>
     rw [hbl] at HLE
     have HN : Hid (AdjP (ps.take (i + 1))) := adjP_next HAD.out HKk.out HXM.out HXP.out (by have := HLI.out; rw [hbl] at this; simpa using this.symm)
     clear hbl HLI
     go_wp2_with fail
     refine wq 16 (S := fun w' => (w'.cell? ⟨b, o + K * 3, none⟩ = some (.string nM) ∧ w'.cell? ⟨b, o + K * 3 + 1, none⟩ = some (.int .i64 zM) ∧ w'.cell? ⟨b, o + K * 3 + 2, none⟩ = some (.slice uM mM cM)) ∧ w'.cell? ⟨b, o + i * 3, none⟩ = some (.string nP) ∧ w'.cell? ⟨b, o + i * 3 + 1, none⟩ = some (.int .i64 zP) ∧ w'.cell? ⟨b, o + i * 3 + 2, none⟩ = some (.slice uP mP cP)) (by kernel_rfl) (HCC.out _ HBE.out.drew) fun hHeld => ?_
     iterate 13 (refine un 16 rfl ?_;try simp only [aP])
     refine rq 13 rfl fun K hK => ?_
     go_simp
     (go_at_call 92; refine (HLE.out _).mono ?_; rintro e w2 ⟨rfl, hl2⟩; have hb2 : Below w.heap.size w w2 := HBE.out.drew.trans (hl2.mono HBE.out.size))
     try go_wp2_with fail
     refine hK.out _ _ (HCC.out _ hb2) (fun hHeld => ?_)
     clear hK K
     try simp only [aP]
     iterate 2 (refine un 16 rfl ?_;try simp only [aP])
     refine dq ?_
     go_wp2_with fail
     go_roundw
     case rel => exact ⟨i + 1, by omega, by go_num, HN.out, hb2⟩
     case measure => simp [intOf] <;> omega
    | false =>
     rw [hbl] at HLE
     have HF : Hid (¬ AdjP ps) := fun h => by
      have h2 : xM.name.data.toList < xP.name.data.toList := h K xM xP HXM.out HXP.out
      have := HLI.out
      rw [hbl] at this
      exact absurd h2 (by simpa using this.symm)
     clear hbl HLI
     go_wp2_with fail
     refine wq 16 (S := fun w' => (w'.cell? ⟨b, o + K * 3, none⟩ = some (.string nM) ∧ w'.cell? ⟨b, o + K * 3 + 1, none⟩ = some (.int .i64 zM) ∧ w'.cell? ⟨b, o + K * 3 + 2, none⟩ = some (.slice uM mM cM)) ∧ w'.cell? ⟨b, o + i * 3, none⟩ = some (.string nP) ∧ w'.cell? ⟨b, o + i * 3 + 1, none⟩ = some (.int .i64 zP) ∧ w'.cell? ⟨b, o + i * 3 + 2, none⟩ = some (.slice uP mP cP)) (by kernel_rfl) (HCC.out _ HBE.out.drew) fun hHeld => ?_
     iterate 13 (refine un 16 rfl ?_;try simp only [aP])
     refine rq 13 rfl fun K hK => ?_
     go_simp
     (go_at_call 92; refine (HLE.out _).mono ?_; rintro e w2 ⟨rfl, hl2⟩; have hb2 : Below w.heap.size w w2 := HBE.out.drew.trans (hl2.mono HBE.out.size))
     try go_wp2_with fail
     refine hK.out _ _ (HCC.out _ hb2) (fun hHeld => ?_)
     clear hK K
     try simp only [aP]
     iterate 2 (refine un 16 rfl ?_;try simp only [aP])
     refine dq ?_
     go_wp2_with fail
     go_ret
     exact ⟨by rw [adjPB_no HF.out]; first | done | rfl, hb2⟩
   ·have hi1' : ¬ (0 : Int) < (i : Int) := by omega
    have HN : Hid (AdjP (ps.take (i + 1))) := fun j x y hx hy => by
     have := (List.getElem?_eq_some_iff.1 hy).1
     simp at this
     omega
    clear hbel hxP
    go_wp2_with fail
    refine wq 16 (S := fun _ => True) (by kernel_rfl) (trivial) fun hHeld => ?_
    iterate 16 ((first|refine sn 16 rfl ?_|refine un 16 rfl ?_);try simp only [aP])
    refine dq ?_
    go_wp2_with fail
    go_roundw
    case rel => exact ⟨i + 1, by omega, by go_num, HN.out, HBE.out.drew⟩
    case measure => simp [intOf] <;> omega
  ·have hil' : ¬ (i : Int) < (n : Int) := by omega
   have HT : Hid (AdjP ps) := by
    have h := HAD.out
    rwa [List.take_of_length_le (by rw [HNN.out]; omega)] at h
   clear hbel
   go_wp2
   go_ret
   exact ⟨by rw [adjPB_yes HT.out]; first | done | rfl, HBE.out⟩
end Go.Proofs.YthbgpfjbfkiljaaGreatDoor.pf
