import Derived.Test.YtcpmgellfaeejaaGreatDoorH04
import Derived.Test.YtcpmgellfaeejaaGreatDoorH01
import Derived.Maps.Own
import Derived.Test.YtcpmgellfaeejaaGreatDoorH03
import Derived.Shelf.SlicesE.DeleteFunc
import Derived.Ground.SlgfProg
import Derived.Lib.Hide
import Derived.Deep.DeepAppendRoom
namespace Go.Proofs.YtcpmgellfaeejaaGreatDoor.wd
open Go.ChangeShapes Go.WideShapes Go.ChangeAt Go.RowKit Go.Deep Go.Maps
set_option linter.unusedVariables false
set_option maxRecDepth 100000
def idxTo (c : UInt8) (k : Nat) : Option Nat := (List.range k).find? fun j => letU j == c
def idxI (c : UInt8) : Int := match idxTo c 32 with | some j => (j : Int) | none => -1
theorem idxTo_succ (c : UInt8) (k : Nat) : idxTo c (k + 1) = match idxTo c k with | some j => some j | none => if letU k == c then some k else none := by
 unfold idxTo
 rw [List.range_succ, List.find?_append]
 cases (List.range k).find? fun j => letU j == c with
 | some j => rfl
 | none => simp [List.find?_cons]; split <;> simp_all
theorem idxTo_lt {c : UInt8} {k j : Nat} (h : idxTo c k = some j) : j < k := by
 have := List.mem_of_find?_eq_some h
 simpa using this
theorem idxTo_none {c : UInt8} {k : Nat} (h : idxTo c k = none) (j : Nat) (hj : j < k) : ¬ letU j = c := by
 have := List.find?_eq_none.1 h j (by simpa using hj)
 simpa using this
theorem letU_ne : ∀ i, i < 32 → ∀ j, j < 32 → letU i = letU j → i = j := by decide
theorem idxTo_some {c : UInt8} {k j : Nat} (h : idxTo c k = some j) : letU j = c := by
 have := List.find?_some h
 simpa using this
theorem idxTo_grow {c : UInt8} {k j : Nat} (hk : k < 32) (h : idxTo c (k + 1) = some j) : idxTo c 32 = some j := by
 have : ∀ n, k + 1 + n ≤ 32 → idxTo c (k + 1 + n) = some j := by
  intro n
  induction n with
  | zero => intro _; exact h
  | succ n ih => intro hn; rw [← Nat.add_assoc, idxTo_succ, ih (by omega)]
 have := this (31 - k) (by omega)
 rwa [show k + 1 + (31 - k) = 32 by omega] at this
theorem index_any (c : UInt8) (w : World) :
  Calls Tryz.prog 117 #[.int .u8 (c.toNat : Int)] w fun e w' => e = .returned (.int .i64 (idxI c)) ∧ w' = w := by
 go_enter Tryz.func117, Tryz.ntmps117
 go_wp2
 go_loop [3] (fun i => ∃ k : Nat, k ≤ 32 ∧ i = .int .i64 k ∧ idxTo c k = none) (fun i => 32 - (intOf i).toNat)
 case atStart => exact ⟨0, by omega, rfl, rfl⟩
 case round =>
  obtain ⟨k, hk, rfl, hno⟩ := hrel
  by_cases hlt : k < 32
  ·have hidx := let_at k hlt
   have hs : Hid (idxTo c (k + 1) = if letU k == c then some k else none) := by
    show idxTo c (k + 1) = _
    rw [idxTo_succ, hno]
   by_cases he : letU k = c
   ·have hF : Hid (idxI c = (k : Int)) := by
     show idxI c = _
     have := idxTo_grow hlt (by rw [hs.out, if_pos (by simpa using he)])
     simp [idxI, this]
    have he' : (((letU k).toNat : Int) == (c.toNat : Int)) = true := by rw [he]; simp
    go_wp2
    go_ret
    exact ⟨ret_int hF.out.symm, rfl⟩
   ·have he' : (((letU k).toNat : Int) == (c.toNat : Int)) = false := by
     rw [beq_eq_false_iff_ne]
     intro h
     exact he (UInt8.toNat_inj.1 (by omega))
    go_wp2
    go_round
    case rel => exact ⟨k + 1, by omega, by go_num, by rw [hs.out, if_neg (by simpa using he)]⟩
    case measure => simp [intOf]; omega
  ·obtain rfl : k = 32 := by omega
   go_wp2
   go_ret
   exact ⟨ret_int (by simp [idxI, hno]), rfl⟩
theorem key8 (c : UInt8) : WideAt.IsKeyLit (lit8 c) := trivial
theorem lvD_map (k : Nat) : IsMap (lvD k) := by
 induction k with
 | zero => exact isMap_empty
 | succ k ih => exact ih.put _ _
theorem lit8_inj {a b : UInt8} (h : lit8 a = lit8 b) : a = b := by
 simp only [lit8, Lit.int.injEq, true_and] at h
 exact UInt8.toNat_inj.1 (by omega)
theorem lvD_at (c : UInt8) : ∀ k, k ≤ 32 → has (lvD k) (lit8 c) = (idxTo c k).isSome ∧ (lvD k).atKey (lit8 c) (.lit (.int .u64 0)) = .lit (.int .u64 (((idxTo c k).getD 0 : Nat) : Int)) := by
 intro k
 induction k with
 | zero => intro _; exact ⟨rfl, rfl⟩
 | succ k ih =>
  intro hk
  obtain ⟨h1, h2⟩ := ih (by omega)
  by_cases he : letU k = c
  ·have hn : idxTo c k = none := by
    cases h : idxTo c k with
    | none => rfl
    | some j =>
     have := letU_ne j (by have := idxTo_lt h; omega) k (by omega) ((idxTo_some h).trans he.symm)
     have := idxTo_lt h
     omega
   have hs : idxTo c (k + 1) = some k := by rw [idxTo_succ, hn]; simp [he]
   subst he
   rw [hs]
   exact ⟨has_put_same (lvD_map k) (key8 _) _, atKey_put_same (lvD_map k) (key8 _) _ _⟩
  ·have hne : lit8 c ≠ lit8 (letU k) := fun h => he (lit8_inj h).symm
   have hs : idxTo c (k + 1) = idxTo c k := by
    rw [idxTo_succ]
    cases h : idxTo c k with
    | none => simp [he]
    | some j => rfl
   rw [hs]
   exact ⟨(has_put_other hne _).trans h1, (atKey_put_other hne _ _).trans h2⟩
def rdTo (s : ByteArray) : Nat → Option Nat
 | 0 => some 0
 | k + 1 => match rdTo s k, idxTo (s.data.toList[k]?.getD 0) 32 with
  | some x, some v => if k = 0 ∧ 15 < v then none else some (x * 32 + v)
  | _, _ => none
theorem rd_bd (s : ByteArray) : ∀ k x, rdTo s (k + 1) = some x → 2 * x + 2 ≤ 32 ^ (k + 1) := by
 intro k
 induction k with
 | zero =>
  intro x h
  simp only [rdTo] at h
  split at h
  ·rename_i y v h1 h2
   have := idxTo_lt h2
   split at h
   ·cases h
   ·rename_i hn; simp at hn; cases h; cases h1; omega
  ·cases h
 | succ k ih =>
  intro x h
  unfold rdTo at h
  split at h
  ·rename_i y v h1 h2
   have := idxTo_lt h2
   have := ih y h1
   split at h
   ·cases h
   ·cases h
    rw [Nat.pow_succ]
    omega
  ·cases h
theorem rd_lt {s : ByteArray} {k x : Nat} (hk : k ≤ 12) (h : rdTo s k = some x) : x < 576460752303423488 := by
 match k, hk, h with
 | 0, _, h => cases h; omega
 | k + 1, hk, h =>
  have h1 := rd_bd s k x h
  have h2 : 32 ^ (k + 1) ≤ 32 ^ 12 := Nat.pow_le_pow_right (by omega) hk
  omega
theorem rd_none {s : ByteArray} {k : Nat} (h : rdTo s k = none) (n : Nat) : rdTo s (k + n) = none := by
 induction n with
 | zero => exact h
 | succ n ih => rw [← Nat.add_assoc]; unfold rdTo; rw [ih]
theorem rd_stop {s : ByteArray} {k : Nat} (hk : k < 13) (h : rdTo s (k + 1) = none) : rdTo s 13 = none := by
 have := rd_none h (12 - k)
 rwa [show k + 1 + (12 - k) = 13 by omega] at this
def rwX (s : ByteArray) : Int := if s.size = 13 then (((rdTo s 13).getD 0 : Nat) : Int) else 0
def rwB (s : ByteArray) : Bool := decide (s.size = 13) && (rdTo s 13).isSome
theorem get_at {s : ByteArray} {k : Nat} (h : k < s.size) : s.data.toList[k]?.getD 0 = s[k] := by
 rw [List.getElem?_eq_getElem (by simpa using h)]; rfl
theorem rd_step {s : ByteArray} {k x : Nat} (hk : k < s.size) (hx : rdTo s k = some x) : rdTo s (k + 1) = match idxTo s[k] 32 with | some v => if k = 0 ∧ 15 < v then none else some (x * 32 + v) | none => none := by
 have e := get_at hk
 unfold rdTo
 rw [hx, e]
 cases idxTo s[k] 32 <;> rfl
theorem ret_two {k : IntKind} {a b : Int} {c d : Bool} (h : a = b) (h2 : c = d) : Ending.returned (.tuple #[.int k a, .bool c]) = .returned (.tuple #[.int k b, .bool d]) := by rw [h, h2]
theorem index_none {c : UInt8} (h : Hid (idxTo c 32 = none)) (w : World) :
  Calls Tryz.prog 117 #[.int .u8 (c.toNat : Int)] w fun e w' => e = .returned (.int .i64 (-1)) ∧ w' = w :=
 (index_any c w).mono fun e w' ⟨he, hw⟩ => ⟨he.trans (ret_int (by simp [idxI, h.out])), hw⟩
theorem index_some {c : UInt8} {v : Nat} (h : Hid (idxTo c 32 = some v)) (w : World) :
  Calls Tryz.prog 117 #[.int .u8 (c.toNat : Int)] w fun e w' => e = .returned (.int .i64 (v : Int)) ∧ w' = w :=
 (index_any c w).mono fun e w' ⟨he, hw⟩ => ⟨he.trans (ret_int (by simp [idxI, h.out])), hw⟩
theorem rw_no {s : ByteArray} {k : Nat} (hz : s.size = 13) (hk : k < 13) (h : rdTo s (k + 1) = none) :
  Ending.returned (.tuple #[.int .u64 (rwX s), .bool (rwB s)]) = .returned (.tuple #[.int .u64 0, .bool false]) := by
 have := rd_stop hk h
 exact ret_two (by simp [rwX, this]) (by simp [rwB, this])
theorem mix_add {x v : Nat} (h : x < 576460752303423488) (hv : v < 32) : IntKind.u64.wrap (IntKind.u64.wrap ((x : Int) * 32) + (v : Int)) = ((x * 32 + v : Nat) : Int) := by
 rw [IntKind.wrap_u64, IntKind.wrap_u64]
 omega
theorem mix_or {x v : Nat} (h : x < 576460752303423488) (hv : v < 32) : bits BinOp.or IntKind.u64 (IntKind.u64.wrap ((x : Int) * 32)) (v : Int) = ((x * 32 + v : Nat) : Int) := by
 have e : IntKind.u64.wrap ((x : Int) * 32) = ((32 * x : Nat) : Int) := by rw [IntKind.wrap_u64]; omega
 rw [e, bits_or_u64_nat (32 * x) v (by omega) (by omega)]
 have := Nat.two_pow_add_eq_or_of_lt (i := 5) hv x
 rw [show (2 : Nat) ^ 5 = 32 from rfl] at this
 rw [← this, Nat.mul_comm]
theorem rspec_any (s : ByteArray) (hs : s.size ≤ 1048576) (w : World) :
  Calls Tryz.prog 71 #[.string s] w fun e w' => e = .returned (.tuple #[.int .u64 (rwX s), .bool (rwB s)]) ∧ w' = w := by
 by_cases hz : s.size = 13
 ·have hz' : ((s.size : Int) == 13) = true := by rw [hz]; rfl
  have hzi : (s.size : Int) = 13 := by omega
  go_enter Tryz.func71, Tryz.ntmps71
  go_wp2
  go_loop [4, 5, 6] (fun y i _ => ∃ k x : Nat, k ≤ 13 ∧ i = .int .i64 k ∧ y = .int .u64 (x : Int) ∧ rdTo s k = some x) (fun _ i _ => 13 - (intOf i).toNat)
  case atStart => exact ⟨0, 0, by omega, rfl, rfl, rfl⟩
  case round =>
   obtain ⟨k, x, hk, rfl, rfl, hrd⟩ := hrel
   by_cases hlt : k < 13
   ·have hks : k < s.size := by omega
    have hst : Hid (rdTo s (k + 1) = match idxTo s[k] 32 with | some v => if k = 0 ∧ 15 < v then none else some (x * 32 + v) | none => none) := rd_step hks hrd
    have hxb : Hid (x < 576460752303423488) := rd_lt (by omega : k ≤ 12) hrd
    have hki : (k : Int) < (s.size : Int) := by omega
    have HR : Hid (rdTo s k = some x) := hrd
    have HZ : Hid (s.size = 13) := hz
    clear hz hz' hzi hrd
    cases hi : idxTo s[k] 32 with
    | none =>
     have HI : Hid (idxTo s[k] 32 = none) := hi
     clear hi
     go_wp2_with (go_at_call 117; refine (index_none HI _).mono ?_; rintro e w' ⟨rfl, rfl⟩)
     go_ret2
     exact ⟨(rw_no HZ.out hlt (by rw [hst.out, HI.out])).symm, rfl⟩
    | some v =>
     have HI : Hid (idxTo s[k] 32 = some v) := hi
     have hv : v < 32 := idxTo_lt hi
     clear hi
     by_cases hc : k = 0 ∧ 15 < v
     ·obtain ⟨rfl, hc⟩ := hc
      go_wp2_with (go_at_call 117; refine (index_some HI _).mono ?_; rintro e w' ⟨rfl, rfl⟩)
      go_ret2
      exact ⟨(rw_no HZ.out hlt (by rw [hst.out, HI.out]; simp [hc])).symm, rfl⟩
     ·have hnx : Hid (rdTo s (k + 1) = some (x * 32 + v)) := by
       show rdTo s (k + 1) = _
       rw [hst.out, HI.out]
       simp only [if_neg hc]
      by_cases hk0 : k = 0
      ·have hv15 : v ≤ 15 := by omega
       subst hk0
       go_wp2_with (go_at_call 117; refine (index_some HI _).mono ?_; rintro e w' ⟨rfl, rfl⟩)
       go_round
       case rel => exact ⟨0 + 1, x * 32 + v, by omega, by go_num, by rw [mix_add hxb.out hv], hnx.out⟩
       case measure => simp [intOf]
      ·have hk0' : ((k : Int) == 0) = false := by simp; omega
       go_wp2_with (go_at_call 117; refine (index_some HI _).mono ?_; rintro e w' ⟨rfl, rfl⟩)
       go_round
       case rel => exact ⟨k + 1, x * 32 + v, by omega, by go_num, by rw [mix_add hxb.out hv], hnx.out⟩
       case measure => simp [intOf]; omega
   ·obtain rfl : k = 13 := by omega
    go_wp2
    go_ret2
    exact ⟨ret_two (by simp [rwX, hz, hrd]) (by simp [rwB, hz, hrd]), rfl⟩
 ·have hz' : ((s.size : Int) == 13) = false := by simp; omega
  go_enter Tryz.func71, Tryz.ntmps71
  go_wp2
  go_ret2
  exact ⟨ret_two (by simp [rwX, hz]) (by simp [rwB, hz]), rfl⟩
theorem lv_c {c : UInt8} {z : Int} {v : Nat} (h : idxTo c 32 = some v) (hat : (lvD 32).atKey (lit8 c) (.lit (.int .u64 0)) = .lit (.int .u64 z)) : z = (v : Int) := by
 have := (lvD_at c 32 (Nat.le_refl _)).2
 rw [hat, h] at this
 simpa using this
theorem lv_has {c : UInt8} {v : Nat} (h : idxTo c 32 = some v) : Maps.has (lvD 32) (lit8 c) = true := by
 rw [(lvD_at c 32 (Nat.le_refl _)).1, h]; rfl
theorem lv_hasnt {c : UInt8} (h : idxTo c 32 = none) : Maps.has (lvD 32) (lit8 c) = false := by
 rw [(lvD_at c 32 (Nat.le_refl _)).1, h]; rfl
theorem rword_any (s : ByteArray) (hs : s.size ≤ 1048576) (mb : Nat) (w : World) (hown : w.ownsMap Tryz.prog 5 (plainElem Tryz.prog 90) mb 32 (lvD 32)) :
  Calls Tryz.prog 95 #[.string s, .map (some mb)] w fun e w' => e = .returned (.tuple #[.int .u64 (rwX s), .bool (rwB s)]) ∧ w' = w := by
 by_cases hz : s.size = 13
 ·have hz' : ((s.size : Int) == 13) = true := by rw [hz]; rfl
  have hzi : (s.size : Int) = 13 := by omega
  go_enter Tryz.func95, Tryz.ntmps95
  go_wp2
  go_loop [6, 7, 8, 9, 13] (fun y _ _ _ i => ∃ k x : Nat, k ≤ 13 ∧ i = .int .i64 k ∧ y = .int .u64 (x : Int) ∧ rdTo s k = some x) (fun _ _ _ _ i => 13 - (intOf i).toNat)
  case atStart => exact ⟨0, 0, by omega, rfl, rfl, rfl⟩
  case round =>
   obtain ⟨k, x, hk, rfl, rfl, hrd⟩ := hrel
   by_cases hlt : k < 13
   ·have hks : k < s.size := by omega
    have hst : Hid (rdTo s (k + 1) = match idxTo s[k] 32 with | some v => if k = 0 ∧ 15 < v then none else some (x * 32 + v) | none => none) := rd_step hks hrd
    have hxb : Hid (x < 576460752303423488) := rd_lt (by omega : k ≤ 12) hrd
    have hki : (k : Int) < (s.size : Int) := by omega
    have HR : Hid (rdTo s k = some x) := hrd
    have HZ : Hid (s.size = 13) := hz
    have hkey : keyOf Tryz.prog 5 (.int .u8 (s[k].toNat : Int)) = some (lit8 s[k]) := keyOf_int_mk Tryz.underlying5 (wf8 _)
    clear hz hz' hzi hrd
    cases hi : idxTo s[k] 32 with
    | none =>
     have HI : Hid (idxTo s[k] 32 = none) := hi
     have hh := lv_hasnt hi
     clear hi
     go_wp2_with (first
      | (at_lookup; refine wpList_lookup_own_ok_int _ rfl _ _ 75 rfl 5 90 .u64 law5 Tryz.underlying75 Tryz.underlying90 (zero22 _) mb 32 (lvD 32) rfl hown _ _ rfl hkey ?_; intro c hat hwc; clear hat hwc)
      | go_in)
     go_ret2
     exact ⟨(rw_no HZ.out hlt (by rw [hst.out, HI.out])).symm, rfl⟩
    | some v =>
     have HI : Hid (idxTo s[k] 32 = some v) := hi
     have hv : v < 32 := idxTo_lt hi
     have hh := lv_has hi
     have hC : Hid (∀ z, (lvD 32).atKey (lit8 s[k]) (.lit (.int .u64 0)) = .lit (.int .u64 z) → z = (v : Int)) := fun z h => lv_c hi h
     clear hi
     by_cases hc : k = 0 ∧ 15 < v
     ·obtain ⟨rfl, hc⟩ := hc
      go_wp2_with (first
       | (at_lookup; refine wpList_lookup_own_ok_int _ rfl _ _ 75 rfl 5 90 .u64 law5 Tryz.underlying75 Tryz.underlying90 (zero22 _) mb 32 (lvD 32) rfl hown _ _ rfl hkey ?_; intro c hat hwc; obtain rfl := hC.out c hat; clear hat hwc)
       | go_in)
      go_ret2
      exact ⟨(rw_no HZ.out hlt (by rw [hst.out, HI.out]; simp [hc])).symm, rfl⟩
     ·have hnx : Hid (rdTo s (k + 1) = some (x * 32 + v)) := by
       show rdTo s (k + 1) = _
       rw [hst.out, HI.out]
       simp only [if_neg hc]
      by_cases hk0 : k = 0
      ·have hv15 : v ≤ 15 := by omega
       subst hk0
       go_wp2_with (first
        | (at_lookup; refine wpList_lookup_own_ok_int _ rfl _ _ 75 rfl 5 90 .u64 law5 Tryz.underlying75 Tryz.underlying90 (zero22 _) mb 32 (lvD 32) rfl hown _ _ rfl hkey ?_; intro c hat hwc; obtain rfl := hC.out c hat; clear hat hwc)
        | go_in)
       go_round
       case rel => exact ⟨0 + 1, x * 32 + v, by omega, by go_num, by rw [mix_or hxb.out hv], hnx.out⟩
       case measure => simp [intOf]
      ·have hk0' : ((k : Int) == 0) = false := by simp; omega
       go_wp2_with (first
        | (at_lookup; refine wpList_lookup_own_ok_int _ rfl _ _ 75 rfl 5 90 .u64 law5 Tryz.underlying75 Tryz.underlying90 (zero22 _) mb 32 (lvD 32) rfl hown _ _ rfl hkey ?_; intro c hat hwc; obtain rfl := hC.out c hat; clear hat hwc)
        | go_in)
       go_round
       case rel => exact ⟨k + 1, x * 32 + v, by omega, by go_num, by rw [mix_or hxb.out hv], hnx.out⟩
       case measure => simp [intOf]; omega
   ·obtain rfl : k = 13 := by omega
    go_wp2
    go_ret2
    exact ⟨ret_two (by simp [rwX, hz, hrd]) (by simp [rwB, hz, hrd]), rfl⟩
 ·have hz' : ((s.size : Int) == 13) = false := by simp; omega
  go_enter Tryz.func95, Tryz.ntmps95
  go_wp2
  go_ret2
  exact ⟨ret_two (by simp [rwX, hz]) (by simp [rwB, hz]), rfl⟩
end Go.Proofs.YtcpmgellfaeejaaGreatDoor.wd

namespace Go.Proofs.YtcpmgellfaeejaaGreatDoor.wd
open Go.ChangeShapes Go.WideShapes Go.ChangeAt Go.RowKit Go.Deep Go.Maps
set_option linter.unusedVariables false
set_option maxRecDepth 100000
def aokB (s : ByteArray) : Bool := decide (15 ≤ s.size) && ((((s.data.toList[13]?.getD 0).toNat : Int) == 45) && (rwB (s.extract 0 13) && nm.nameB (s.extract 14 s.size)))
theorem rspec_b {s : ByteArray} (hs : Hid (s.size ≤ 1048576)) {b : Bool} (h : Hid (rwB s = b)) (w : World) :
  Calls Tryz.prog 71 #[.string s] w fun e w' => ∃ x, e = .returned (.tuple #[.int .u64 x, .bool b]) ∧ w' = w :=
 (rspec_any s hs.out w).mono fun e w' ⟨he, hw⟩ => ⟨_, he.trans (ret_two rfl h.out), hw⟩
theorem rword_b {s : ByteArray} (hs : Hid (s.size ≤ 1048576)) {b : Bool} (h : Hid (rwB s = b)) {mb : Nat} {w : World} (hown : w.ownsMap Tryz.prog 5 (plainElem Tryz.prog 90) mb 32 (lvD 32)) :
  Calls Tryz.prog 95 #[.string s, .map (some mb)] w fun e w' => ∃ x, e = .returned (.tuple #[.int .u64 x, .bool b]) ∧ w' = w :=
 (rword_any s hs.out mb w hown).mono fun e w' ⟨he, hw⟩ => ⟨_, he.trans (ret_two rfl h.out), hw⟩
theorem nspec_b {s : ByteArray} (hs : Hid (s.size ≤ 1048576)) {b : Bool} (h : Hid (nm.nameB s = b)) (w : World) :
  Calls Tryz.prog 72 #[.string s] w fun e w' => e = .returned (.bool b) ∧ w' = w :=
 (nm.spec_any s hs.out w).mono fun e w' ⟨he, hw⟩ => ⟨he.trans (ret_bool h.out), hw⟩
theorem nimpl_b {s : ByteArray} (hs : Hid (s.size ≤ 1048576)) {b : Bool} (h : Hid (nm.nameB s = b)) (w : World) :
  Calls Tryz.prog 96 #[.string s] w fun e w' => e = .returned (.bool b) ∧ w' = w :=
 (nm.impl_any s hs.out w).mono fun e w' ⟨he, hw⟩ => ⟨he.trans (ret_bool h.out), hw⟩
theorem aspec_any (s : ByteArray) (hs : s.size ≤ 1048576) (w : World) :
  Calls Tryz.prog 34 #[.string s] w fun e w' => e = .returned (.bool (aokB s)) ∧ w' = w := by
 by_cases h1 : s.size < 15
 ·go_enter Tryz.func34, Tryz.ntmps34
  go_wp2
  go_ret
  exact ⟨ret_bool (by simp [aokB]; omega), rfl⟩
 have h13 : 13 < s.size := by omega
 have i1 : (13 : Int) < (s.size : Int) := by omega
 have HG : Hid (s.data.toList[13]?.getD 0 = s[13]) := get_at h13
 by_cases h2 : ((s[13].toNat : Int) == 45) = true
 ·have hA : Hid (aokB s = (rwB (s.extract 0 13) && nm.nameB (s.extract 14 s.size))) := by
   show aokB s = _
   unfold aokB
   rw [HG.out, h2]
   simp
   omega
  have hz : Hid ((s.extract 0 13).size ≤ 1048576) := by show _ ≤ _; simp; omega
  have hz2 : Hid ((s.extract 14 s.size).size ≤ 1048576) := by show _ ≤ _; simp; omega
  have hne : ((s[13].toNat : Int) != 45) = false := by simpa using h2
  clear h2
  obtain ⟨b, HB⟩ : ∃ b, Hid (rwB (s.extract 0 13) = b) := ⟨_, rfl⟩
  obtain ⟨c, HC⟩ : ∃ c, Hid (nm.nameB (s.extract 14 s.size) = c) := ⟨_, rfl⟩
  have hA' : Hid (aokB s = (b && c)) := by
   show aokB s = _
   rw [hA.out, HB.out, HC.out]
  have i2 : ¬ (s.size : Int) < 15 := by omega
  clear hA HG h1 i1
  have i1 : (13 : Int) < (s.size : Int) := by omega

  cases b
  ·go_enter Tryz.func34, Tryz.ntmps34
   go_wp2_with (go_at_call 71; refine (rspec_b hz HB _).mono ?_; rintro e w' ⟨x, rfl, rfl⟩)
   go_ret
   exact ⟨ret_bool hA'.out.symm, rfl⟩
  ·go_enter Tryz.func34, Tryz.ntmps34
   go_wp2_with (first
    | (go_at_call 71; refine (rspec_b hz HB _).mono ?_; rintro e w' ⟨x, rfl, rfl⟩)
    | (go_at_call 72; refine (nspec_b hz2 HC _).mono ?_; rintro e w' ⟨rfl, rfl⟩))
   go_ret
   exact ⟨ret_bool (by rw [hA'.out]; rfl), rfl⟩
 ·have h2' : ((s[13].toNat : Int) == 45) = false := by simpa using h2
  have hA : Hid (aokB s = false) := by
   show aokB s = _
   unfold aokB
   rw [HG.out, h2']
   simp
  have hne : ((s[13].toNat : Int) != 45) = true := by simpa using h2
  clear h2 h2'
  go_enter Tryz.func34, Tryz.ntmps34
  go_wp2
  go_ret
  exact ⟨ret_bool hA.out.symm, rfl⟩
theorem isadr_any (s : ByteArray) (hs : s.size ≤ 1048576) (mb : Nat) (w : World) (hown : w.ownsMap Tryz.prog 5 (plainElem Tryz.prog 90) mb 32 (lvD 32)) :
  Calls Tryz.prog 60 #[.string s, .map (some mb)] w fun e w' => e = .returned (.bool (aokB s)) ∧ w' = w := by
 by_cases h1 : s.size ≤ 13
 ·go_enter Tryz.func60, Tryz.ntmps60
  go_wp2
  go_ret
  exact ⟨ret_bool (by simp [aokB]; omega), rfl⟩
 have h13 : 13 < s.size := by omega
 have i1 : (13 : Int) < (s.size : Int) := by omega
 have HG : Hid (s.data.toList[13]?.getD 0 = s[13]) := get_at h13
 by_cases h2 : ((s[13].toNat : Int) == 45) = true
 ·have hA : Hid (aokB s = (rwB (s.extract 0 13) && nm.nameB (s.extract 14 s.size))) := by
   show aokB s = _
   unfold aokB
   rw [HG.out, h2]
   by_cases h15 : 15 ≤ s.size
   ·simp [h15]
   ·have : nm.nameB (s.extract 14 s.size) = false := by simp [nm.nameB]; omega
    simp [h15, this]
  have hz : Hid ((s.extract 0 13).size ≤ 1048576) := by show _ ≤ _; simp; omega
  have hz2 : Hid ((s.extract 14 s.size).size ≤ 1048576) := by show _ ≤ _; simp; omega
  have hne : ((s[13].toNat : Int) != 45) = false := by simpa using h2
  clear h2
  obtain ⟨b, HB⟩ : ∃ b, Hid (rwB (s.extract 0 13) = b) := ⟨_, rfl⟩
  obtain ⟨c, HC⟩ : ∃ c, Hid (nm.nameB (s.extract 14 s.size) = c) := ⟨_, rfl⟩
  have hA' : Hid (aokB s = (b && c)) := by
   show aokB s = _
   rw [hA.out, HB.out, HC.out]
  have i2 : ¬ (s.size : Int) ≤ 13 := by omega
  clear hA HG h1 i1
  have i1 : (13 : Int) < (s.size : Int) := by omega
  cases b
  ·go_enter Tryz.func60, Tryz.ntmps60
   go_wp2_with (go_at_call 95; refine (rword_b hz HB hown).mono ?_; rintro e w1 ⟨x, rfl, rfl⟩)
   go_ret
   exact ⟨ret_bool hA'.out.symm, rfl⟩
  ·go_enter Tryz.func60, Tryz.ntmps60
   go_wp2_with (first
    | (go_at_call 95; refine (rword_b hz HB hown).mono ?_; rintro e w1 ⟨x, rfl, rfl⟩)
    | (go_at_call 96; refine (nimpl_b hz2 HC _).mono ?_; rintro e w' ⟨rfl, rfl⟩))
   go_ret
   exact ⟨ret_bool (by rw [hA'.out]; rfl), rfl⟩
 ·have h2' : ((s[13].toNat : Int) == 45) = false := by simpa using h2
  have hA : Hid (aokB s = false) := by
   show aokB s = _
   unfold aokB
   rw [HG.out, h2']
   simp
  have hne : ((s[13].toNat : Int) != 45) = true := by simpa using h2
  clear h2 h2'
  go_enter Tryz.func60, Tryz.ntmps60
  go_wp2
  go_ret
  exact ⟨ret_bool hA.out.symm, rfl⟩
theorem aimpl_any (s : ByteArray) (hs : s.size ≤ 1048576) (w : World) (hT : TabB w) :
  Calls Tryz.prog 29 #[.string s] w fun e w' => e = .returned (.bool (aokB s)) ∧ Below w.heap.size w w' := by
 go_enter Tryz.func29, Tryz.ntmps29
 go_wp2_with (first
  | (go_at_call 61; refine (lv_any _ hT).mono ?_; rintro e w1 ⟨rfl, hown, hbel⟩)
  | (go_at_call 60; refine (isadr_any s hs _ _ hown).mono ?_; rintro e w2 ⟨rfl, rfl⟩))
 go_ret
 exact ⟨rfl, hbel⟩
end Go.Proofs.YtcpmgellfaeejaaGreatDoor.wd

namespace Go.Proofs.YtcpmgellfaeejaaGreatDoor.pf
open Go.ChangeShapes Go.WideShapes Go.ChangeAt Go.RowKit Go.Deep Go.Maps
set_option linter.unusedVariables false
theorem grown_of {w w' : World} (hb : Below w.heap.size w w') : w.grownBy w' none := ⟨hb.os, hb.tape, hb.output, hb.size, fun k hk _ => hb.block k hk⟩
def LV (w : World) (mb : Nat) : Prop := w.ownsMap Tryz.prog 5 (plainElem Tryz.prog 90) mb 32 (wd.lvD 32)
theorem LV.below {w w' : World} {mb : Nat} (h : LV w mb) (hb : Below w.heap.size w w') : LV w' mb := World.ownsMap.kept h (grown_of hb) (by simp)
end Go.Proofs.YtcpmgellfaeejaaGreatDoor.pf

namespace Go.Proofs.YtcpmgellfaeejaaGreatDoor.sr
open Go.ChangeShapes Go.WideShapes Go.ChangeAt Go.RowKit Go.Deep Go.Shelf Go.Sort
set_option linter.unusedVariables false
set_option linter.unusedSimpArgs false
abbrev Tx : Type := { l : List UInt8 // l.length ≤ 1048576 }
instance : Inhabited Tx := ⟨⟨[], by simp⟩⟩
def encT (x : Tx) : Value := strL x.1
def aokL (l : List UInt8) : Bool := wd.aokB ⟨l.toArray⟩
theorem am1_gives (x : Tx) (vb mb : Nat) (W : World) (hv : W.cell? ⟨vb, 0, none⟩ = some (.map (some mb))) (hL : pf.LV W mb) : FnGives Tryz.prog 145 #[.pointer (some ⟨vb, 0, none⟩)] #[encT x] (.bool (!aokL x.1)) W := by
 show Calls Tryz.prog 145 #[.string ⟨x.1.toArray⟩, .pointer (some ⟨vb, 0, none⟩)] W _
 have HI : Hid (Calls Tryz.prog 60 #[.string ⟨x.1.toArray⟩, .map (some mb)] W fun e w' => e = .returned (.bool (wd.aokB ⟨x.1.toArray⟩)) ∧ w' = W) := wd.isadr_any ⟨x.1.toArray⟩ (by show x.1.toArray.size ≤ _; have := x.2; simpa using this) mb W hL
 have HR : Hid (aokL x.1 = wd.aokB ⟨x.1.toArray⟩) := rfl
 rw [HR.out]
 generalize (⟨x.1.toArray⟩ : ByteArray) = s at *
 generalize wd.aokB s = r at *
 clear hL HR
 go_enter Tryz.func145, Tryz.ntmps145
 go_wp2_with (go_at_call 60; refine HI.out.mono ?_; rintro e w1 ⟨rfl, rfl⟩)
 go_ret
 exact ⟨by first | rfl | simp, 0, rfl⟩
def mkT (xs : List (List UInt8)) (h : ∀ x ∈ xs, x.length ≤ 1048576) : List Tx := xs.pmap (fun x hx => ⟨x, hx⟩) h
theorem mkT_len (xs : List (List UInt8)) (h : ∀ x ∈ xs, x.length ≤ 1048576) : (mkT xs h).length = xs.length := by simp [mkT]
theorem mkT_val (xs : List (List UInt8)) (h : ∀ x ∈ xs, x.length ≤ 1048576) : (mkT xs h).map (fun x => x.1) = xs := by simp [mkT, List.map_pmap]
theorem mkT_filter : ∀ (l : List Tx), (l.filter fun x => !!aokL x.1).map (fun x => x.1) = (l.map fun x => x.1).filter aokL
 | [] => rfl
 | x :: l => by
  have ih := mkT_filter l
  simp only [Bool.not_not] at ih ⊢
  cases h : aokL x.1 <;> simp [List.filter_cons, h, ih]
theorem putRow_T (w : World) (g : Nat) (d : List Tx) : putRow encT w g 0 d.toArray = putRow encStr w g 0 (d.map fun x => x.1).toArray := by
 unfold putRow
 congr 1
 funext cur
 unfold putCells
 congr 1
 funext i
 simp only [List.size_toArray, List.length_map]
 split
 ·next h =>
  have hi : i < d.length := by have := h.2; omega
  simp [encT, enc_strL, List.getElem?_eq_getElem hi]
 ·rfl
theorem del_any (g cap vb mb : Nat) (xs : List (List UInt8)) (hx : ∀ x ∈ xs, x.length ≤ 1048576) (w : World) (h : Blk w g cap xs) (hn : xs.length ≤ 4000) (hv : w.cell? ⟨vb, 0, none⟩ = some (.map (some mb))) (hL : pf.LV w mb) (hvg : vb ≠ g) (hmg : mb ≠ g) :
  Calls Tryz.prog 144 #[.slice (some ⟨g, 0, none⟩) xs.length cap, .func (.func 145) #[] #[.pointer (some ⟨vb, 0, none⟩)]] w fun e w' => e = .returned (.slice (some ⟨g, 0, none⟩) (xs.filter aokL).length cap) ∧ Blk w' g cap (xs.filter aokL) ∧ w.grownBy w' (some g) := by
 have eg : ∀ args w, (callFunc 145 args).run Tryz.prog w = .ok (.enter 145 args) w := enters_of Tryz.func145 (by kernel_rfl) rfl
 have hvl := World.block_lt_of_cell? _ _ hv
 have hp : PredAt Tryz.prog 145 #[.pointer (some ⟨vb, 0, none⟩)] encT (fun x => !aokL x.1) w := fun W x hb => am1_gives x vb mb W ((hb.cell (p := ⟨vb, 0, none⟩) hvl).trans hv) (hL.below hb)
 have hpo : PredOver Tryz.prog 145 #[.pointer (some ⟨vb, 0, none⟩)] encT (fun x => !aokL x.1) g 0 (mkT xs hx).toArray.size w := fun n os dk x _ => by
  have hgr : w.grownBy (sortWorld encT w g 0 n dk os) (some g) := by
   unfold sortWorld
   rw [show dk = dk.toList.toArray by simp, putRow_T]
   exact grownBy_sorted _
  refine am1_gives x vb mb _ ?_ (World.ownsMap.kept hL hgr (by simpa using hmg))
  have := hgr.block vb hvl (by simpa using hvg)
  rw [World.cell?_of_block (a := ⟨vb, 0, none⟩) this]
  exact hv
 have hH : Holds encT w g 0 (mkT xs hx).toArray := fun j hj => by
  have hj' : j < xs.length := by simpa [mkT_len] using hj
  obtain ⟨h1, h2⟩ := h.holds j (by simpa using hj')
  refine ⟨?_, h2⟩
  rw [h1]
  have e1 : (xs.toArray[j]!) = xs[j] := by simp [hj']
  have e2 : ((mkT xs hx).toArray[j]!) = ⟨xs[j], hx _ (List.getElem_mem hj')⟩ := by simp [mkT, hj']
  rw [e1, e2, enc_strL]
  rfl
 have hcon := AnyE.slices_DeleteFunc laysDel encT (fun _ => rfl) (fun x => !aokL x.1) 145 #[.pointer (some ⟨vb, 0, none⟩)] eg default Tryz.zeroValue9 g 0 cap (mkT xs hx).toArray w hp hpo hH (by simp [mkT_len]; omega) (by simp [mkT_len]; exact h.le)
 have hfl : ((mkT xs hx).filter fun x => !!aokL x.1).map (fun x => x.1) = xs.filter aokL := by rw [mkT_filter, mkT_val]
 have hll : ((mkT xs hx).filter fun x => !!aokL x.1).length = (xs.filter aokL).length := by have := congrArg List.length hfl; rwa [List.length_map] at this
 have hsz : (mkT xs hx).toArray.size = xs.length := by simp [mkT_len]
 rw [hsz] at hcon
 refine Calls.mono hcon ?_
 rintro e w' ⟨rfl, q, rfl⟩
 have hfle : (xs.filter aokL).length ≤ xs.length := List.length_filter_le _ _
 simp only [] at hll ⊢
 rw [putRow_T, List.map_append, hfl, List.map_replicate]
 refine ⟨by rw [hll], ?_, ?_⟩
 ·have := h.put (n := q) (os := #[]) (ys := xs.filter aokL) (List.replicate (xs.length - ((mkT xs hx).filter fun x : Tx => !!aokL x.1).length) []) (by rw [List.length_append, List.length_replicate, hll]; omega)
  rwa [grow_empty] at this
 ·have := grownBy_sorted (w := w) (g := g) (n := q) (os := #[]) (xs.filter aokL ++ List.replicate (xs.length - ((mkT xs hx).filter fun x : Tx => !!aokL x.1).length) []).toArray
  rwa [grow_empty] at this
end Go.Proofs.YtcpmgellfaeejaaGreatDoor.sr

namespace Go.Proofs.YtcpmgellfaeejaaGreatDoor.sr
open Go.ChangeShapes Go.WideShapes Go.ChangeAt Go.RowKit Go.Deep Go.Shelf Go.Sort
set_option linter.unusedVariables false
set_option linter.unusedSimpArgs false
theorem Blk.row' {w : World} {g cap : Nat} {xs : List (List UInt8)} (h : Blk w g cap xs) (hm : cap ≤ maxLen) : StrR w (.slice (some ⟨g, 0, none⟩) xs.length cap) xs := by
 obtain ⟨cur, hb, hs, ht⟩ := h.row
 refine ⟨g, 0, cap, rfl, h.le, hm, fun i x hx => ?_⟩
 have hi := (List.getElem?_eq_some_iff.1 hx).1
 have h1 : (cur.toList.take xs.length)[i]? = (xs.map encStr)[i]? := by rw [ht]
 rw [List.getElem?_take_of_lt hi, List.getElem?_map, hx, Array.getElem?_toList] at h1
 rw [Nat.zero_add]
 simp [World.cell?, hb, h1, enc_strL]
theorem Blk.lt {w : World} {g cap : Nat} {xs : List (List UInt8)} (h : Blk w g cap xs) : g < w.heap.size := by obtain ⟨cur, hb, _⟩ := h.row; exact (Array.getElem?_eq_some_iff.1 hb).1
theorem Blk.kept {w w' : World} {g cap : Nat} {xs : List (List UInt8)} (h : Blk w g cap xs) (hb : w'.heap[g]? = w.heap[g]?) : Blk w' g cap xs := by
 obtain ⟨cur, h1, h2⟩ := h.row
 exact ⟨⟨cur, hb.trans h1, h2⟩, h.le⟩
theorem blk_own' {w : World} {B : Nat} {v : Value} {xs : List (List UInt8)} (h : OwnS B w v xs) : ∃ g cap, v = .slice (some ⟨g, 0, none⟩) xs.length cap ∧ B ≤ g ∧ cap ≤ maxLen ∧ Blk w g cap xs := by
 obtain ⟨hl, h'⟩ := h.1
 rcases h' with ⟨e, _⟩ | ⟨g, cap, cur, rfl, hb, hg, hc, hm, hz, ht⟩
 ·exact absurd e h.2
 ·exact ⟨g, cap, rfl, hb, hm, ⟨⟨cur, hg, by omega, by rw [enc_strL]; simpa using ht⟩, hc⟩⟩
theorem bel_grown {B g : Nat} {w w1 w2 : World} (h : Below B w w1) (hg : w1.grownBy w2 (some g)) (hB : B ≤ w1.heap.size) (hb : B ≤ g) : Below B w w2 := h.grown hg hB (fun k hk => by cases hk; exact hb)
def adr (xs : List (List UInt8)) : List (List UInt8) := (xs.filter aokL).foldl fadd []
theorem adr_len (xs : List (List UInt8)) : (adr xs).length ≤ xs.length := by
 have h1 := foldl_len (xs.filter aokL) []
 have h2 := List.length_filter_le aokL xs
 unfold adr
 simp at h1
 omega
set_option maxHeartbeats 4000000 in
set_option maxRecDepth 100000 in
theorem among_any (xs : List (List UInt8)) (hx : ∀ x ∈ xs, x.length ≤ 1048576) (v : Value) (w : World) (hR : StrR w v xs) (hn : xs.length ≤ 4000) (hT : wd.TabB w) :
  Calls Tryz.prog 113 #[v] w fun e w' => (∃ g c, e = .returned (.slice (some ⟨g, 0, none⟩) (adr xs).length c) ∧ w.heap.size ≤ g ∧ c ≤ maxLen ∧ Blk w' g c (adr xs)) ∧ Below w.heap.size w w' := by
 have HLV : Hid (Calls Tryz.prog 61 #[] w fun e w' => e = .returned (.map (some w.heap.size)) ∧ pf.LV w' w.heap.size ∧ Below w.heap.size w w') := wd.lv_any w hT
 have HCL : Hid (∀ W, Below w.heap.size w W → Calls Tryz.prog 84 #[v] W fun e w' => ∃ v', e = .returned v' ∧ OwnS W.heap.size w' v' xs ∧ Below W.heap.size W w') := fun W hb => clone_any xs v W (hR.below hb) hn
 have HDL : Hid (∀ W g cap vb mb, Blk W g cap xs → W.cell? ⟨vb, 0, none⟩ = some (.map (some mb)) → pf.LV W mb → vb ≠ g → mb ≠ g → Calls Tryz.prog 144 #[.slice (some ⟨g, 0, none⟩) xs.length cap, .func (.func 145) #[] #[.pointer (some ⟨vb, 0, none⟩)]] W fun e w' => e = .returned (.slice (some ⟨g, 0, none⟩) (xs.filter aokL).length cap) ∧ Blk w' g cap (xs.filter aokL) ∧ W.grownBy w' (some g)) := fun W g cap vb mb h1 h2 h3 h4 h5 => del_any g cap vb mb xs hx W h1 hn h2 h3 h4 h5
 have hfl : (xs.filter aokL).length ≤ 4000 := by have := List.length_filter_le aokL xs; omega
 have HSO : Hid (∀ W v', StrR W v' (xs.filter aokL) → Calls Tryz.prog 86 #[v', FV] W fun e w' => ∃ v', e = .returned v' ∧ OwnS W.heap.size w' v' (srt 12 (xs.filter aokL)) ∧ Below W.heap.size W w') := fun W v' h => sorted_all 12 (xs.filter aokL) v' W h (by simp; omega) hfl
 have HCO : Hid (∀ W g cap, Blk W g cap (srt 12 (xs.filter aokL)) → Calls Tryz.prog 146 #[.slice (some ⟨g, 0, none⟩) (srt 12 (xs.filter aokL)).length cap] W fun e w' => e = .returned (.slice (some ⟨g, 0, none⟩) (adr xs).length cap) ∧ Blk w' g cap (adr xs) ∧ W.grownBy w' (some g)) := fun W g cap h => by
  have := compact_any g cap (srt 12 (xs.filter aokL)) W h (by rw [srt_len]; exact hfl)
  rw [srt_compact 12 (xs.filter aokL) (by simp; omega)] at this
  exact this
 clear hR hx hn hT hfl
 obtain ⟨n, hnn⟩ : ∃ t, xs.length = t := ⟨_, rfl⟩
 obtain ⟨ys, hys⟩ : ∃ t, xs.filter aokL = t := ⟨_, rfl⟩
 obtain ⟨zs, hzs⟩ : ∃ t, srt 12 ys = t := ⟨_, rfl⟩
 obtain ⟨rs, hrs⟩ : ∃ t, adr xs = t := ⟨_, rfl⟩
 rw [hys] at HDL HSO HCO
 rw [hzs] at HSO HCO
 rw [hrs] at HCO ⊢
 have HNN : Hid (xs.length = n) := hnn
 rw [hnn] at HDL
 clear hnn hys hzs hrs
 go_enter Tryz.func113, Tryz.ntmps113
 go_wp2_with (first
  | (go_at_call 61; refine HLV.out.mono ?_; rintro e w1 ⟨rfl, hlv, hl1⟩; have HL1 : Hid (pf.LV w1 w.heap.size) := hlv; have hs1 := hl1.size; clear hlv)
  | (go_at_call 84; refine (HCL.out _ (hl1.alloc hl1.size _)).mono ?_; rintro e w2 ⟨v2, rfl, hv2, hl2⟩; refine Hid.out ?_))
 refine Lib.hid ?_
 obtain ⟨g, cap, hve, hg2, hcm, hbk⟩ := blk_own' hv2
 rw [HNN.out] at hve
 subst hve
 have HB2 : Hid (Blk w2 g cap xs) := hbk
 rw [World.size_alloc] at hg2
 have hlt1 : w.heap.size < w1.heap.size := HL1.out.lt
 have HC2 : Hid (w2.cell? ⟨w1.heap.size, 0, none⟩ = some (.map (some w.heap.size))) := by
  show _ = _
  rw [(bcell hl2).1 w1.heap.size 0 (by simp)]
  simp [go_sem]
 have HL2 : Hid (pf.LV w2 w.heap.size) := by
  have h0 : pf.LV (w1.alloc (.cells #[.map (some w.heap.size)] 75)) w.heap.size := World.ownsMap.alloc HL1.out _
  exact h0.below hl2
 have B2 : Below w.heap.size w w2 := (hl1.alloc hl1.size _).trans (hl2.mono (by rw [World.size_alloc]; omega))
 clear hv2 hbk hl1 hl2
 go_wp2_with (go_at_call 144; refine (HDL.out _ g cap _ _ HB2.out HC2.out HL2.out (by omega) (by omega)).mono ?_; rintro e w3 ⟨rfl, hb3, hg3⟩; refine Hid.out ?_)
 refine Lib.hid ?_
 have HR3 : Hid (StrR w3 (.slice (some ⟨g, 0, none⟩) ys.length cap) ys) := hb3.row' hcm
 have B3 : Below w.heap.size w w3 := bel_grown B2 hg3 B2.size (by omega)
 clear hb3 hg3
 go_wp2_with (go_at_call 86; refine (HSO.out _ _ HR3.out).mono ?_; rintro e w4 ⟨v4, rfl, hv4, hl4⟩; refine Hid.out ?_)
 refine Lib.hid ?_
 obtain ⟨g4, cap4, hve4, hg4, hcm4, hbk4⟩ := blk_own' hv4
 subst hve4
 have HB4 : Hid (Blk w4 g4 cap4 zs) := hbk4
 have B4 : Below w.heap.size w w4 := B3.trans (hl4.mono B3.size)
 have s3 := B3.size
 clear hv4 hbk4 hl4
 go_wp2_with (go_at_call 146; refine (HCO.out _ _ _ HB4.out).mono ?_; rintro e w5 ⟨rfl, hb5, hg5⟩; have HB5 : Hid (Blk w5 g4 cap4 rs) := hb5; have HG5 : Hid (w4.grownBy w5 (some g4)) := hg5; clear hb5 hg5)
 go_ret
 exact ⟨⟨g4, cap4, rfl, by omega, hcm4, HB5.out⟩, bel_grown B4 HG5.out B4.size (by omega)⟩
end Go.Proofs.YtcpmgellfaeejaaGreatDoor.sr

namespace Go.Proofs.YtcpmgellfaeejaaGreatDoor.rf
open Go.ChangeShapes Go.WideShapes Go.ChangeAt Go.RowKit Go.Deep Go.Shelf Go.Sort
set_option linter.unusedVariables false
set_option linter.unusedSimpArgs false
def Occ (d p : List UInt8) : Prop := ∃ i, i + p.length ≤ d.length ∧ (d.drop i).take p.length = p
def InE (E : Nat → tt.En) (n : Nat) (p : List UInt8) : Prop := ∃ k, k < n ∧ Occ (E k).data.data.toList p
attribute [local instance] Classical.propDecidable
noncomputable def occB (d p : List UInt8) : Bool := decide (Occ d p)
noncomputable def inB (E : Nat → tt.En) (n : Nat) (p : List UInt8) : Bool := decide (InE E n p)
noncomputable def rfs (E : Nat → tt.En) (n : Nat) (xs : List (List UInt8)) : List (List UInt8) := (sr.adr xs).filter fun a => inB E n (a.take 13)
theorem occB_iff {d p : List UInt8} : occB d p = true ↔ Occ d p := by unfold occB; simp
theorem inB_iff {E : Nat → tt.En} {n : Nat} {p : List UInt8} : inB E n p = true ↔ InE E n p := by unfold inB; simp
theorem filt_fold (p : List UInt8 → Bool) (xs : List (List UInt8)) : (xs.foldl sr.fadd []).filter p = (xs.filter p).foldl sr.fadd [] := by
 refine sr.asc_ext ((sr.fold_asc xs [] List.Pairwise.nil).filter _) (sr.fold_asc _ [] List.Pairwise.nil) fun x => ?_
 rw [List.mem_filter, sr.fold_mem, sr.fold_mem, List.mem_filter]
 simp
theorem rfs_spec (E : Nat → tt.En) (n : Nat) (xs : List (List UInt8)) : rfs E n xs = ((xs.filter sr.aokL).filter fun a => inB E n (a.take 13)).foldl sr.fadd [] := by
 unfold rfs sr.adr
 exact filt_fold _ _
theorem rfs_len (E : Nat → tt.En) (n : Nat) (xs : List (List UInt8)) : (rfs E n xs).length ≤ xs.length := by
 have h1 := sr.adr_len xs
 have h2 := List.length_filter_le (fun a => inB E n (a.take 13)) (sr.adr xs)
 unfold rfs
 omega
end Go.Proofs.YtcpmgellfaeejaaGreatDoor.rf
