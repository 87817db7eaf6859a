import Derived.Test.YtihjdggmmmlpkaaDoorWC
namespace Go.Proofs.YtihjdggmmmlpkaaDoor.wd
open Go.ChangeShapes Go.WideShapes Go.ChangeAt Go.RowKit Go.Deep Go.Maps
set_option linter.unusedVariables false
set_option maxRecDepth 100000

def idxTo (c : UInt8) (k : Nat) : Option Nat := (List.range k).find? fun j => letU j == c
def idxI (c : UInt8) : Int := match idxTo c 32 with | some j => (j : Int) | none => -1

theorem idxTo_succ (c : UInt8) (k : Nat) : idxTo c (k + 1) = match idxTo c k with | some j => some j | none => if letU k == c then some k else none := by
  unfold idxTo
  rw [List.range_succ, List.find?_append]
  cases (List.range k).find? fun j => letU j == c with
  | some j => rfl
  | none => simp [List.find?_cons]; split <;> simp_all

theorem idxTo_lt {c : UInt8} {k j : Nat} (h : idxTo c k = some j) : j < k := by
  have := List.mem_of_find?_eq_some h
  simpa using this

theorem idxTo_none {c : UInt8} {k : Nat} (h : idxTo c k = none) (j : Nat) (hj : j < k) : ¬ letU j = c := by
  have := List.find?_eq_none.1 h j (by simpa using hj)
  simpa using this

theorem letU_ne : ∀ i, i < 32 → ∀ j, j < 32 → letU i = letU j → i = j := by decide

theorem idxTo_some {c : UInt8} {k j : Nat} (h : idxTo c k = some j) : letU j = c := by
  have := List.find?_some h
  simpa using this

theorem idxTo_grow {c : UInt8} {k j : Nat} (hk : k < 32) (h : idxTo c (k + 1) = some j) : idxTo c 32 = some j := by
  have : ∀ n, k + 1 + n ≤ 32 → idxTo c (k + 1 + n) = some j := by
    intro n
    induction n with
    | zero => intro _; exact h
    | succ n ih => intro hn; rw [← Nat.add_assoc, idxTo_succ, ih (by omega)]
  have := this (31 - k) (by omega)
  rwa [show k + 1 + (31 - k) = 32 by omega] at this

theorem index_any (c : UInt8) (w : World) :
    Calls Tryd.prog 81 #[.int .u8 (c.toNat : Int)] w fun e w' => e = .returned (.int .i64 (idxI c)) ∧ w' = w := by
  go_enter Tryd.func81, Tryd.ntmps81
  go_wp2
  go_loop [3] (fun i => ∃ k : Nat, k ≤ 32 ∧ i = .int .i64 k ∧ idxTo c k = none) (fun i => 32 - (intOf i).toNat)
  case atStart => exact ⟨0, by omega, rfl, rfl⟩
  case round =>
    obtain ⟨k, hk, rfl, hno⟩ := hrel
    by_cases hlt : k < 32
    · have hidx := let_at k hlt
      have hs : Hid (idxTo c (k + 1) = if letU k == c then some k else none) := by
        show idxTo c (k + 1) = _
        rw [idxTo_succ, hno]
      by_cases he : letU k = c
      · have hF : Hid (idxI c = (k : Int)) := by
          show idxI c = _
          have := idxTo_grow hlt (by rw [hs.out, if_pos (by simpa using he)])
          simp [idxI, this]
        have he' : (((letU k).toNat : Int) == (c.toNat : Int)) = true := by rw [he]; simp
        go_wp2
        go_ret
        exact ⟨ret_int hF.out.symm, rfl⟩
      · have he' : (((letU k).toNat : Int) == (c.toNat : Int)) = false := by
          rw [beq_eq_false_iff_ne]
          intro h
          exact he (UInt8.toNat_inj.1 (by omega))
        go_wp2
        go_round
        case rel => exact ⟨k + 1, by omega, by go_num, by rw [hs.out, if_neg (by simpa using he)]⟩
        case measure => simp [intOf]; omega
    · obtain rfl : k = 32 := by omega
      go_wp2
      go_ret
      exact ⟨ret_int (by simp [idxI, hno]), rfl⟩

/-- What the map of letters holds. -/
theorem key8 (c : UInt8) : WideAt.IsKeyLit (lit8 c) := trivial

theorem lvD_map (k : Nat) : IsMap (lvD k) := by
  induction k with
  | zero => exact isMap_empty
  | succ k ih => exact ih.put _ _

theorem lit8_inj {a b : UInt8} (h : lit8 a = lit8 b) : a = b := by
  simp only [lit8, Lit.int.injEq, true_and] at h
  exact UInt8.toNat_inj.1 (by omega)

theorem lvD_at (c : UInt8) : ∀ k, k ≤ 32 → has (lvD k) (lit8 c) = (idxTo c k).isSome ∧ (lvD k).atKey (lit8 c) (.lit (.int .u64 0)) = .lit (.int .u64 (((idxTo c k).getD 0 : Nat) : Int)) := by
  intro k
  induction k with
  | zero => intro _; exact ⟨rfl, rfl⟩
  | succ k ih =>
    intro hk
    obtain ⟨h1, h2⟩ := ih (by omega)
    by_cases he : letU k = c
    · have hn : idxTo c k = none := by
        cases h : idxTo c k with
        | none => rfl
        | some j =>
          have := letU_ne j (by have := idxTo_lt h; omega) k (by omega) ((idxTo_some h).trans he.symm)
          have := idxTo_lt h
          omega
      have hs : idxTo c (k + 1) = some k := by rw [idxTo_succ, hn]; simp [he]
      subst he
      rw [hs]
      exact ⟨has_put_same (lvD_map k) (key8 _) _, atKey_put_same (lvD_map k) (key8 _) _ _⟩
    · have hne : lit8 c ≠ lit8 (letU k) := fun h => he (lit8_inj h).symm
      have hs : idxTo c (k + 1) = idxTo c k := by
        rw [idxTo_succ]
        cases h : idxTo c k with
        | none => simp [he]
        | some j => rfl
      rw [hs]
      exact ⟨(has_put_other hne _).trans h1, (atKey_put_other hne _ _).trans h2⟩

/-- What is read of the first k letters. -/
def rdTo (s : ByteArray) : Nat → Option Nat
  | 0 => some 0
  | k + 1 => match rdTo s k, idxTo (s.data.toList[k]?.getD 0) 32 with
    | some x, some v => if k = 0 ∧ 15 < v then none else some (x * 32 + v)
    | _, _ => none

theorem rd_bd (s : ByteArray) : ∀ k x, rdTo s (k + 1) = some x → 2 * x + 2 ≤ 32 ^ (k + 1) := by
  intro k
  induction k with
  | zero =>
    intro x h
    simp only [rdTo] at h
    split at h
    · rename_i y v h1 h2
      have := idxTo_lt h2
      split at h
      · cases h
      · rename_i hn; simp at hn; cases h; cases h1; omega
    · cases h
  | succ k ih =>
    intro x h
    unfold rdTo at h
    split at h
    · rename_i y v h1 h2
      have := idxTo_lt h2
      have := ih y h1
      split at h
      · cases h
      · cases h
        rw [Nat.pow_succ]
        omega
    · cases h

theorem rd_lt {s : ByteArray} {k x : Nat} (hk : k ≤ 12) (h : rdTo s k = some x) : x < 576460752303423488 := by
  match k, hk, h with
  | 0, _, h => cases h; omega
  | k + 1, hk, h =>
    have h1 := rd_bd s k x h
    have h2 : 32 ^ (k + 1) ≤ 32 ^ 12 := Nat.pow_le_pow_right (by omega) hk
    omega

theorem rd_none {s : ByteArray} {k : Nat} (h : rdTo s k = none) (n : Nat) : rdTo s (k + n) = none := by
  induction n with
  | zero => exact h
  | succ n ih => rw [← Nat.add_assoc]; unfold rdTo; rw [ih]

theorem rd_stop {s : ByteArray} {k : Nat} (hk : k < 13) (h : rdTo s (k + 1) = none) : rdTo s 13 = none := by
  have := rd_none h (12 - k)
  rwa [show k + 1 + (12 - k) = 13 by omega] at this

/-- The two answers of ReadWord32. -/
def rwX (s : ByteArray) : Int := if s.size = 13 then (((rdTo s 13).getD 0 : Nat) : Int) else 0
def rwB (s : ByteArray) : Bool := decide (s.size = 13) && (rdTo s 13).isSome

theorem get_at {s : ByteArray} {k : Nat} (h : k < s.size) : s.data.toList[k]?.getD 0 = s[k] := by
  rw [List.getElem?_eq_getElem (by simpa using h)]; rfl

theorem rd_step {s : ByteArray} {k x : Nat} (hk : k < s.size) (hx : rdTo s k = some x) : rdTo s (k + 1) = match idxTo s[k] 32 with | some v => if k = 0 ∧ 15 < v then none else some (x * 32 + v) | none => none := by
  have e := get_at hk
  unfold rdTo
  rw [hx, e]
  cases idxTo s[k] 32 <;> rfl

theorem ret_two {k : IntKind} {a b : Int} {c d : Bool} (h : a = b) (h2 : c = d) : Ending.returned (.tuple #[.int k a, .bool c]) = .returned (.tuple #[.int k b, .bool d]) := by rw [h, h2]

theorem index_none {c : UInt8} (h : Hid (idxTo c 32 = none)) (w : World) :
    Calls Tryd.prog 81 #[.int .u8 (c.toNat : Int)] w fun e w' => e = .returned (.int .i64 (-1)) ∧ w' = w :=
  (index_any c w).mono fun e w' ⟨he, hw⟩ => ⟨he.trans (ret_int (by simp [idxI, h.out])), hw⟩

theorem index_some {c : UInt8} {v : Nat} (h : Hid (idxTo c 32 = some v)) (w : World) :
    Calls Tryd.prog 81 #[.int .u8 (c.toNat : Int)] w fun e w' => e = .returned (.int .i64 (v : Int)) ∧ w' = w :=
  (index_any c w).mono fun e w' ⟨he, hw⟩ => ⟨he.trans (ret_int (by simp [idxI, h.out])), hw⟩

theorem rw_no {s : ByteArray} {k : Nat} (hz : s.size = 13) (hk : k < 13) (h : rdTo s (k + 1) = none) :
    Ending.returned (.tuple #[.int .u64 (rwX s), .bool (rwB s)]) = .returned (.tuple #[.int .u64 0, .bool false]) := by
  have := rd_stop hk h
  exact ret_two (by simp [rwX, this]) (by simp [rwB, this])

theorem mix_add {x v : Nat} (h : x < 576460752303423488) (hv : v < 32) : IntKind.u64.wrap (IntKind.u64.wrap ((x : Int) * 32) + (v : Int)) = ((x * 32 + v : Nat) : Int) := by
  rw [IntKind.wrap_u64, IntKind.wrap_u64]
  omega

theorem mix_or {x v : Nat} (h : x < 576460752303423488) (hv : v < 32) : bits BinOp.or IntKind.u64 (IntKind.u64.wrap ((x : Int) * 32)) (v : Int) = ((x * 32 + v : Nat) : Int) := by
  have e : IntKind.u64.wrap ((x : Int) * 32) = ((32 * x : Nat) : Int) := by rw [IntKind.wrap_u64]; omega
  rw [e, bits_or_u64_nat (32 * x) v (by omega) (by omega)]
  have := Nat.two_pow_add_eq_or_of_lt (i := 5) hv x
  rw [show (2 : Nat) ^ 5 = 32 from rfl] at this
  rw [← this, Nat.mul_comm]

theorem rspec_any (s : ByteArray) (hs : s.size ≤ 1048576) (w : World) :
    Calls Tryd.prog 69 #[.string s] w fun e w' => e = .returned (.tuple #[.int .u64 (rwX s), .bool (rwB s)]) ∧ w' = w := by
  by_cases hz : s.size = 13
  · have hz' : ((s.size : Int) == 13) = true := by rw [hz]; rfl
    have hzi : (s.size : Int) = 13 := by omega
    go_enter Tryd.func69, Tryd.ntmps69
    go_wp2
    go_loop [4, 5, 6] (fun y i _ => ∃ k x : Nat, k ≤ 13 ∧ i = .int .i64 k ∧ y = .int .u64 (x : Int) ∧ rdTo s k = some x) (fun _ i _ => 13 - (intOf i).toNat)
    case atStart => exact ⟨0, 0, by omega, rfl, rfl, rfl⟩
    case round =>
      obtain ⟨k, x, hk, rfl, rfl, hrd⟩ := hrel
      by_cases hlt : k < 13
      · have hks : k < s.size := by omega
        have hst : Hid (rdTo s (k + 1) = match idxTo s[k] 32 with | some v => if k = 0 ∧ 15 < v then none else some (x * 32 + v) | none => none) := rd_step hks hrd
        have hxb : Hid (x < 576460752303423488) := rd_lt (by omega : k ≤ 12) hrd
        have hki : (k : Int) < (s.size : Int) := by omega
        have HR : Hid (rdTo s k = some x) := hrd
        have HZ : Hid (s.size = 13) := hz
        clear hz hz' hzi hrd
        cases hi : idxTo s[k] 32 with
        | none =>
          have HI : Hid (idxTo s[k] 32 = none) := hi
          clear hi
          go_wp2_with (go_at_call 81; refine (index_none HI _).mono ?_; rintro e w' ⟨rfl, rfl⟩)
          go_ret2
          exact ⟨(rw_no HZ.out hlt (by rw [hst.out, HI.out])).symm, rfl⟩
        | some v =>
          have HI : Hid (idxTo s[k] 32 = some v) := hi
          have hv : v < 32 := idxTo_lt hi
          clear hi
          by_cases hc : k = 0 ∧ 15 < v
          · obtain ⟨rfl, hc⟩ := hc
            go_wp2_with (go_at_call 81; refine (index_some HI _).mono ?_; rintro e w' ⟨rfl, rfl⟩)
            go_ret2
            exact ⟨(rw_no HZ.out hlt (by rw [hst.out, HI.out]; simp [hc])).symm, rfl⟩
          · have hnx : Hid (rdTo s (k + 1) = some (x * 32 + v)) := by
              show rdTo s (k + 1) = _
              rw [hst.out, HI.out]
              simp only [if_neg hc]
            by_cases hk0 : k = 0
            · have hv15 : v ≤ 15 := by omega
              subst hk0
              go_wp2_with (go_at_call 81; refine (index_some HI _).mono ?_; rintro e w' ⟨rfl, rfl⟩)
              go_round
              case rel => exact ⟨0 + 1, x * 32 + v, by omega, by go_num, by rw [mix_add hxb.out hv], hnx.out⟩
              case measure => simp [intOf]
            · have hk0' : ((k : Int) == 0) = false := by simp; omega
              go_wp2_with (go_at_call 81; refine (index_some HI _).mono ?_; rintro e w' ⟨rfl, rfl⟩)
              go_round
              case rel => exact ⟨k + 1, x * 32 + v, by omega, by go_num, by rw [mix_add hxb.out hv], hnx.out⟩
              case measure => simp [intOf]; omega
      · obtain rfl : k = 13 := by omega
        go_wp2
        go_ret2
        exact ⟨ret_two (by simp [rwX, hz, hrd]) (by simp [rwB, hz, hrd]), rfl⟩
  · have hz' : ((s.size : Int) == 13) = false := by simp; omega
    go_enter Tryd.func69, Tryd.ntmps69
    go_wp2
    go_ret2
    exact ⟨ret_two (by simp [rwX, hz]) (by simp [rwB, hz]), rfl⟩

theorem lv_c {c : UInt8} {z : Int} {v : Nat} (h : idxTo c 32 = some v) (hat : (lvD 32).atKey (lit8 c) (.lit (.int .u64 0)) = .lit (.int .u64 z)) : z = (v : Int) := by
  have := (lvD_at c 32 (Nat.le_refl _)).2
  rw [hat, h] at this
  simpa using this

theorem lv_has {c : UInt8} {v : Nat} (h : idxTo c 32 = some v) : Maps.has (lvD 32) (lit8 c) = true := by
  rw [(lvD_at c 32 (Nat.le_refl _)).1, h]; rfl

theorem lv_hasnt {c : UInt8} (h : idxTo c 32 = none) : Maps.has (lvD 32) (lit8 c) = false := by
  rw [(lvD_at c 32 (Nat.le_refl _)).1, h]; rfl

theorem rword_any (s : ByteArray) (hs : s.size ≤ 1048576) (mb : Nat) (w : World) (hown : w.ownsMap Tryd.prog 5 (plainElem Tryd.prog 74) mb 32 (lvD 32)) :
    Calls Tryd.prog 76 #[.string s, .map (some mb)] w fun e w' => e = .returned (.tuple #[.int .u64 (rwX s), .bool (rwB s)]) ∧ w' = w := by
  by_cases hz : s.size = 13
  · have hz' : ((s.size : Int) == 13) = true := by rw [hz]; rfl
    have hzi : (s.size : Int) = 13 := by omega
    go_enter Tryd.func76, Tryd.ntmps76
    go_wp2
    go_loop [6, 7, 8, 9, 13] (fun y _ _ _ i => ∃ k x : Nat, k ≤ 13 ∧ i = .int .i64 k ∧ y = .int .u64 (x : Int) ∧ rdTo s k = some x) (fun _ _ _ _ i => 13 - (intOf i).toNat)
    case atStart => exact ⟨0, 0, by omega, rfl, rfl, rfl⟩
    case round =>
      obtain ⟨k, x, hk, rfl, rfl, hrd⟩ := hrel
      by_cases hlt : k < 13
      · have hks : k < s.size := by omega
        have hst : Hid (rdTo s (k + 1) = match idxTo s[k] 32 with | some v => if k = 0 ∧ 15 < v then none else some (x * 32 + v) | none => none) := rd_step hks hrd
        have hxb : Hid (x < 576460752303423488) := rd_lt (by omega : k ≤ 12) hrd
        have hki : (k : Int) < (s.size : Int) := by omega
        have HR : Hid (rdTo s k = some x) := hrd
        have HZ : Hid (s.size = 13) := hz
        have hkey : keyOf Tryd.prog 5 (.int .u8 (s[k].toNat : Int)) = some (lit8 s[k]) := keyOf_int_mk Tryd.underlying5 (wf8 _)
        clear hz hz' hzi hrd
        cases hi : idxTo s[k] 32 with
        | none =>
          have HI : Hid (idxTo s[k] 32 = none) := hi
          have hh := lv_hasnt hi
          clear hi
          go_wp2_with (first
            | (at_lookup; refine wpList_lookup_own_ok_int _ rfl _ _ 42 rfl 5 74 .u64 law5 Tryd.underlying42 Tryd.underlying74 (zero22 _) mb 32 (lvD 32) rfl hown _ _ rfl hkey ?_; intro c hat hwc; clear hat hwc)
            | go_in)
          go_ret2
          exact ⟨(rw_no HZ.out hlt (by rw [hst.out, HI.out])).symm, rfl⟩
        | some v =>
          have HI : Hid (idxTo s[k] 32 = some v) := hi
          have hv : v < 32 := idxTo_lt hi
          have hh := lv_has hi
          have hC : Hid (∀ z, (lvD 32).atKey (lit8 s[k]) (.lit (.int .u64 0)) = .lit (.int .u64 z) → z = (v : Int)) := fun z h => lv_c hi h
          clear hi
          by_cases hc : k = 0 ∧ 15 < v
          · obtain ⟨rfl, hc⟩ := hc
            go_wp2_with (first
              | (at_lookup; refine wpList_lookup_own_ok_int _ rfl _ _ 42 rfl 5 74 .u64 law5 Tryd.underlying42 Tryd.underlying74 (zero22 _) mb 32 (lvD 32) rfl hown _ _ rfl hkey ?_; intro c hat hwc; obtain rfl := hC.out c hat; clear hat hwc)
              | go_in)
            go_ret2
            exact ⟨(rw_no HZ.out hlt (by rw [hst.out, HI.out]; simp [hc])).symm, rfl⟩
          · have hnx : Hid (rdTo s (k + 1) = some (x * 32 + v)) := by
              show rdTo s (k + 1) = _
              rw [hst.out, HI.out]
              simp only [if_neg hc]
            by_cases hk0 : k = 0
            · have hv15 : v ≤ 15 := by omega
              subst hk0
              go_wp2_with (first
                | (at_lookup; refine wpList_lookup_own_ok_int _ rfl _ _ 42 rfl 5 74 .u64 law5 Tryd.underlying42 Tryd.underlying74 (zero22 _) mb 32 (lvD 32) rfl hown _ _ rfl hkey ?_; intro c hat hwc; obtain rfl := hC.out c hat; clear hat hwc)
                | go_in)
              go_round
              case rel => exact ⟨0 + 1, x * 32 + v, by omega, by go_num, by rw [mix_or hxb.out hv], hnx.out⟩
              case measure => simp [intOf]
            · have hk0' : ((k : Int) == 0) = false := by simp; omega
              go_wp2_with (first
                | (at_lookup; refine wpList_lookup_own_ok_int _ rfl _ _ 42 rfl 5 74 .u64 law5 Tryd.underlying42 Tryd.underlying74 (zero22 _) mb 32 (lvD 32) rfl hown _ _ rfl hkey ?_; intro c hat hwc; obtain rfl := hC.out c hat; clear hat hwc)
                | go_in)
              go_round
              case rel => exact ⟨k + 1, x * 32 + v, by omega, by go_num, by rw [mix_or hxb.out hv], hnx.out⟩
              case measure => simp [intOf]; omega
      · obtain rfl : k = 13 := by omega
        go_wp2
        go_ret2
        exact ⟨ret_two (by simp [rwX, hz, hrd]) (by simp [rwB, hz, hrd]), rfl⟩
  · have hz' : ((s.size : Int) == 13) = false := by simp; omega
    go_enter Tryd.func76, Tryd.ntmps76
    go_wp2
    go_ret2
    exact ⟨ret_two (by simp [rwX, hz]) (by simp [rwB, hz]), rfl⟩

end Go.Proofs.YtihjdggmmmlpkaaDoor.wd
