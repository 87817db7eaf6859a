import Derived.Test.YtnicjhapalgpdaaGreatDoorVM
import Derived.Deep.QuietTactic
import Derived.BigQuiet
import Derived.Shelf.Strconv.ParseIntPublic10
import Derived.Shelf.Lay
import Derived.Ground.NamesProg
namespace Go.Proofs.YtnicjhapalgpdaaGreatDoor.vr
open Go.ChangeShapes Go.WideShapes Go.ChangeAt Go.RowKit Go.Deep Go.Shelf
set_option linter.unusedVariables false
set_option linter.unusedSimpArgs false

/-! ### Versions: the program's side -/

shelf_lay LaysC.n174 Nm 174 at Tryz as laysPI

theorem lenS (s : ByteArray) : s.data.toList.length = s.size := Array.length_toList

theorem parseInt_any (s : ByteArray) (h0 : s.data.toList ≠ []) (h : ∀ c ∈ s.data.toList, dig c = true) (hl : s.data.toList.length ≤ 15) (w : World) :
    Calls Tryz.prog 54 #[.string s, .int .i64 10, .int .i64 64] w fun e w' => e = .returned (.tuple #[.int .i64 (numL s.data.toList : Int), .nilIface]) ∧ Below w.heap.size w w' := by
  have hs : s.size ≤ 15 := by rw [← lenS]; exact hl
  refine (Any.strconv_ParseInt_10_at64_ok laysPI s (by omega) _ (parse15 h0 h hl) w).mono ?_
  rintro e w' ⟨rfl, rfl | ⟨t, rfl⟩⟩
  · exact ⟨rfl, Below.refl _ _⟩
  · exact ⟨rfl, ⟨rfl, rfl, rfl, by rw [Lib.bytesWorld_size]; omega, fun j hj => Lib.bytesWorld_at_old w _ t j hj⟩⟩

theorem letter_any (c : UInt8) (w : World) :
    Calls Tryz.prog 32 #[.int .u8 (c.toNat : Int)] w fun e w' => e = .returned (.bool (ltr c)) ∧ w' = w := by
  go_enter Tryz.func32, Tryz.ntmps32
  go_wp2
  all_goals go_ret
  all_goals refine ⟨ret_bool ?_, rfl⟩
  all_goals (rw [Bool.eq_iff_iff]; simp [ltr]; omega)

theorem digit_any (c : UInt8) (w : World) :
    Calls Tryz.prog 31 #[.int .u8 (c.toNat : Int)] w fun e w' => e = .returned (.bool (dig c)) ∧ w' = w := by
  go_enter Tryz.func31, Tryz.ntmps31
  go_wp2
  all_goals go_ret
  all_goals refine ⟨ret_bool ?_, rfl⟩
  all_goals (rw [Bool.eq_iff_iff]; simp [dig]; omega)

theorem isLetter_any (c : UInt8) (w : World) :
    Calls Tryz.prog 45 #[.int .i32 (c.toNat : Int)] w fun e w' => e = .returned (.bool (ltr c)) ∧ w' = w := by
  go_enter Tryz.func45, Tryz.ntmps45
  go_wp2
  all_goals go_ret
  all_goals refine ⟨ret_bool ?_, rfl⟩
  all_goals (rw [Bool.eq_iff_iff]; simp [ltr]; omega)

theorem isDigit_any (c : UInt8) (w : World) :
    Calls Tryz.prog 34 #[.int .i32 (c.toNat : Int)] w fun e w' => e = .returned (.bool (dig c)) ∧ w' = w := by
  go_enter Tryz.func34, Tryz.ntmps34
  go_wp2
  all_goals go_ret
  all_goals refine ⟨ret_bool ?_, rfl⟩
  all_goals (rw [Bool.eq_iff_iff]; simp [dig]; omega)

theorem getS {s : ByteArray} {k : Nat} (h : k < s.size) : s.data.toList[k]? = some s[k] := by
  rw [List.getElem?_eq_getElem (by simpa using h)]; rfl

theorem dropS {s : ByteArray} {k : Nat} (h : k < s.size) : s.data.toList.drop k = s[k] :: s.data.toList.drop (k + 1) := by
  rw [List.drop_eq_getElem_cons (by simpa using h)]; rfl

theorem twS {f : UInt8 → Bool} {s : ByteArray} {k : Nat} (hk : k ≤ s.size) (ha : ∀ c ∈ s.data.toList.take k, f c = true) (hb : ∀ h : k < s.size, f s[k] = false) : (s.data.toList.takeWhile f).length = k := by
  have h1 := (tw_of (f := f) (l := s.data.toList) (List.take_append_drop k _).symm ha (fun c hc => by
    by_cases h : k < s.size
    · rw [dropS h] at hc
      have : c = s[k] := by simpa using hc.symm
      rw [this]; exact hb h
    · rw [List.drop_eq_nil_of_le (by rw [lenS]; omega)] at hc; cases hc)).1
  rw [h1, List.length_take, lenS]; omega

theorem takeS {f : UInt8 → Bool} {s : ByteArray} {k : Nat} (h : k < s.size) (ha : ∀ c ∈ s.data.toList.take k, f c = true) (hf : f s[k] = true) : ∀ c ∈ s.data.toList.take (k + 1), f c = true := by
  intro c hc
  rw [List.take_succ_eq_append_getElem (by simpa using h)] at hc
  rcases List.mem_append.1 hc with hc | hc
  · exact ha c hc
  · have : c = s[k] := by rw [List.mem_singleton] at hc; exact hc
    rw [this]; exact hf

theorem rowSize_dig (s : ByteArray) (hs : s.size ≤ 1000000) (w : World) :
    Calls Tryz.prog 46 #[.string s, .func (.func 34) #[] #[]] w fun e w' => e = .returned (.int .i64 ((s.data.toList.takeWhile dig).length : Int)) ∧ w' = w := by
  go_enter Tryz.func46, Tryz.ntmps46
  go_wp2
  go_loop [5] (fun i => ∃ k : Nat, k ≤ s.size ∧ i = .int .i64 k ∧ ∀ c ∈ s.data.toList.take k, dig c = true) (fun i => s.size - (intOf i).toNat)
  case atStart => exact ⟨0, Nat.zero_le _, rfl, by simp⟩
  case round =>
    obtain ⟨k, hk, rfl, hok⟩ := hrel
    have HO : Hid (∀ c ∈ s.data.toList.take k, dig c = true) := hok
    clear hok
    by_cases hlt : k < s.size
    · have hb255 : (s[k].toNat : Int) ≤ 255 := by have := s[k].toNat_lt; omega
      cases hd : dig s[k] with
      | true =>
        go_wp2_with (go_at_call 34; refine (isDigit_any _ _).mono ?_; rintro e w' ⟨rfl, rfl⟩)
        go_round
        case rel => exact ⟨k + 1, by omega, by go_num, takeS hlt HO.out hd⟩
        case measure => simp [intOf]; omega
      | false =>
        have HK : Hid ((s.data.toList.takeWhile dig).length = k) := twS hk HO.out (fun _ => hd)
        go_wp2_with (go_at_call 34; refine (isDigit_any _ _).mono ?_; rintro e w' ⟨rfl, rfl⟩)
        go_ret
        exact ⟨ret_int (by rw [HK.out]), rfl⟩
    · have HK : Hid ((s.data.toList.takeWhile dig).length = k) := twS hk HO.out (fun h => absurd h hlt)
      go_wp2
      go_ret
      exact ⟨ret_int (by rw [HK.out]), rfl⟩

theorem rowSize_ltr (s : ByteArray) (hs : s.size ≤ 1000000) (w : World) :
    Calls Tryz.prog 46 #[.string s, .func (.func 45) #[] #[]] w fun e w' => e = .returned (.int .i64 ((s.data.toList.takeWhile ltr).length : Int)) ∧ w' = w := by
  go_enter Tryz.func46, Tryz.ntmps46
  go_wp2
  go_loop [5] (fun i => ∃ k : Nat, k ≤ s.size ∧ i = .int .i64 k ∧ ∀ c ∈ s.data.toList.take k, ltr c = true) (fun i => s.size - (intOf i).toNat)
  case atStart => exact ⟨0, Nat.zero_le _, rfl, by simp⟩
  case round =>
    obtain ⟨k, hk, rfl, hok⟩ := hrel
    have HO : Hid (∀ c ∈ s.data.toList.take k, ltr c = true) := hok
    clear hok
    by_cases hlt : k < s.size
    · have hb255 : (s[k].toNat : Int) ≤ 255 := by have := s[k].toNat_lt; omega
      cases hd : ltr s[k] with
      | true =>
        go_wp2_with (go_at_call 45; refine (isLetter_any _ _).mono ?_; rintro e w' ⟨rfl, rfl⟩)
        go_round
        case rel => exact ⟨k + 1, by omega, by go_num, takeS hlt HO.out hd⟩
        case measure => simp [intOf]; omega
      | false =>
        have HK : Hid ((s.data.toList.takeWhile ltr).length = k) := twS hk HO.out (fun _ => hd)
        go_wp2_with (go_at_call 45; refine (isLetter_any _ _).mono ?_; rintro e w' ⟨rfl, rfl⟩)
        go_ret
        exact ⟨ret_int (by rw [HK.out]), rfl⟩
    · have HK : Hid ((s.data.toList.takeWhile ltr).length = k) := twS hk HO.out (fun h => absurd h hlt)
      go_wp2
      go_ret
      exact ⟨ret_int (by rw [HK.out]), rfl⟩

end Go.Proofs.YtnicjhapalgpdaaGreatDoor.vr
