import Derived.Test.YtimcocmjmlejfaaGreatDoorVP
import Derived.Test.YtimcocmjmlejfaaGreatDoorSG
namespace Go.Proofs.YtimcocmjmlejfaaGreatDoor.dr
open Go.ChangeShapes Go.WideShapes Go.ChangeAt Go.RowKit Go.Deep
set_option linter.unusedVariables false
set_option linter.unusedSimpArgs false

/-! ### FnBestFirst: what is drawn, its bounds alone -/

set_option maxHeartbeats 4000000 in
set_option maxRecDepth 100000 in
theorem term_can {w : World} {c : Nat} {a : Option Addr} {n cap : Nat} (hc : Can w c a n cap) (hcw : c < w.heap.size) :
    Calls Tryz.prog 39 #[.pointer (some ⟨c, 0, none⟩)] w fun e w' => ∃ s : ByteArray, e = .returned (.string s) ∧ s.size ≤ 1064 ∧ Draws w w' c a n cap := by
  have hd := hc.refl
  go_enter Tryz.func39, Tryz.ntmps39
  go_wp2
  go_region_with (first
    | (go_at_call 37; refine (below_can (hc.draws ?_) 8 (by decide) (by decide)).mono ?_; (first | exact hd.drew | exact (hd.alloc hc hcw _).drew); rintro e w4 ⟨x4, rfl, hx4, d4⟩; have hx4' : (x4 : Int) < 8 := (by omega); obtain ⟨y4, hy4, hW4⟩ := tabS (arr := #[.string ⟨#[61]⟩, .string ⟨#[33, 61]⟩, .string ⟨#[62]⟩, .string ⟨#[62, 61]⟩, .string ⟨#[60]⟩, .string ⟨#[60, 61]⟩, .string ⟨#[94]⟩, .string ⟨#[126]⟩]) (by kernel_rfl) hx4; first | (have D4 := (hd.alloc hc hcw _).drew.trans d4; have c4 := d4.cell (hW4 w) (by omega)) | (have D4 := hd.drew.trans d4))
    | (go_at_call 38; refine (ver_can (hc.draws ?_) ?_).mono ?_; (first | exact D4 | exact D4.alloc hc hcw _); (have := D4.grown.size; first | omega | (simp; omega)); rintro e w5 ⟨s5, rfl, hs5, d5⟩; have hq5 : ¬ 9223372036854775807 < y4.size + s5.size := (by omega); first | (have D5 := D4.trans d5; have c5 := d5.cell c4 (by omega)) | (have D5 := (D4.alloc hc hcw _).trans d5; have c5 := d5.cell (hW4 w4) (by have := D4.grown.size; omega)) | (have D5 := D4.trans d5)))
  all_goals (
    go_wp2
    go_ret
    exact ⟨y4 ++ s5, rfl, by rw [size_app]; omega, by first | exact D5 | exact D5.alloc hc hcw _⟩)

set_option maxHeartbeats 4000000 in
set_option maxRecDepth 100000 in
theorem want_can {w : World} {c : Nat} {a : Option Addr} {n cap : Nat} (hc : Can w c a n cap) (hcw : c < w.heap.size) :
    Calls Tryz.prog 17 #[.pointer (some ⟨c, 0, none⟩)] w fun e w' => ∃ s : ByteArray, e = .returned (.string s) ∧ s.size ≤ 8000 ∧ Draws w w' c a n cap := by
  go_enter Tryz.func17, Tryz.ntmps17
  go_wp2_with (go_at_call 37; refine (below_can hc 3 (by decide) (by decide)).mono ?_; rintro e w1 ⟨x1, rfl, hx1, d1⟩)
  go_loopw [3, 4] (fun s i wr => ∃ (q : ByteArray) (k : Nat), s = .string q ∧ i = .int .i64 (k : Int) ∧ k ≤ 3 ∧ q.size + 2300 * k ≤ 7000 ∧ Draws w wr c a n cap) (fun _ i _ => (intOf i).toNat)
  case atStart => exact ⟨⟨#[]⟩, 1 + x1, rfl, by go_num, by omega, by show 0 + 2300 * (1 + x1) ≤ 7000; omega, d1⟩
  case round =>
    obtain ⟨q, k, rfl, rfl, hk, hq, hd⟩ := hrel
    have hsd := hd.grown.size
    clear d1
    by_cases hk0 : 0 < k
    · have hk0' : (0 : Int) < (k : Int) := by omega
      go_wp2_with (go_at_call 37; refine (below_can (hc.draws hd) 2 (by decide) (by decide)).mono ?_; rintro e w2 ⟨x2, rfl, hx2, d2⟩)
      have D2 := hd.trans d2
      clear d2 hd
      go_loopw [3, 5] (fun s i wr => ∃ (q : ByteArray) (m : Nat), s = .string q ∧ i = .int .i64 (m : Int) ∧ m ≤ 2 ∧ q.size + 1130 * m + 2300 * (k - 1) + 40 ≤ 7000 ∧ Draws w wr c a n cap) (fun _ i _ => (intOf i).toNat)
      case atStart => exact ⟨q, 1 + x2, rfl, by go_num, by omega, by omega, D2⟩
      case round =>
        obtain ⟨p, m, rfl, rfl, hm, hp, hdd⟩ := hrel
        have hse := hdd.grown.size
        clear D2
        by_cases hm0 : 0 < m
        · have hm0' : (0 : Int) < (m : Int) := by omega
          go_wp2_with (first
            | (go_at_call 39; refine (term_can (hc.draws hdd) (by omega)).mono ?_; rintro e w4 ⟨t4, rfl, ht4, d4⟩; have D4 := hdd.trans d4; have hq4 : ¬ 9223372036854775807 < p.size + t4.size := (by omega); have hs4 := D4.grown.size)
            | (go_at_call 37; refine (below_can (hc.draws (D4.alloc hc hcw _)) 3 (by decide) (by decide)).mono ?_; rintro e w5 ⟨x5, rfl, hx5, d5⟩; have hx5' : (x5 : Int) < 3 := (by omega); obtain ⟨y5, hy5, hW5⟩ := tabS (arr := #[.string ⟨#[32]⟩, .string ⟨#[32, 32]⟩, .string ⟨#[32]⟩]) (by kernel_rfl) hx5; have hq5 : ¬ 9223372036854775807 < (p ++ t4).size + y5.size := (by rw [size_app]; omega); have hq5' : ¬ 9223372036854775807 < p.size + t4.size + y5.size := (by omega); have D5 := (D4.alloc hc hcw _).trans d5; have c5 := d5.cell (hW5 w4) (by omega)))
          go_roundw
          case rel => exact ⟨p ++ t4 ++ y5, m - 1, rfl, by congr 1; omega, by omega, by rw [size_app, size_app]; omega, D5⟩
          case measure => simp [intOf]; omega
        · have hm0' : ¬ (0 : Int) < (m : Int) := by omega
          have hq3 : ¬ 9223372036854775807 < p.size + 3 := by omega
          by_cases hk1 : 1 < k
          · have hk1' : (1 : Int) < (k : Int) := by omega
            go_wp2
            go_roundw
            case rel => exact ⟨p ++ ⟨#[124, 124, 32]⟩, k - 1, rfl, by congr 1; omega, by omega, by rw [size_app]; show p.size + 3 + _ ≤ _; omega, hdd⟩
            case measure => simp [intOf]; omega
          · have hk1' : ¬ (1 : Int) < (k : Int) := by omega
            go_wp2
            go_roundw
            case rel => exact ⟨p, k - 1, rfl, by congr 1; omega, by omega, by omega, hdd⟩
            case measure => simp [intOf]; omega
    · have hk0' : ¬ (0 : Int) < (k : Int) := by omega
      go_wp2_with (go_at_call 37; refine (below_can (hc.draws hd) 20 (by decide) (by decide)).mono ?_; rintro e w4 ⟨x4, rfl, hx4, d4⟩; have D4 := hd.trans d4; clear d4 hd; refine Hid.out ?_)
      refine Lib.hid ?_
      have hs4 := D4.grown.size
      have hq3 : ¬ 9223372036854775807 < q.size + 4 := by omega
      rcases (show x4 = 0 ∨ x4 = 1 ∨ x4 = 2 ∨ x4 = 3 ∨ 4 ≤ x4 by omega) with rfl | rfl | rfl | rfl | h4
      · go_wp2
        go_ret
        exact ⟨⟨#[42]⟩, rfl, by decide, D4⟩
      · go_wp2
        go_ret
        exact ⟨⟨#[42]⟩, rfl, by decide, D4⟩
      · go_wp2_with (go_at_call 37; refine (below_can (hc.draws (D4.alloc hc hcw _)) 5 (by decide) (by decide)).mono ?_; rintro e w5 ⟨x5, rfl, hx5, d5⟩; have hx5' : (x5 : Int) < 5 := (by omega); obtain ⟨y5, hy5, hW5⟩ := tabS (arr := #[.string ⟨#[124, 124]⟩, .string ⟨#[42]⟩, .string ⟨#[120]⟩, .string ⟨#[62]⟩, .string ⟨#[62, 32, 49]⟩]) (by kernel_rfl) hx5; have hq5 : ¬ 9223372036854775807 < q.size + y5.size := (by omega); have D5 := (D4.alloc hc hcw _).trans d5; have c5 := d5.cell (hW5 w4) (by omega))
        go_ret
        exact ⟨q ++ y5, rfl, by rw [size_app]; omega, D5⟩
      · go_wp2
        go_ret
        exact ⟨q ++ ⟨#[124, 124, 32, 42]⟩, rfl, by rw [size_app]; show q.size + 4 ≤ _; omega, D4⟩
      · have e0 : ¬ (x4 : Int) = 0 := by omega
        have e1 : ¬ (x4 : Int) = 1 := by omega
        have e2 : ¬ (x4 : Int) = 2 := by omega
        have e3 : ¬ (x4 : Int) = 3 := by omega
        go_wp2
        go_ret
        exact ⟨q, rfl, by omega, D4⟩

set_option maxHeartbeats 2000000 in
set_option maxRecDepth 100000 in
theorem many_can {w : World} {c : Nat} {a : Option Addr} {n cap : Nat} (h : Can w c a n cap) (hcw : c < w.heap.size) :
    Calls Tryz.prog 16 #[.pointer (some ⟨c, 0, none⟩)] w fun e w' => ∃ (v : Value) (xs : List (List UInt8)), e = .returned v ∧ sr.OwnS w.heap.size w' v xs ∧ xs.length ≤ 8 ∧ (∀ x ∈ xs, x.length ≤ 1000) ∧ Draws w w' c a n cap := by
  have D0 : Draws w (w.alloc (.cells #[] 9)) c a n cap := h.refl.alloc h hcw _
  have HO0 : Hid (sr.OwnS w.heap.size (w.alloc (.cells #[] 9)) (.slice (some ⟨w.heap.size, 0, none⟩) 0 0) []) := sv.own_zeroS w
  go_enter Tryz.func16, Tryz.ntmps16
  go_wp2_with (go_at_call 37; refine (below_can (h.draws D0) 9 (by decide) (by decide)).mono ?_; rintro e w1 ⟨x1, rfl, hx1, d1⟩)
  have HO1 : Hid (sr.OwnS w.heap.size w1 (.slice (some ⟨w.heap.size, 0, none⟩) 0 0) []) := ⟨own_draws HO0.out.1 hcw d1, HO0.out.2⟩
  have D1 := D0.trans d1
  clear d1 D0
  go_loopw [3, 4] (fun r i wr => ∃ (k : Nat) (xs : List (List UInt8)), i = .int .i64 (k : Int) ∧ xs.length + k ≤ 8 ∧ sr.OwnS w.heap.size wr r xs ∧ (∀ x ∈ xs, x.length ≤ 1000) ∧ Draws w wr c a n cap) (fun _ i _ => (intOf i).toNat)
  case atStart => exact ⟨x1, [], rfl, by simp; omega, HO1.out, fun x hx => by simp at hx, D1⟩
  case round =>
    obtain ⟨k, xs, rfl, hk, hown, hxs, hd⟩ := hrel
    have HOW : Hid (sr.OwnS w.heap.size wr u3 xs) := hown
    have HXS : Hid (∀ x ∈ xs, x.length ≤ 1000) := hxs
    have hsd := hd.grown.size
    clear hown hxs D1
    by_cases hk0 : 0 < k
    · have hk0' : (0 : Int) < (k : Int) := by omega
      go_wp2_with (first
        | (go_at_call 38; refine (ver_can (h.draws hd) (by omega)).mono ?_; rintro e w2 ⟨s2, rfl, hs2, d2⟩; have HO2 : Hid (sr.OwnS w.heap.size w2 u3 xs) := ⟨own_draws HOW.out.1 hcw d2, HOW.out.2⟩; have D2 := hd.trans d2; have hs2' := D2.grown.size)
        | (at_builtin; refine sv.app_text _ rfl _ _ rfl w.heap.size _ xs rfl ⟨HO2.out.1.alloc _, HO2.out.2⟩ ⟨_, 0, none⟩ 1 1 [s2.data.toList] rfl rfl (sv.one_str _ (sr.strL_of s2)) (by omega) (by simp; omega) ?_; intro v4 w4 hown4 hg4 hat4)
        | go_in)
      have hc4 := can_app (h.draws D2) (HO2.out.1.alloc _) hcw hs2' hg4
      go_roundw
      case rel => exact ⟨k - 1, xs ++ [s2.data.toList], by congr 1; omega, by simp; omega, hown4, fun x hx => by
        rcases List.mem_append.1 hx with h' | h'
        · exact HXS.out x h'
        · obtain rfl := List.mem_singleton.1 h'
          simpa using hs2, ⟨hc4.code, hc4.cur, grown_app (grown_alloc D2.grown _) (HO2.out.1.alloc _) hg4⟩⟩
      case measure => simp [intOf]; omega
    · have hk0' : ¬ (0 : Int) < (k : Int) := by omega
      go_wp2
      go_ret
      exact ⟨_, rfl, xs, HOW.out, by omega, HXS.out, hd⟩

set_option maxHeartbeats 2000000 in
set_option maxRecDepth 100000 in
theorem drawBest (a : Option Addr) (n cap : Nat) (w : World) (hb : CodeB w a n) (hn : n ≤ 1048576) (hlt : ∀ x, a = some x → 0 < n → x.block < w.heap.size) :
    Calls Tryz.prog 5 #[.slice a n cap] w fun e w' => ∃ (v : Value) (xs : List (List UInt8)) (s : ByteArray), e = .returned (.tuple #[v, .string s]) ∧ sr.OwnS w.heap.size w' v xs ∧ xs.length ≤ 8 ∧ (∀ x ∈ xs, x.length ≤ 1000) ∧ s.size ≤ 8000 ∧ Below w.heap.size w w' := by
  go_enter Tryz.func5, Tryz.ntmps5
  go_wp2_with (go_at_call 15; refine (new_any a n cap w hb hn).mono ?_; rintro e w0 ⟨rfl, h0, rfl⟩; have C0 := new_can (cap := cap) hb hn hlt h0; refine Hid.out ?_)
  refine Lib.hid ?_
  generalize hw0 : w.alloc (.cells #[.slice a n cap, .int .i64 0, .int .i64 h0] 72) = w0 at *
  have hz0 : w.heap.size < w0.heap.size := by rw [← hw0]; simp
  have B0 : Below w.heap.size w w0 := by rw [← hw0]; exact (Below.refl _ w).alloc (Nat.le_refl _) _
  clear hw0
  go_wp2_with (first
    | (go_at_call 16; refine (many_can C0 hz0).mono ?_; rintro e w1 ⟨v, xs, rfl, ho1, hx1, hx2, d1⟩; have C1 := C0.draws d1; have hz1 := Nat.lt_of_lt_of_le hz0 d1.grown.size; obtain ⟨ra, rc, rfl⟩ := own_shape ho1.1)
    | (go_at_call 17; refine (want_can C1 hz1).mono ?_; rintro e w2 ⟨s, rfl, hs, d2⟩; have D2 := d1.trans d2; have ho2 : sr.OwnS w0.heap.size w2 _ xs := ⟨own_draws ho1.1 hz0 d2, ho1.2⟩))
  go_ret2
  exact ⟨_, xs, s, rfl, ho2.mono (by omega), hx1, hx2, hs, B0.trans (below_of_grown D2.grown (Nat.le_refl _) (by omega))⟩

end Go.Proofs.YtimcocmjmlejfaaGreatDoor.dr
