import Derived.Test.YtclkgcahlemefaaDoorVP
import Derived.Test.YtclkgcahlemefaaDoorVJ
import Derived.Test.YtclkgcahlemefaaDoorVF
import Derived.Test.YtclkgcahlemefaaDoorVO
namespace Go.Proofs.YtclkgcahlemefaaDoor.dr
open Go.ChangeShapes Go.WideShapes Go.ChangeAt Go.RowKit Go.Deep
set_option linter.unusedVariables false
set_option linter.unusedSimpArgs false

theorem code_kept {w w' : World} {a : Option Addr} {n : Nat} (h : CodeB w a n) (hb : Below w.heap.size w w') : CodeB w' a n := by
  rcases h with h | ⟨b, off, e, h⟩
  · exact .inl h
  · refine .inr ⟨b, off, e, fun i hi => ?_⟩
    obtain ⟨x, hx, hc⟩ := h i hi
    exact ⟨x, hx, (hb.cell (p := ⟨b, _, none⟩) (World.block_lt_of_cell? _ _ hc)).trans hc⟩

set_option maxHeartbeats 1000000 in
set_option maxRecDepth 100000 in
theorem drawCmp (a : Option Addr) (n cap : Nat) (w : World) (hb : CodeB w a n) (hn : n ≤ 1048576) (hlt : ∀ x, a = some x → 0 < n → x.block < w.heap.size) :
    Calls Tryd.prog 5 #[.slice a n cap] w fun e w' => ∃ s t : ByteArray, e = .returned (.tuple #[.string s, .string t]) ∧ s.size ≤ 1000 ∧ t.size ≤ 2000 ∧ Below w.heap.size w w' := by
  have F1 : Hid True := trivial
  go_enter Tryd.func5, Tryd.ntmps5
  go_wp2_with (go_at_call 8; refine (new_any a n cap w hb hn).mono ?_; rintro e w0 ⟨rfl, h0, rfl⟩; have C0 := new_can (cap := cap) hb hn hlt h0; refine Hid.out ?_)
  refine Lib.hid ?_
  generalize hw0 : w.alloc (.cells #[.slice a n cap, .int .i64 0, .int .i64 h0] 44) = w0 at *
  have hz0 : w.heap.size < w0.heap.size := by rw [← hw0]; simp
  have B0 : Below w.heap.size w w0 := by rw [← hw0]; exact (Below.refl _ w).alloc (Nat.le_refl _) _
  clear hw0
  go_wp2_with (first
    | (go_at_call 9; have := F1.out; refine (ver_can C0 hz0).mono ?_; rintro e w1 ⟨s, rfl, hs, d1⟩; clear F1; have C1 := C0.draws d1; have hz1 := Nat.lt_of_lt_of_le hz0 d1.grown.size)
    | (go_at_call 9; refine (ver_can C1 hz1).mono ?_; rintro e w2 ⟨t, rfl, ht, d2⟩; have D2 := d1.trans d2; have C2 := C0.draws D2; have hz2 := Nat.lt_of_lt_of_le hz1 d2.grown.size)
    | (go_at_call 10; refine (once_can C2 4 (by decide) (by decide)).mono ?_; rintro e w3 ⟨b3, rfl, d3⟩; have D3 := D2.trans d3; have C3 := C0.draws D3; have hz3 := Nat.lt_of_lt_of_le hz2 d3.grown.size; refine Hid.out ?_))
  refine Lib.hid ?_
  cases b3 with
  | false =>
    go_wp2
    go_ret2
    exact ⟨s, t, rfl, hs, by omega, B0.trans (below_of_grown D3.grown (Nat.le_refl _) (by omega))⟩
  | true =>
    have D3a := C3.refl.alloc C3 hz3 (.cells #[.string ⟨#[46, 48]⟩, .string ⟨#[45, 114, 99]⟩, .string ⟨#[97]⟩, .string ⟨#[]⟩] 9)
    go_wp2_with (go_at_call 11; refine (below_can (C3.draws D3a) 4 (by decide) (by decide)).mono ?_; rintro e w4 ⟨x4, rfl, hx4, d4⟩; have hx4' : (x4 : Int) < 4 := (by omega); obtain ⟨y4, hy4, hW4⟩ := tabS (arr := #[.string ⟨#[46, 48]⟩, .string ⟨#[45, 114, 99]⟩, .string ⟨#[97]⟩, .string ⟨#[]⟩]) (by kernel_rfl) hx4; have hq4 : ¬ 9223372036854775807 < s.size + y4.size := (by omega); have D4 := D3.trans (D3a.trans d4); have c4 := d4.cell (hW4 w3) (by omega))
    go_ret2
    exact ⟨s, s ++ y4, rfl, hs, by rw [size_app]; omega, B0.trans (below_of_grown D4.grown (Nat.le_refl _) (by omega))⟩

theorem big_any (a : Option Addr) (n cap : Nat) (w : World) : Calls Tryd.prog 4 #[.slice a n cap] w fun e w' => e = .returned (.bool (decide (1048576 < (n : Int)))) ∧ w' = w := by
  go_enter Tryd.func4, Tryd.ntmps4
  go_wp2
  go_ret
  exact ⟨rfl, rfl⟩

end Go.Proofs.YtclkgcahlemefaaDoor.dr
namespace Go.Proofs.YtclkgcahlemefaaDoor.vr
open Go.ChangeShapes Go.WideShapes Go.ChangeAt Go.RowKit Go.Deep
set_option linter.unusedVariables false
set_option linter.unusedSimpArgs false

theorem ver12 : ver [49, 46, 50] = some [.num 1, .num 2] := by
  rw [ver_of (by decide) (by decide) (by intro c hc; cases hc; decide), prts_num rfl (by decide), show List.takeWhile dig [49, 46, 50] = [49] by decide, show List.dropWhile dig [49, 46, 50] = [46, 50] by decide, if_neg (by decide), prts_sep (by decide) (by decide) (.inl rfl), prts_num rfl (by decide), show List.takeWhile dig [50] = [50] by decide, show List.dropWhile dig [50] = [] by decide, if_neg (by decide), prts_nil]; rfl
theorem ver110 : ver [49, 46, 49, 48] = some [.num 1, .num 10] := by
  rw [ver_of (by decide) (by decide) (by intro c hc; cases hc; decide), prts_num rfl (by decide), show List.takeWhile dig [49, 46, 49, 48] = [49] by decide, show List.dropWhile dig [49, 46, 49, 48] = [46, 49, 48] by decide, if_neg (by decide), prts_sep (by decide) (by decide) (.inl rfl), prts_num rfl (by decide), show List.takeWhile dig [49, 48] = [49, 48] by decide, show List.dropWhile dig [49, 48] = [] by decide, if_neg (by decide), prts_nil]; rfl
theorem first_one : cmpV (⟨#[49, 46, 50]⟩ : ByteArray).data.toList (⟨#[49, 46, 49, 48]⟩ : ByteArray).data.toList = -1 := by
  show cmpV [49, 46, 50] [49, 46, 49, 48] = -1
  rw [cmpV_yes ver12 ver110]; rfl
theorem first_two : cmpV (⟨#[]⟩ : ByteArray).data.toList (⟨#[49]⟩ : ByteArray).data.toList = 2 := cmpV_no (.inl rfl)

theorem app_data (s : ByteArray) (b c : UInt8) : (s ++ ⟨#[b, c]⟩).data.toList = s.data.toList ++ [b, c] := by simp

end Go.Proofs.YtclkgcahlemefaaDoor.vr
