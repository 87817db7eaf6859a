import Derived.Test.YtbnmefponeomiaaDoorD3
namespace Go.Proofs.YtbnmefponeomiaaDoor.dr
open Go.ChangeShapes Go.WideShapes Go.ChangeAt Go.RowKit Go.Deep
set_option linter.unusedVariables false
set_option linter.unusedSimpArgs false

theorem tab_drawn {w2 w3 : World} {arr : Array Value} {c : Nat} {a : Option Addr} {n cap : Nat} (d : Draws (w2.alloc (.cells arr 9)) w3 c a n cap) (hok : arr.all strOk = true) (hc : c < w2.heap.size) : Tab w3 w2.heap.size arr.size :=
  (tab_new w2 arr _ rfl hok).draws d (by omega)
theorem Tab.alloc {wr : World} {b m : Nat} (h : Tab wr b m) (o : Obj) : Tab (wr.alloc o) b m := h.below ((Below.refl _ _).alloc (Nat.le_refl _) _)

set_option maxHeartbeats 4000000 in
theorem draw_can {w : World} {c : Nat} {a : Option Addr} {n cap : Nat} (hc : Can w c a n cap) (hcw : c < w.heap.size) :
    Calls Tryd.prog 39 #[.pointer (some ⟨c, 0, none⟩)] w fun e w' => ∃ s : ByteArray, e = .returned (.string s) ∧ s.size ≤ 2000 ∧ Draws w w' c a n cap := by
  go_enter Tryd.func39, Tryd.ntmps39
  go_wp2_with (go_at_call 47; refine (signs_any w).mono ?_; rintro e w0 ⟨rfl, T0, b0, hs0⟩; have D0 := hc.refl.below hc hcw b0)
  go_wp2_with (go_at_call 28; refine (below_can (hc.draws D0) 16 (by decide) (by decide)).mono ?_; rintro e w1 ⟨x1, rfl, hx1, d1⟩; have D1 := D0.trans d1; have T1 := T0.draws d1 (by omega))
  clear d1 D0 T0
  go_loopw [4, 5] (fun s i wr => ∃ (t : ByteArray) (j : Nat), s = .string t ∧ i = .int .i64 (j : Int) ∧ t.size + 64 * j ≤ 1024 ∧ Draws w wr c a n cap ∧ Tab wr w.heap.size 29) (fun _ i _ => (intOf i).toNat)
  case atStart => exact ⟨⟨#[]⟩, x1, rfl, rfl, by simp [ByteArray.size]; omega, D1, T1⟩
  case round =>
    obtain ⟨t, j, rfl, rfl, hsz, hd, ht⟩ := hrel
    clear D1 T1
    by_cases hlt : 0 < j
    · have hlt' : 0 < (j : Int) := by omega
      go_wp2_with (go_at_call 28; refine (below_can (hc.draws hd) 8 (by decide) (by decide)).mono ?_; rintro e w2 ⟨x2, rfl, hx2, d2⟩; have D2 := hd.trans d2; have T2 := ht.draws d2 (by omega); clear d2 hd ht; have hw2 := D2.grown.size; have hx2' : x2 = 0 ∨ x2 = 1 ∨ x2 = 2 ∨ x2 = 3 ∨ x2 = 4 ∨ x2 = 5 ∨ x2 = 6 ∨ x2 = 7 := (by omega); clear hx2; have hcat0 : ¬ 9223372036854775807 < t.size + 1 := (by omega); rcases hx2' with rfl | rfl | rfl | rfl | rfl | rfl | rfl | rfl)
      · go_wp2_with (go_at_call 28; refine (below_can (hc.draws (D2.alloc hc hcw _)) 7 (by decide) (by decide)).mono ?_; rintro e w3 ⟨x3, rfl, hx3, d3⟩; have D3 := (D2.alloc hc hcw _).trans d3; obtain ⟨y, hy, hcy⟩ := tab_drawn d3 (by kernel_rfl) (by omega) x3 hx3; have T3 := (T2.alloc _).draws d3 (by omega); clear d3 D2 T2; have hx3' : (x3 : Int) < 7 := (by omega); have hcat : ¬ 9223372036854775807 < t.size + y.size := (by omega))
        go_roundw
        case rel => exact ⟨t ++ y, j - 1, rfl, by go_num, by rw [size_app]; omega, D3, T3⟩
        case measure => simp [intOf]; omega
      · go_wp2_with (go_at_call 28; refine (below_can (hc.draws (D2.alloc hc hcw _)) 7 (by decide) (by decide)).mono ?_; rintro e w3 ⟨x3, rfl, hx3, d3⟩; have D3 := (D2.alloc hc hcw _).trans d3; obtain ⟨y, hy, hcy⟩ := tab_drawn d3 (by kernel_rfl) (by omega) x3 hx3; have T3 := (T2.alloc _).draws d3 (by omega); clear d3 D2 T2; have hx3' : (x3 : Int) < 7 := (by omega); have hcat : ¬ 9223372036854775807 < t.size + y.size := (by omega))
        go_roundw
        case rel => exact ⟨t ++ y, j - 1, rfl, by go_num, by rw [size_app]; omega, D3, T3⟩
        case measure => simp [intOf]; omega
      · go_wp2_with (first
          | (go_at_call 28; refine (below_can (hc.draws D2) 100000 (by decide) (by decide)).mono ?_; rintro e w3 ⟨x3, rfl, hx3, d3⟩; have D3 := D2.trans d3; have T3 := T2.draws d3 (by omega); clear d3 D2 T2)
          | (go_at_call 48; refine (int_any x3 hx3 _).mono ?_; rintro e w4 ⟨y, rfl, hy, b4⟩; have D4 := D3.below hc hcw b4; have T4 := T3.below b4; clear D3 T3 b4; have hcat : ¬ 9223372036854775807 < t.size + y.size := (by omega)))
        go_roundw
        case rel => exact ⟨t ++ y, j - 1, rfl, by go_num, by rw [size_app]; omega, D4, T4⟩
        case measure => simp [intOf]; omega
      · go_wp2_with (go_at_call 28; refine (below_can (hc.draws (D2.alloc hc hcw _)) 5 (by decide) (by decide)).mono ?_; rintro e w3 ⟨x3, rfl, hx3, d3⟩; have D3 := (D2.alloc hc hcw _).trans d3; obtain ⟨y, hy, hcy⟩ := tab_drawn d3 (by kernel_rfl) (by omega) x3 hx3; have T3 := (T2.alloc _).draws d3 (by omega); clear d3 D2 T2; have hx3' : (x3 : Int) < 5 := (by omega); have hcat : ¬ 9223372036854775807 < t.size + y.size := (by omega))
        go_roundw
        case rel => exact ⟨t ++ y, j - 1, rfl, by go_num, by rw [size_app]; omega, D3, T3⟩
        case measure => simp [intOf]; omega
      · go_wp2_with (go_at_call 28; refine (below_can (hc.draws D2) 29 (by decide) (by decide)).mono ?_; rintro e w3 ⟨x3, rfl, hx3, d3⟩; have D3 := D2.trans d3; have T3 := T2.draws d3 (by omega); obtain ⟨y, hy, hcy⟩ := T3 x3 hx3; clear d3 D2 T2; have hx3' : (x3 : Int) < 29 := (by omega); have hcat : ¬ 9223372036854775807 < t.size + y.size := (by omega))
        go_roundw
        case rel => exact ⟨t ++ y, j - 1, rfl, by go_num, by rw [size_app]; omega, D3, T3⟩
        case measure => simp [intOf]; omega
      · go_wp2_with (go_at_call 28; refine (below_can (hc.draws D2) 29 (by decide) (by decide)).mono ?_; rintro e w3 ⟨x3, rfl, hx3, d3⟩; have D3 := D2.trans d3; have T3 := T2.draws d3 (by omega); obtain ⟨y, hy, hcy⟩ := T3 x3 hx3; clear d3 D2 T2; have hx3' : (x3 : Int) < 29 := (by omega); have hcat : ¬ 9223372036854775807 < t.size + y.size := (by omega))
        go_roundw
        case rel => exact ⟨t ++ y, j - 1, rfl, by go_num, by rw [size_app]; omega, D3, T3⟩
        case measure => simp [intOf]; omega
      · go_wp2_with (go_at_call 28; refine (below_can (hc.draws (D2.alloc hc hcw _)) 5 (by decide) (by decide)).mono ?_; rintro e w3 ⟨x3, rfl, hx3, d3⟩; have D3 := (D2.alloc hc hcw _).trans d3; obtain ⟨y, hy, hcy⟩ := tab_drawn d3 (by kernel_rfl) (by omega) x3 hx3; have T3 := (T2.alloc _).draws d3 (by omega); clear d3 D2 T2; have hx3' : (x3 : Int) < 5 := (by omega); have hcat : ¬ 9223372036854775807 < t.size + y.size := (by omega))
        go_roundw
        case rel => exact ⟨t ++ y, j - 1, rfl, by go_num, by rw [size_app]; omega, D3, T3⟩
        case measure => simp [intOf]; omega
      · go_roundw
        case rel => exact ⟨t ++ ⟨#[32]⟩, j - 1, rfl, by go_num, by rw [size_app, size_one]; omega, D2, T2⟩
        case measure => simp [intOf]; omega
    · obtain rfl : j = 0 := by omega
      go_wp2_with (go_at_call 27; refine (once_can (hc.draws hd) 6 (by decide) (by decide)).mono ?_; rintro e w2 ⟨b2, rfl, d2⟩; have D2 := hd.trans d2; clear d2 hd ht; have hw2 := D2.grown.size; cases b2)
      · have hcat1 : ¬ 9223372036854775807 < t.size + 1 := by omega
        go_wp2_with (first
          | (go_at_call 27; refine (once_can (hc.draws D2) 40 (by decide) (by decide)).mono ?_; rintro e w5 ⟨b5, rfl, d5⟩; have D5 := D2.trans d5; clear d5 D2; cases b5)
          | (go_at_call 28; refine (below_can (hc.draws D5) 3 (by decide) (by decide)).mono ?_; rintro e w6 ⟨x6, rfl, hx6, d6⟩; have D6 := D5.trans d6; clear d6 D5))
        · go_ret
          exact ⟨t, rfl, by omega, D5⟩
        · go_loop [4, 6] (fun s i => ∃ (q : ByteArray) (j : Nat), s = .string q ∧ i = .int .i64 (j : Int) ∧ q.size + j ≤ 1500) (fun _ i => (intOf i).toNat)
          case atStart => exact ⟨t ++ ⟨#[32]⟩, x6 + 59, rfl, by go_num, by rw [size_app, size_one]; omega⟩
          case round =>
            obtain ⟨q, j, rfl, rfl, hq⟩ := hrel
            have hcq : ¬ 9223372036854775807 < q.size + 1 := by omega
            by_cases hj : 0 < j
            · have hj' : 0 < (j : Int) := by omega
              go_wp2
              go_round
              case rel => exact ⟨q ++ ⟨#[119]⟩, j - 1, rfl, by go_num, by rw [size_app, size_one]; omega⟩
              case measure => simp [intOf]; omega
            · obtain rfl : j = 0 := by omega
              go_wp2
              go_ret
              exact ⟨q, rfl, by omega, D6⟩
      · go_wp2_with (go_at_call 28; refine (below_can (hc.draws (D2.alloc hc hcw _)) 8 (by decide) (by decide)).mono ?_; rintro e w3 ⟨x3, rfl, hx3, d3⟩; have D3 := (D2.alloc hc hcw _).trans d3; obtain ⟨y, hy, hcy⟩ := tab_drawn d3 (by kernel_rfl) (by omega) x3 hx3; clear d3 D2; have hx3' : (x3 : Int) < 8 := (by omega); have hcat : ¬ 9223372036854775807 < t.size + y.size := (by omega))
        have hcat1 : ¬ 9223372036854775807 < t.size + y.size + 1 := by omega
        go_wp2_with (first
          | (go_at_call 27; refine (once_can (hc.draws D3) 40 (by decide) (by decide)).mono ?_; rintro e w5 ⟨b5, rfl, d5⟩; have D5 := D3.trans d5; clear d5 D3; cases b5)
          | (go_at_call 28; refine (below_can (hc.draws D5) 3 (by decide) (by decide)).mono ?_; rintro e w6 ⟨x6, rfl, hx6, d6⟩; have D6 := D5.trans d6; clear d6 D5))
        · go_ret
          exact ⟨(t ++ y), rfl, by rw [size_app]; omega, D5⟩
        · go_loop [4, 6] (fun s i => ∃ (q : ByteArray) (j : Nat), s = .string q ∧ i = .int .i64 (j : Int) ∧ q.size + j ≤ 1500) (fun _ i => (intOf i).toNat)
          case atStart => exact ⟨(t ++ y) ++ ⟨#[32]⟩, x6 + 59, rfl, by go_num, by rw [size_app, size_one, size_app]; omega⟩
          case round =>
            obtain ⟨q, j, rfl, rfl, hq⟩ := hrel
            have hcq : ¬ 9223372036854775807 < q.size + 1 := by omega
            by_cases hj : 0 < j
            · have hj' : 0 < (j : Int) := by omega
              go_wp2
              go_round
              case rel => exact ⟨q ++ ⟨#[119]⟩, j - 1, rfl, by go_num, by rw [size_app, size_one]; omega⟩
              case measure => simp [intOf]; omega
            · obtain rfl : j = 0 := by omega
              go_wp2
              go_ret
              exact ⟨q, rfl, by omega, D6⟩

end Go.Proofs.YtbnmefponeomiaaDoor.dr
