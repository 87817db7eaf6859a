import Derived.Test.YtecpebpdillhlaaDoorWY
import Derived.Deep.RegionHeld3
namespace Go.Proofs.YtecpebpdillhlaaDoor.dr
open Go.ChangeShapes Go.WideShapes Go.ChangeAt Go.RowKit Go.Deep
set_option linter.unusedVariables false
set_option linter.unusedSimpArgs false

theorem can_below {w wr w' : World} {c : Nat} {a : Option Addr} {n cap : Nat} (h : Can wr c a n cap) (hb : Below wr.heap.size wr w') (hc : c < wr.heap.size) : Can w' c a n cap := h.below (hb.mono (by omega))

/-- Between two draws: the cursor c, the row g behind it. -/
structure Sr (w W : World) (a : Option Addr) (n cp : Nat) (g k cap : Nat) : Prop where
  can : Can W w.heap.size a n cp
  row : CRow W g k cap
  ne : w.heap.size < g
  bel : Below w.heap.size w W
  sz : w.heap.size < W.heap.size

theorem Sr.draws {w W W' : World} {a : Option Addr} {n cp g k cap : Nat} (h : Sr w W a n cp g k cap) (d : Draws W W' w.heap.size a n cp) : Sr w W' a n cp g k cap :=
  ⟨h.can.draws d, h.row.draws d (by have := h.ne; omega), h.ne, h.bel.trans (below_of_grown d.grown (Nat.le_refl _) (by have := h.sz; omega)), by have := h.sz; have := d.grown.size; omega⟩

theorem Sr.set {w W : World} {a : Option Addr} {n cp g k cap i : Nat} (h : Sr w W a n cp g k cap) (hi : i < k) {x : Nat} (hx : x < 256) : Sr w (W.setCell ⟨g, i, none⟩ (.int .u8 (x : Int))) a n cp g k cap :=
  ⟨h.can.below ((Below.refl _ W).setCell (p := ⟨g, i, none⟩) (by have := h.ne; show _ ≤ g; omega) _), h.row.set hi hx, h.ne, h.bel.setCell (p := ⟨g, i, none⟩) (by have := h.ne; show _ ≤ g; omega) _, by simpa using h.sz⟩

theorem Sr.set122 {w W : World} {a : Option Addr} {n cp g k cap : Nat} (h : Sr w W a n cp g k cap) (hi : 0 < k) : Sr w (W.setCell ⟨g, 0, none⟩ (.int .u8 122)) a n cp g k cap := h.set (i := 0) hi (x := 122) (by omega)

theorem Sr.app {w W W2 : World} {a : Option Addr} {n cp g k cap g' cap' : Nat} (h : Sr w W a n cp g k cap) (hr : CRow W2 g' (k + 1) cap') (hg : g' = g ∨ W.heap.size ≤ g') (hb : ∀ B, B ≤ g → Below B W W2) : Sr w W2 a n cp g' (k + 1) cap' := by
  have h1 := h.ne
  have h2 := h.sz
  have b1 := hb (w.heap.size + 1) (by omega)
  exact ⟨h.can.below b1, hr, by omega, h.bel.trans (hb w.heap.size (by omega)), by have := b1.size; omega⟩

theorem sr_start {w : World} {a : Option Addr} {n cp : Nat} {w1 w2 W1 : World} {cap : Nat} {S : ByteArray} {h : Int} (hb : CodeB w a n) (hn : n ≤ 1048576) (hlt : ∀ x, a = some x → 0 < n → x.block < w.heap.size)
    (d1 : Draws (w.alloc (.cells #[.slice a n cp, .int .i64 0, .int .i64 h] 52)) w1 w.heap.size a n cp) (b2 : Below w1.heap.size w1 w2) (hC : ConvRow w2 W1 cap S) : Sr w W1 a n cp w2.heap.size S.size cap := by
  have C1 := (new_can (cap := cp) hb hn hlt h).draws d1
  have s1 := d1.grown.size
  rw [World.size_alloc] at s1
  have s2 := b2.size
  have s3 := hC.below.size
  have bb : Below w1.heap.size w1 W1 := b2.trans (hC.below.mono s2)
  exact ⟨C1.below (bb.mono (by omega)), crow_conv hC, by omega, (((Below.refl _ w).alloc (Nat.le_refl _) _).trans (below_of_grown d1.grown (Nat.le_refl _) (by simp))).trans (bb.mono (by omega)), by omega⟩

set_option maxHeartbeats 2000000 in
theorem drawRead (a : Option Addr) (n cap : Nat) (w : World) (hb : CodeB w a n) (hn : n ≤ 1048576) (hlt : ∀ x, a = some x → 0 < n → x.block < w.heap.size) :
    Calls Tryd.prog 10 #[.slice a n cap] w fun e w' => ∃ s : ByteArray, e = .returned (.string s) ∧ s.size ≤ 100 ∧ Below w.heap.size w w' := by
  go_enter Tryd.func10, Tryd.ntmps10
  go_wp2_with (go_at_call 18; refine (new_any a n cap w hb hn).mono ?_; rintro e w0 ⟨rfl, h0, rfl⟩; have C0 := new_can (cap := cap) hb hn hlt h0)
  go_wp2_with (go_at_call 19; refine (u64_can C0 (by simp)).mono ?_; rintro e w1 ⟨X, rfl, hX, d1⟩)
  go_wp2_with (go_at_call 22; refine (wd.spec_any X hX _).mono ?_; rintro e w2 ⟨rfl, b2⟩; have hcv := conv_row (P := Tryd.prog) w2 9 22 5 (wd.wordA X) (by rw [wd.wordA_size]; omega) Tryd.underlying9 Tryd.underlying22 Tryd.underlying5; obtain ⟨z, cv, W1, hconv, hz, hC⟩ := hcv; have S0 := sr_start hb hn hlt d1 b2 hC; rw [wd.wordA_size] at hz S0; subst hz; clear hX d1 C0)
  go_wp2_with (go_at_call 23; refine (once_can S0.can 4 (by decide) (by decide)).mono ?_; rintro e w3 ⟨b3, rfl, d3⟩; have S1 := S0.draws d3; clear hconv hC d3 S0; cases b3)
  · go_wp2_with (first
      | (go_at_call 23; refine (once_can S1.can 10 (by decide) (by decide)).mono ?_; rintro e w6 ⟨b6, rfl, d6⟩; have S6 := S1.draws d6; clear d6 S1; obtain ⟨g7, c7, w7, hr7, hq7, hg7, hb7⟩ := crow_app S6.row (by omega) 48 (by omega); have H7 := S6.app hq7 hg7 hb7; have HR : Hid (∀ ty, (Builtin.append_ #[22, 22] ty #[.slice (some ⟨w2.heap.size, 0, none⟩) 13 cv, .slice (some ⟨w6.heap.size, 0, none⟩) 1 1]).run Tryd.prog (w6.alloc (.cells #[.int .u8 48] 5)) = .ok (.slice (some ⟨g7, 0, none⟩) (13 + 1) c7) w7) := hr7; clear hr7 hq7 hg7 hb7; cases b6)
      | (at_builtin; refine app_any _ rfl _ _ 22 rfl _ _ rfl rfl _ _ HR.out ?_; have S7 := H7; clear HR S6)
      | (go_at_call 23; refine (once_can S7.can 10 (by decide) (by decide)).mono ?_; rintro e w8 ⟨b8, rfl, d8⟩; have S8 := S7.draws d8; clear d8 S7; obtain ⟨s9, hs9, hr9⟩ := crow_string S8.row; obtain ⟨y8, hc8, hf8⟩ := crow_cell S8.row 0 (by omega); have S9 := S8.set122 (by omega); obtain ⟨s10, hs10, hr10⟩ := crow_string S9.row; have B8 := S8.bel; have B9 := S9.bel; clear S8 S9; cases b8)
      | (go_at_call 23; refine (once_can S6.can 10 (by decide) (by decide)).mono ?_; rintro e w8 ⟨b8, rfl, d8⟩; have S8 := S6.draws d8; clear d8 S6; obtain ⟨s9, hs9, hr9⟩ := crow_string S8.row; obtain ⟨y8, hc8, hf8⟩ := crow_cell S8.row 0 (by omega); have S9 := S8.set122 (by omega); obtain ⟨s10, hs10, hr10⟩ := crow_string S9.row; have B8 := S8.bel; have B9 := S9.bel; clear S8 S9; cases b8))
    all_goals first
      | (go_ret; exact ⟨s9, rfl, by omega, B8⟩)
      | (go_ret; exact ⟨s10, rfl, by omega, B9⟩)
  · go_wp2_with (go_at_call 24; refine (below_can S1.can 128 (by decide) (by decide)).mono ?_; rintro e w4 ⟨x4, rfl, hx4, d4⟩; have S2 := S1.draws d4; clear d4 S1)
    go_wp2_with (go_at_call 24; refine (below_can S2.can 13 (by decide) (by decide)).mono ?_; rintro e w5 ⟨x5, rfl, hx5, d5⟩; have S3 := S2.draws d5; clear d5 S2; obtain ⟨y5, hc5, hf5⟩ := crow_cell S3.row x5 hx5; have hx5' : (x5 : Int) < 13 := (by omega); have hx4' : (x4 : Int) < 128 := (by omega); have S4 := S3.set (i := x5) hx5 (x := x4) (by omega); clear S3)
    go_wp2_with (first
      | (go_at_call 23; refine (once_can S4.can 10 (by decide) (by decide)).mono ?_; rintro e w6 ⟨b6, rfl, d6⟩; have S6 := S4.draws d6; clear d6 S4; obtain ⟨g7, c7, w7, hr7, hq7, hg7, hb7⟩ := crow_app S6.row (by omega) 48 (by omega); have H7 := S6.app hq7 hg7 hb7; have HR : Hid (∀ ty, (Builtin.append_ #[22, 22] ty #[.slice (some ⟨w2.heap.size, 0, none⟩) 13 cv, .slice (some ⟨w6.heap.size, 0, none⟩) 1 1]).run Tryd.prog (w6.alloc (.cells #[.int .u8 48] 5)) = .ok (.slice (some ⟨g7, 0, none⟩) (13 + 1) c7) w7) := hr7; clear hr7 hq7 hg7 hb7; cases b6)
      | (at_builtin; refine app_any _ rfl _ _ 22 rfl _ _ rfl rfl _ _ HR.out ?_; have S7 := H7; clear HR S6)
      | (go_at_call 23; refine (once_can S7.can 10 (by decide) (by decide)).mono ?_; rintro e w8 ⟨b8, rfl, d8⟩; have S8 := S7.draws d8; clear d8 S7; obtain ⟨s9, hs9, hr9⟩ := crow_string S8.row; obtain ⟨y8, hc8, hf8⟩ := crow_cell S8.row 0 (by omega); have S9 := S8.set122 (by omega); obtain ⟨s10, hs10, hr10⟩ := crow_string S9.row; have B8 := S8.bel; have B9 := S9.bel; clear S8 S9; cases b8)
      | (go_at_call 23; refine (once_can S6.can 10 (by decide) (by decide)).mono ?_; rintro e w8 ⟨b8, rfl, d8⟩; have S8 := S6.draws d8; clear d8 S6; obtain ⟨s9, hs9, hr9⟩ := crow_string S8.row; obtain ⟨y8, hc8, hf8⟩ := crow_cell S8.row 0 (by omega); have S9 := S8.set122 (by omega); obtain ⟨s10, hs10, hr10⟩ := crow_string S9.row; have B8 := S8.bel; have B9 := S9.bel; clear S8 S9; cases b8))
    all_goals first
      | (go_ret; exact ⟨s9, rfl, by omega, B8⟩)
      | (go_ret; exact ⟨s10, rfl, by omega, B9⟩)

end Go.Proofs.YtecpebpdillhlaaDoor.dr
