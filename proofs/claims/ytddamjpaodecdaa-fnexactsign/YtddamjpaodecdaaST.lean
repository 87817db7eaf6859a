import Derived.Test.YtddamjpaodecdaaSS
import Derived.Test.YtddamjpaodecdaaSL
namespace Go.Proofs.Ytddamjpaodecdaa.sg
open Go.ChangeShapes Go.WideShapes Go.ChangeAt Go.RowKit Go.Deep
set_option linter.unusedVariables false

theorem toB_any (a : Option Addr) (n cap : Nat) (l : List Int) (w : World) (hb : sm.Bs w a n l) (hn : n ≤ 1099511627776) :
    Calls Try.prog 17 #[.slice a n cap] w fun e w' => e = .returned (.slice (some ⟨w.heap.size, 0, none⟩) n n) ∧ sm.Bs w' (some ⟨w.heap.size, 0, none⟩) n l ∧ Below w.heap.size w w' :=
  (sm.to_any a n cap l w hb hn).mono fun e w' ⟨h1, h2, h3⟩ => ⟨h1, sm.Bs.row h2, h3⟩

theorem eqB_any (a a' : Option Addr) (n cap cap' : Nat) (l : List Int) (w : World) (hb : sm.Bs w a n l) (hb' : sm.Bs w a' n l) (hn : n ≤ 1099511627776) :
    Calls Try.prog 19 #[.slice a n cap, .slice a' n cap'] w fun e w' => e = .returned (.bool true) ∧ Below w.heap.size w w' :=
  (sm.eq_any a a' n cap cap' l w hb hb' hn).mono fun e w' ⟨h1, q, h2⟩ => ⟨h1, by rw [h2]; exact Go.below_drewN (Below.refl _ _) _⟩

theorem check_law (N E s : Nat) (hN : N < 18446744073709551616) (hE : E < 18446744073709551616) (hs : s < 18446744073709551616) (a : Option Addr) (n cap : Nat) (l : List Int) (w : World) (hb : sm.Bs w a n l) :
    Calls Try.prog 7 #[.int .u64 (N : Int), .int .u64 (E : Int), .slice a n cap, .int .u64 (s : Int)] w fun e w' => e = .returned (.bool true) ∧ Below w.heap.size w w' := by
  by_cases hf : 1048576 < n
  · have hf' : (1048576 : Int) < (n : Int) := by omega
    clear hN hE hs
    go_enter Try.func7, Try.ntmps7
    go_wp2
    go_ret
    exact ⟨rfl, Below.refl _ _⟩
  have hf' : ¬ (1048576 : Int) < (n : Int) := by omega
  have hn : n ≤ 1099511627776 := by omega
  have HT : Hid (∀ W, Below w.heap.size w W → Calls Try.prog 17 #[.slice a n cap] W fun e w' => e = .returned (.slice (some ⟨W.heap.size, 0, none⟩) n n) ∧ sm.Bs w' (some ⟨W.heap.size, 0, none⟩) n l ∧ Below W.heap.size W w') := fun W h => toB_any a n cap l W (hb.below h) hn
  obtain ⟨c, hc⟩ : ∃ c, c = chB N E (SV l n) s := ⟨_, rfl⟩
  have HS : Hid (∀ W u cu, sm.Bs W u n l → Calls Try.prog 20 #[.int .u64 (N : Int), .int .u64 (E : Int), .slice u n cu, .int .u64 (s : Int)] W fun e w' => e = .returned (.bool c) ∧ Below W.heap.size W w') := fun W u cu h => by rw [hc]; exact scheck_any N E s hN hE hs u n cu l W h hn
  have HI : Hid (∀ W u cu, sm.Bs W u n l → Calls Try.prog 21 #[.int .u64 (N : Int), .int .u64 (E : Int), .slice u n cu, .int .u64 (s : Int)] W fun e w' => e = .returned (.bool c) ∧ Below W.heap.size W w') := fun W u cu h => by rw [hc]; exact icheck_any N E s hN hE hs u n cu l W h hn
  have HQ : Hid (∀ W u u' cu cu', sm.Bs W u n l → sm.Bs W u' n l → Calls Try.prog 19 #[.slice u n cu, .slice u' n cu'] W fun e w' => e = .returned (.bool true) ∧ Below W.heap.size W w') := fun W u u' cu cu' h h' => eqB_any u u' n cu cu' l W h h' hn
  clear hc hN hE hs hb hn hf
  go_enter Try.func7, Try.ntmps7
  go_wp2_with (first | (go_at_call 17; refine (HT.out _ (Below.refl _ _)).mono ?_; rintro e w1 ⟨rfl, h1, B1⟩; refine Hid.out ?_) | go_in)
  refine Lib.hid ?_
  have H1 : Hid (sm.Bs w1 (some ⟨w.heap.size, 0, none⟩) n l) := h1
  clear h1
  go_wp2_with (first | (go_at_call 20; refine (HS.out _ _ _ H1.out).mono ?_; rintro e w2 ⟨rfl, hl2⟩; refine Hid.out ?_) | go_in)
  refine Lib.hid ?_
  have B2 := B1.trans (hl2.mono B1.size)
  clear hl2
  go_wp2_with (first | (go_at_call 17; refine (HT.out _ B2).mono ?_; rintro e w3 ⟨rfl, h3, hl3⟩; refine Hid.out ?_) | go_in)
  refine Lib.hid ?_
  have H3 : Hid (sm.Bs w3 (some ⟨w2.heap.size, 0, none⟩) n l) := h3
  have B3 := B2.trans (hl3.mono B2.size)
  clear h3 hl3
  go_wp2_with (first | (go_at_call 21; refine (HI.out _ _ _ H3.out).mono ?_; rintro e w4 ⟨rfl, hl4⟩; refine Hid.out ?_) | go_in)
  refine Lib.hid ?_
  have B4 := B3.trans (hl4.mono B3.size)
  have H4 : Hid (sm.Bs w4 (some ⟨w2.heap.size, 0, none⟩) n l) := H3.out.below hl4
  clear hl4
  go_wp2_with (first | (go_at_call 17; refine (HT.out _ B4).mono ?_; rintro e w5 ⟨rfl, h5, hl5⟩; refine Hid.out ?_) | go_in)
  refine Lib.hid ?_
  have B5 := B4.trans (hl5.mono B4.size)
  have H5 : Hid (sm.Bs w5 (some ⟨w2.heap.size, 0, none⟩) n l) := H4.out.below hl5
  have H6 : Hid (sm.Bs w5 (some ⟨w4.heap.size, 0, none⟩) n l) := h5
  clear hl5 h5
  go_wp2_with (first | (go_at_call 19; refine (HQ.out _ _ _ _ _ H5.out H6.out).mono ?_; rintro e w6 ⟨rfl, hl6⟩) | go_in)
  go_ret
  exact ⟨rfl, B5.trans (hl6.mono B5.size)⟩

theorem ret_cell3 {fn : Func} {i : Tmp} (hf : fn.results = #[.cell i 25]) {tmps : Array Value} {W : World} {b : Nat} {v0 v1 v2 : Value} {R : Ending → World → Prop} (h4 : tmps.getD i undef = .pointer (some ⟨b, 0, none⟩))
    (k : W.cell? ⟨b, 0, none⟩ = some v0 ∧ W.cell? ⟨b, 1, none⟩ = some v1 ∧ W.cell? ⟨b, 2, none⟩ = some v2) (hR : R (.returned (.agg #[v0, v1, v2])) W) :
    bodyPost Try.prog fn R Exit.ret { tmps := tmps, defers := [] } W := by
  obtain ⟨k0, k1, k2⟩ := k
  have h4' : tmps[i]?.getD undef = .pointer (some ⟨b, 0, none⟩) := by simpa using h4
  exact bodyPost_ret (v := .agg #[v0, v1, v2]) (by simp [results, hf, go_sem, h4', k0, k1, k2]) rfl hR

theorem mid3 (w : World) (o o' : Obj) (a b c : Value) (t : TypeId) : (((w.alloc o).alloc (.cells #[a, b, c] t)).alloc o').cell? ⟨w.heap.size + 1, 0, none⟩ = some a ∧ (((w.alloc o).alloc (.cells #[a, b, c] t)).alloc o').cell? ⟨w.heap.size + 1, 1, none⟩ = some b ∧ (((w.alloc o).alloc (.cells #[a, b, c] t)).alloc o').cell? ⟨w.heap.size + 1, 2, none⟩ = some c := by
  obtain ⟨W, hW⟩ : ∃ W : World, W = (w.alloc o).alloc (.cells #[a, b, c] t) := ⟨_, rfl⟩
  have hB : Below W.heap.size W (W.alloc o') := (Below.refl _ _).alloc (Nat.le_refl _) _
  have hl : w.heap.size + 1 < W.heap.size := by rw [hW]; simp
  rw [← hW]
  refine ⟨((bcell hB).1 _ 0 hl).trans ?_, ((bcell hB).1 _ 1 hl).trans ?_, ((bcell hB).1 _ 2 hl).trans ?_⟩
  all_goals
    rw [hW, show w.heap.size + 1 = (w.alloc o).heap.size by simp]
    simp only [World.cell?_alloc_new]
    rfl

theorem toKey_any (x y z : Nat) (w : World) :
    Calls Try.prog 16 #[.agg #[.int .u64 (x : Int), .int .u64 (y : Int), .int .u64 (z : Int)]] w fun e w' => e = .returned (.agg #[.int .u64 (x : Int), .int .u64 (y : Int), .int .u64 (z : Int)]) ∧ Below w.heap.size w w' := by
  go_enter Try.func16, Try.ntmps16
  go_wp2
  exact ret_cell3 Try.results16 (b := w.heap.size + 1) rfl (mid3 _ _ _ _ _ _ _) ⟨rfl, (((Below.refl _ _).alloc (Nat.le_refl _) _).alloc (by simp) _).alloc (by simp; omega) _⟩

theorem sign_law (N E D : Nat) (hN : N < 18446744073709551616) (hD : D < 18446744073709551616) (a : Option Addr) (n cap : Nat) (l : List Int) (w : World) (hb : sm.Bs w a n l) :
    Calls Try.prog 6 #[.agg #[.int .u64 (N : Int), .int .u64 (E : Int), .int .u64 (D : Int)], .slice a n cap] w fun e w' => e = .returned (.bool true) ∧ Below w.heap.size w w' := by
  have BW : ∀ o, Below w.heap.size w (w.alloc o) := fun o => (Below.refl _ _).alloc (Nat.le_refl _) _
  by_cases hf : 1048576 < n
  · have hf' : (1048576 : Int) < (n : Int) := by omega
    clear hN hD
    go_enter Try.func6, Try.ntmps6
    go_wp2
    go_ret
    exact ⟨rfl, BW _⟩
  have hf' : ¬ (1048576 : Int) < (n : Int) := by omega
  have hn : n ≤ 1099511627776 := by omega
  have HT : Hid (∀ W, Below w.heap.size w W → Calls Try.prog 17 #[.slice a n cap] W fun e w' => e = .returned (.slice (some ⟨W.heap.size, 0, none⟩) n n) ∧ sm.Bs w' (some ⟨W.heap.size, 0, none⟩) n l ∧ Below W.heap.size W w') := fun W h => toB_any a n cap l W (hb.below h) hn
  obtain ⟨c, hc⟩ : ∃ c, c = sgV N D (SV l n) := ⟨_, rfl⟩
  have HS : Hid (∀ W u cu, sm.Bs W u n l → Calls Try.prog 15 #[.agg #[.int .u64 (N : Int), .int .u64 (E : Int), .int .u64 (D : Int)], .slice u n cu] W fun e w' => e = .returned (.int .u64 (c : Int)) ∧ Below W.heap.size W w') := fun W u cu h => by rw [hc]; exact ssign_any N E D hN hD u n cu l W h hn
  have HI : Hid (∀ W u cu, sm.Bs W u n l → Calls Try.prog 18 #[.agg #[.int .u64 (N : Int), .int .u64 (E : Int), .int .u64 (D : Int)], .slice u n cu] W fun e w' => e = .returned (.int .u64 (c : Int)) ∧ Below W.heap.size W w') := fun W u cu h => by rw [hc]; exact isign_any N E D hN hD u n cu l W h hn
  have HQ : Hid (∀ W u u' cu cu', sm.Bs W u n l → sm.Bs W u' n l → Calls Try.prog 19 #[.slice u n cu, .slice u' n cu'] W fun e w' => e = .returned (.bool true) ∧ Below W.heap.size W w') := fun W u u' cu cu' h h' => eqB_any u u' n cu cu' l W h h' hn
  have HK : Hid (∀ W, Calls Try.prog 16 #[.agg #[.int .u64 (N : Int), .int .u64 (E : Int), .int .u64 (D : Int)]] W fun e w' => e = .returned (.agg #[.int .u64 (N : Int), .int .u64 (E : Int), .int .u64 (D : Int)]) ∧ Below W.heap.size W w') := fun W => toKey_any N E D W
  obtain ⟨o, ho⟩ : ∃ o : Obj, o = .cells #[.int .u64 (N : Int), .int .u64 (E : Int), .int .u64 (D : Int)] 31 := ⟨_, rfl⟩
  have HC : Hid (∀ W, Below (w.alloc o).heap.size (w.alloc o) W → W.cell? ⟨w.heap.size, 0, none⟩ = some (.int .u64 (N : Int)) ∧ W.cell? ⟨w.heap.size, 1, none⟩ = some (.int .u64 (E : Int)) ∧ W.cell? ⟨w.heap.size, 2, none⟩ = some (.int .u64 (D : Int))) := fun W h => by
    subst ho
    exact ⟨((bcell h).1 w.heap.size 0 (by simp)).trans (by simp), ((bcell h).1 w.heap.size 1 (by simp)).trans (by simp), ((bcell h).1 w.heap.size 2 (by simp)).trans (by simp)⟩
  have HW : Hid (∀ W, Below (w.alloc o).heap.size (w.alloc o) W → Below w.heap.size w W) := fun W h => (BW o).trans (h.mono (BW o).size)
  clear hc hN hD hb hn hf BW
  go_enter Try.func6, Try.ntmps6
  go_wp2_with (first | (go_at_call 16; refine (HK.out _).mono ?_; rintro e w0 ⟨rfl, B0⟩; refine Hid.out ?_) | go_in)
  refine Lib.hid ?_
  rw [← ho] at B0
  go_wp2_with (first | (go_at_call 17; refine (HT.out _ (HW.out _ B0)).mono ?_; rintro e w1 ⟨rfl, h1, hl1⟩; refine Hid.out ?_) | go_in)
  refine Lib.hid ?_
  have H1 : Hid (sm.Bs w1 (some ⟨w0.heap.size, 0, none⟩) n l) := h1
  have B1 := B0.trans (hl1.mono B0.size)
  clear h1 hl1
  go_wp2_with (first | (go_at_call 15; refine (HS.out _ _ _ H1.out).mono ?_; rintro e w2 ⟨rfl, hl2⟩; refine Hid.out ?_) | go_in)
  refine Lib.hid ?_
  have B2 := B1.trans (hl2.mono B1.size)
  clear hl2
  go_wp2_with (first | (go_at_call 17; refine (HT.out _ (HW.out _ B2)).mono ?_; rintro e w3 ⟨rfl, h3, hl3⟩; refine Hid.out ?_) | go_in)
  refine Lib.hid ?_
  have H3 : Hid (sm.Bs w3 (some ⟨w2.heap.size, 0, none⟩) n l) := h3
  have B3 := B2.trans (hl3.mono B2.size)
  clear h3 hl3
  obtain ⟨k0, k1, k2⟩ := HC.out _ B3
  go_wp2_with (first | (go_at_call 16; refine (HK.out _).mono ?_; rintro e wk ⟨rfl, hlk⟩; refine Hid.out ?_) | go_in)
  refine Lib.hid ?_
  have Bk := B3.trans (hlk.mono B3.size)
  have Hk : Hid (sm.Bs wk (some ⟨w2.heap.size, 0, none⟩) n l) := H3.out.below hlk
  clear hlk k0 k1 k2
  go_wp2_with (first | (go_at_call 18; refine (HI.out _ _ _ Hk.out).mono ?_; rintro e w4 ⟨rfl, hl4⟩; refine Hid.out ?_) | go_in)
  refine Lib.hid ?_
  have B4 := Bk.trans (hl4.mono Bk.size)
  have H4 : Hid (sm.Bs w4 (some ⟨w2.heap.size, 0, none⟩) n l) := Hk.out.below hl4
  clear hl4
  go_wp2_with (first | (go_at_call 17; refine (HT.out _ (HW.out _ B4)).mono ?_; rintro e w5 ⟨rfl, h5, hl5⟩; refine Hid.out ?_) | go_in)
  refine Lib.hid ?_
  have B5 := B4.trans (hl5.mono B4.size)
  have H5 : Hid (sm.Bs w5 (some ⟨w2.heap.size, 0, none⟩) n l) := H4.out.below hl5
  have H6 : Hid (sm.Bs w5 (some ⟨w4.heap.size, 0, none⟩) n l) := h5
  clear hl5 h5
  go_wp2_with (first | (go_at_call 19; refine (HQ.out _ _ _ _ _ H5.out H6.out).mono ?_; rintro e w6 ⟨rfl, hl6⟩) | go_in)
  go_ret
  exact ⟨rfl, HW.out _ (B5.trans (hl6.mono B5.size))⟩

theorem cells22 : Try.prog.cellsOf 22 = 1 := by kernel_rfl
theorem cellsK : Try.prog.cellsOf 31 = 3 := by kernel_rfl

set_option maxRecDepth 100000 in
theorem key_cells {H : Type} {enc : TypeId × Value → H} {w : World} {base : Nat} {sp : Nat → Bool} {held : Bool} {fuel : Nat} {cs : List Value} {x : DataW H × List MemPlace}
    (h : DataW.trod enc Try.prog w base sp held fuel 31 cs = some x) : ∃ a b c : Nat, cs = [.int .u64 (a : Int), .int .u64 (b : Int), .int .u64 (c : Int)] ∧ a < 18446744073709551616 ∧ c < 18446744073709551616 := by
  obtain ⟨xs, n, _, rfl, hl, hlen, hf⟩ := DataW.trod_struct Try.underlying31 h
  rw [cellsK] at hl
  match xs, hlen, cs, hl with
  | [y0, y1, y2], _, [c0, c1, c2], _ =>
    have g0 := hf 0 _ rfl
    have g1 := hf 1 _ rfl
    have g2 := hf 2 _ rfl
    simp [cells22] at g0 g1 g2
    obtain ⟨z0, e0, _, hz0⟩ := DataW.trod_int Try.underlying22 g0
    obtain ⟨z1, e1, _, hz1⟩ := DataW.trod_int Try.underlying22 g1
    obtain ⟨z2, e2, _, hz2⟩ := DataW.trod_int Try.underlying22 g2
    simp at e0 e1 e2
    subst e0 e1 e2
    obtain ⟨a, rfl, ha⟩ := u64_nat hz0
    obtain ⟨b, rfl, hb⟩ := u64_nat hz1
    obtain ⟨c, rfl, hc⟩ := u64_nat hz2
    exact ⟨a, b, c, rfl, ha, hc⟩

end Go.Proofs.Ytddamjpaodecdaa.sg
