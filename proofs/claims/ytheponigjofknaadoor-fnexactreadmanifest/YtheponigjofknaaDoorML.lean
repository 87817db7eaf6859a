import Derived.Test.YtheponigjofknaaDoorMK
namespace Go.Proofs.YtheponigjofknaaDoor.mt
open Go.ChangeShapes Go.WideShapes Go.ChangeAt Go.RowKit Go.Deep
set_option linter.unusedVariables false
set_option linter.unusedSimpArgs false

/-! ### The law's helpers -/

/-- Texts, with less left. -/
theorem szL_any (a : Option Addr) (n cap : Nat) (l : List ByteArray) (L : Int) (h0 : 0 ≤ L) (h1 : L ≤ 1048576) (w : World) (hb : st.Ss w a n l) (hn : n ≤ maxLen) (hs : ∀ i, i < n → (st.atS l i).size ≤ maxLen) :
    Calls Tryd.prog 18 #[.slice a n cap, .int .i64 L] w fun e w' => ∃ r : Int, e = .returned (.int .i64 r) ∧ (0 ≤ r → r ≤ 1048576 ∧ n ≤ 1048576 ∧ ∀ i, i < n → (st.atS l i).size ≤ 1048576) ∧ w' = w := by
  unfold maxLen at hn hs
  by_cases hbig : L < (n : Int)
  · go_enter Tryd.func18, Tryd.ntmps18
    go_wp2
    go_ret
    exact ⟨-1, rfl, fun h => by omega, rfl⟩
  · go_enter Tryd.func18, Tryd.ntmps18
    go_wp2
    go_loop [1, 5] (fun x i => ∃ k : Nat, ∃ r : Int, k ≤ n ∧ i = .int .i64 k ∧ x = .int .i64 r ∧ 0 ≤ r ∧ r ≤ 1048576 ∧ ∀ i, i < k → (st.atS l i).size ≤ 1048576) (fun _ i => n - (intOf i).toNat)
    case atStart => exact ⟨0, _, Nat.zero_le _, rfl, rfl, by omega, by omega, fun i hi => by omega⟩
    case round =>
      obtain ⟨k, r, hk, rfl, rfl, h0, h1, hall⟩ := hrel
      have HA : Hid (∀ i, i < k → (st.atS l i).size ≤ 1048576) := hall
      clear hall
      by_cases hlt : k < n
      · rcases hb with rfl | ⟨b, off, rfl, hc⟩
        · omega
        have hck := hc k hlt
        have hsk := hs k hlt
        by_cases hr : r - ((st.atS l k).size : Int) < 0
        · go_wp2
          go_ret
          exact ⟨-1, rfl, fun h => by omega, rfl⟩
        · go_wp2
          go_round
          case rel => exact ⟨k + 1, r - ((st.atS l k).size : Int), by omega, by go_num, by go_num, by omega, by omega, fun i hi => by
            rcases Nat.lt_or_ge i k with h | h
            · exact HA.out i h
            · obtain rfl : i = k := by omega
              omega⟩
          case measure => simp [intOf]; omega
      · obtain rfl : k = n := by omega
        go_wp2
        go_ret
        exact ⟨r, rfl, fun _ => ⟨by omega, by omega, HA.out⟩, rfl⟩


/-- What is left is not below 0 only where all is small. -/
def SmM (path sum key : ByteArray) (l : List ByteArray) (n : Nat) : Prop := path.size ≤ 1048576 ∧ sum.size ≤ 1048576 ∧ key.size ≤ 1048576 ∧ n ≤ 1048576 ∧ ∀ i, i < n → (st.atS l i).size ≤ 1048576

set_option maxHeartbeats 2000000 in
theorem szM_any (path sum key : ByteArray) (z : Int) (sig : Nat) (l : List ByteArray) (a : Option Addr) (n cap : Nat) (w : World) (hb : st.Ss w a n l) (hn : n ≤ maxLen) (hs : ∀ i, i < n → (st.atS l i).size ≤ maxLen) (hp : path.size ≤ maxLen) (hsu : sum.size ≤ maxLen) (hk : key.size ≤ maxLen) :
    Calls Tryd.prog 6 #[.agg #[.string path, .string sum, .int .i64 z, .slice a n cap, .string key, .int .u64 (sig : Int)], .int .i64 1048576] w fun e w' => ∃ r : Int, e = .returned (.int .i64 r) ∧ (0 ≤ r → SmM path sum key l n) ∧ Below w.heap.size w w' := by
  have HB0 : Hid (∀ o, Below w.heap.size w (w.alloc o)) := fun o => (Below.refl _ _).alloc (Nat.le_refl _) _
  have HSZ : Hid (∀ (L : Int) o, 0 ≤ L → L ≤ 1048576 → Calls Tryd.prog 18 #[.slice a n cap, .int .i64 L] (w.alloc o) fun e w' => ∃ r : Int, e = .returned (.int .i64 r) ∧ (0 ≤ r → r ≤ 1048576 ∧ n ≤ 1048576 ∧ ∀ i, i < n → (st.atS l i).size ≤ 1048576) ∧ w' = w.alloc o) := fun L o h0 h1 => szL_any a n cap l L h0 h1 _ (hb.below (HB0.out o)) hn hs
  clear hb hn hs
  unfold maxLen at hp hsu hk
  obtain ⟨P, hP⟩ : ∃ P, path.size = P := ⟨_, rfl⟩
  obtain ⟨U, hU⟩ : ∃ U, sum.size = U := ⟨_, rfl⟩
  obtain ⟨V, hV⟩ : ∃ V, key.size = V := ⟨_, rfl⟩
  rw [hP] at hp
  rw [hU] at hsu
  rw [hV] at hk
  by_cases h1 : (1048576 : Int) - (P : Int) < 0
  · clear HSZ
    go_enter Tryd.func6, Tryd.ntmps6
    go_wp2
    go_ret
    exact ⟨-1, rfl, fun h => by omega, HB0.out _⟩
  by_cases h2 : (1048576 : Int) - (P : Int) - (U : Int) < 0
  · clear HSZ
    go_enter Tryd.func6, Tryd.ntmps6
    go_wp2
    go_ret
    exact ⟨-1, rfl, fun h => by omega, HB0.out _⟩
  go_enter Tryd.func6, Tryd.ntmps6
  go_wp2_with (first | (go_at_call 18; refine (HSZ.out _ _ (by omega) (by omega)).mono ?_; rintro e wx ⟨r2, rfl, hr2, hwx⟩; obtain rfl := hwx.symm; clear hwx; refine Hid.out ?_) | go_in)
  refine Lib.hid ?_
  have HR2 : Hid (0 ≤ r2 → r2 ≤ 1048576 ∧ n ≤ 1048576 ∧ ∀ i, i < n → (st.atS l i).size ≤ 1048576) := hr2
  clear hr2 HSZ
  by_cases h3 : r2 < 0
  · go_wp2
    go_ret
    exact ⟨-1, rfl, fun h => by omega, HB0.out _⟩
  have h3' := (HR2.out (by omega)).1
  by_cases h4 : r2 - (V : Int) < 0
  · go_wp2
    go_ret
    exact ⟨-1, rfl, fun h => by omega, HB0.out _⟩
  · go_wp2
    go_ret
    exact ⟨r2 - (V : Int), rfl, fun h => ⟨by omega, by omega, by omega, (HR2.out (by omega)).2.1, (HR2.out (by omega)).2.2⟩, HB0.out _⟩

theorem blk_oth {w : World} {b c i : Nat} {v : Value} (h : c ≠ b) : (w.setCell ⟨b, i, none⟩ v).heap[c]? = w.heap[c]? := by
  simp only [World.setCell]
  rw [Array.getElem?_modify, if_neg (fun e => h e.symm)]
theorem far {w : World} {b c i j : Nat} {v : Value} (h : b ≠ c) : (w.setCell ⟨b, i, none⟩ v).cell? ⟨c, j, none⟩ = w.cell? ⟨c, j, none⟩ := World.cell?_of_block (a := ⟨c, j, none⟩) (blk_oth (fun e => h e.symm))
theorem oth {X : World} {b i j : Nat} {v : Value} (h : i ≠ j) : (X.setCell ⟨b, i, none⟩ v).cell? ⟨b, j, none⟩ = X.cell? ⟨b, j, none⟩ := World.cell?_setCell_other X ⟨b, i, none⟩ ⟨b, j, none⟩ v (by simp [h])

def SixC (W : World) (b : Nat) (v0 v1 v2 v3 v4 v5 : Value) : Prop := W.cell? ⟨b, 0, none⟩ = some v0 ∧ W.cell? ⟨b, 1, none⟩ = some v1 ∧ W.cell? ⟨b, 2, none⟩ = some v2 ∧ W.cell? ⟨b, 3, none⟩ = some v3 ∧ W.cell? ⟨b, 4, none⟩ = some v4 ∧ W.cell? ⟨b, 5, none⟩ = some v5
theorem six {W : World} {b : Nat} {u0 u1 u2 u3 u4 u5 : Value} (v0 v1 v2 v3 v4 v5 : Value) (h : SixC W b u0 u1 u2 u3 u4 u5) :
    SixC ((((((W.setCell ⟨b, 0, none⟩ v0).setCell ⟨b, 1, none⟩ v1).setCell ⟨b, 2, none⟩ v2).setCell ⟨b, 3, none⟩ v3).setCell ⟨b, 4, none⟩ v4).setCell ⟨b, 5, none⟩ v5) b v0 v1 v2 v3 v4 v5 := by
  obtain ⟨h0, h1, h2, h3, h4, h5⟩ := h
  refine ⟨?_, ?_, ?_, ?_, ?_, ?_⟩
  · rw [oth (by omega), oth (by omega), oth (by omega), oth (by omega), oth (by omega)]
    exact World.cell?_setCell_same _ _ _ h0
  · rw [oth (by omega), oth (by omega), oth (by omega), oth (by omega)]
    exact World.cell?_setCell_same _ _ _ ((oth (by omega)).trans h1)
  · rw [oth (by omega), oth (by omega), oth (by omega)]
    exact World.cell?_setCell_same _ _ _ ((oth (by omega)).trans ((oth (by omega)).trans h2))
  · rw [oth (by omega), oth (by omega)]
    exact World.cell?_setCell_same _ _ _ ((oth (by omega)).trans ((oth (by omega)).trans ((oth (by omega)).trans h3)))
  · rw [oth (by omega)]
    exact World.cell?_setCell_same _ _ _ ((oth (by omega)).trans ((oth (by omega)).trans ((oth (by omega)).trans ((oth (by omega)).trans h4))))
  · exact World.cell?_setCell_same _ _ _ ((oth (by omega)).trans ((oth (by omega)).trans ((oth (by omega)).trans ((oth (by omega)).trans ((oth (by omega)).trans h5)))))
theorem SixC.far {W : World} {b c i : Nat} {v u0 u1 u2 u3 u4 u5 : Value} (h : SixC W c u0 u1 u2 u3 u4 u5) (hne : b ≠ c) : SixC (W.setCell ⟨b, i, none⟩ v) c u0 u1 u2 u3 u4 u5 := by
  obtain ⟨h0, h1, h2, h3, h4, h5⟩ := h
  exact ⟨(mt.far hne).trans h0, (mt.far hne).trans h1, (mt.far hne).trans h2, (mt.far hne).trans h3, (mt.far hne).trans h4, (mt.far hne).trans h5⟩

theorem ret_cellM {fn : Func} {i : Tmp} (hf : fn.results = #[.cell i 28]) {tmps : Array Value} {W : World} {b : Nat} {v0 v1 v2 v3 v4 v5 : Value} {R : Ending → World → Prop} (h4 : tmps.getD i undef = .pointer (some ⟨b, 0, none⟩))
    (h : SixC W b v0 v1 v2 v3 v4 v5) (hR : R (.returned (.agg #[v0, v1, v2, v3, v4, v5])) W) :
    bodyPost Tryd.prog fn R Exit.ret { tmps := tmps, defers := [] } W := by
  obtain ⟨k0, k1, k2, k3, k4, k5⟩ := h
  have h4' : tmps[i]?.getD undef = .pointer (some ⟨b, 0, none⟩) := by simpa using h4
  exact bodyPost_ret (v := .agg #[v0, v1, v2, v3, v4, v5]) (by simp [results, hf, go_sem, h4', k0, k1, k2, k3, k4, k5]) rfl hR

theorem Ss_kept {w w' : World} {g n : Nat} {l : List ByteArray} (h : st.Ss w (some ⟨g, 0, none⟩) n l) (hb : w'.heap[g]? = w.heap[g]?) : st.Ss w' (some ⟨g, 0, none⟩) n l := by
  rcases h with h | ⟨b, off, e, hc⟩
  · exact .inl h
  · cases e
    exact .inr ⟨g, 0, rfl, fun i hi => (World.cell?_of_block (a := ⟨g, 0 + i, none⟩) hb).trans (hc i hi)⟩

/-- A row of texts that can be written into. -/
def RwT (w : World) (g n : Nat) (l : List ByteArray) : Prop := (∃ cs, w.heap[g]? = some (.cells cs 9 (0, 0)) ∧ n ≤ cs.size) ∧ st.Ss w (some ⟨g, 0, none⟩) n l
theorem RwT.kept {w w' : World} {g n : Nat} {l : List ByteArray} (h : RwT w g n l) (hb : w'.heap[g]? = w.heap[g]?) : RwT w' g n l := by
  obtain ⟨⟨cs, hc, hs⟩, hr⟩ := h
  exact ⟨⟨cs, hb.trans hc, hs⟩, Ss_kept hr hb⟩
theorem RwT.lt {w : World} {g n : Nat} {l : List ByteArray} (h : RwT w g n l) : g < w.heap.size := by
  obtain ⟨⟨cs, hc, _⟩, _⟩ := h
  exact (Array.getElem?_eq_some_iff.1 hc).1
theorem RwT.below {w w' : World} {g n : Nat} {l : List ByteArray} (h : RwT w g n l) (hb : Below w.heap.size w w') : RwT w' g n l := h.kept (hb.block g h.lt)
theorem RwT.row {w : World} {b n : Nat} {l : List ByteArray} (h : w.rowIs b 9 n (fun i => .string (st.atS l i))) : RwT w b n l := by
  refine ⟨?_, st.Ss.row h⟩
  obtain ⟨cs, hc, hs⟩ := h
  exact ⟨cs, hc, by omega⟩

set_option maxRecDepth 100000 in
set_option maxHeartbeats 4000000 in
theorem toM_full (path sum key : ByteArray) (z : Int) (sig : Nat) (l : List ByteArray) (a : Option Addr) (n cap : Nat) (w : World) (hb : st.Ss w a n l) (hn : n ≤ 1048576) :
    Calls Tryd.prog 8 #[.agg #[.string path, .string sum, .int .i64 z, .slice a n cap, .string key, .int .u64 (sig : Int)]] w fun e w' => ∃ g, e = .returned (.agg #[.string path, .string sum, .int .i64 z, .slice (some ⟨g, 0, none⟩) n n, .string key, .int .u64 (sig : Int)]) ∧ w.heap.size ≤ g ∧ RwT w' g n l ∧ Below w.heap.size w w' := by
  have HTO : Hid (∀ W, Below w.heap.size w W → Calls Tryd.prog 22 #[.slice a n cap] W fun e w' => e = .returned (.slice (some ⟨W.heap.size, 0, none⟩) n n) ∧ w'.rowIs W.heap.size 9 n (fun i => .string (st.atS l i)) ∧ Below W.heap.size W w') := fun W h => st.to_any a n cap l W (hb.below h) (by omega)
  clear hb
  go_enter Tryd.func8, Tryd.ntmps8
  go_wp2_with (first | (go_at_call 22; refine (HTO.out _ ((((Below.refl _ _).alloc (Nat.le_refl _) _).alloc (by simp) _).alloc (by simp; omega) _)).mono ?_; rintro e w1 ⟨rfl, hrow, hl1⟩; obtain ⟨k1, k2⟩ := bcell hl1; refine Hid.out ?_) | go_in)
  refine Lib.hid ?_
  have b4 : w1.cell? ⟨w.heap.size, 4, none⟩ = some (.string key) := (k1 _ _ (by simp; omega)).trans (by simp [go_sem])
  have b5 : w1.cell? ⟨w.heap.size, 5, none⟩ = some (.int .u64 (sig : Int)) := (k1 _ _ (by simp; omega)).trans (by simp [go_sem])
  have c0 : w1.cell? ⟨w.heap.size + 1 + 1, 0, none⟩ = some (.string path) := (k1 _ _ (by simp)).trans (by simp [go_sem])
  have c1 : w1.cell? ⟨w.heap.size + 1 + 1, 1, none⟩ = some (.string sum) := (k1 _ _ (by simp)).trans (by simp [go_sem])
  have c2 : w1.cell? ⟨w.heap.size + 1 + 1, 2, none⟩ = some (.int .i64 z) := (k1 _ _ (by simp)).trans (by simp [go_sem])
  have c3 : w1.cell? ⟨w.heap.size + 1 + 1, 3, none⟩ = some (.slice none 0 0) := (k1 _ _ (by simp)).trans (by simp [go_sem])
  have c4 : w1.cell? ⟨w.heap.size + 1 + 1, 4, none⟩ = some (.string ⟨#[]⟩) := (k1 _ _ (by simp)).trans (by simp [go_sem])
  have c5 : w1.cell? ⟨w.heap.size + 1 + 1, 5, none⟩ = some (.int .u64 0) := (k1 _ _ (by simp)).trans (by simp [go_sem])
  have d0 : w1.cell? ⟨w.heap.size + 1, 0, none⟩ = some (.string ⟨#[]⟩) := (k1 _ _ (by simp)).trans (by simp [go_sem])
  have d1 : w1.cell? ⟨w.heap.size + 1, 1, none⟩ = some (.string ⟨#[]⟩) := (k1 _ _ (by simp)).trans (by simp [go_sem])
  have d2 : w1.cell? ⟨w.heap.size + 1, 2, none⟩ = some (.int .i64 0) := (k1 _ _ (by simp)).trans (by simp [go_sem])
  have d3 : w1.cell? ⟨w.heap.size + 1, 3, none⟩ = some (.slice none 0 0) := (k1 _ _ (by simp)).trans (by simp [go_sem])
  have d4 : w1.cell? ⟨w.heap.size + 1, 4, none⟩ = some (.string ⟨#[]⟩) := (k1 _ _ (by simp)).trans (by simp [go_sem])
  have d5 : w1.cell? ⟨w.heap.size + 1, 5, none⟩ = some (.int .u64 0) := (k1 _ _ (by simp)).trans (by simp [go_sem])
  have f0 : ∀ o, w1.frozen? ⟨w.heap.size + 1 + 1, o, none⟩ = false := fun o => (k2 _ _ (by simp)).trans (by simp [go_sem])
  have f1 : ∀ o, w1.frozen? ⟨w.heap.size + 1, o, none⟩ = false := fun o => (k2 _ _ (by simp)).trans (by simp [go_sem])
  have HRW : Hid (RwT w1 (w.heap.size + 1 + 1 + 1) n l) := by
    have := RwT.row hrow
    simp at this
    exact this
  have HBL : Hid (Below w.heap.size w w1) := ((((Below.refl _ _).alloc (Nat.le_refl _) _).alloc (by simp) _).alloc (by simp; omega) _).trans (hl1.mono (by simp; omega))
  clear hrow hl1 k1 k2
  have HS6 : Hid (SixC w1 (w.heap.size + 1) (.string ⟨#[]⟩) (.string ⟨#[]⟩) (.int .i64 0) (.slice none 0 0) (.string ⟨#[]⟩) (.int .u64 0)) := ⟨d0, d1, d2, d3, d4, d5⟩
  go_wp2
  refine ret_cellM Tryd.results8 rfl (six _ _ _ _ _ _ (((HS6.out.far (by omega)).far (by omega)).far (by omega))) ⟨_, rfl, by omega, ?_, ?_⟩
  · exact HRW.out.kept (by rw [blk_oth (by omega), blk_oth (by omega), blk_oth (by omega), blk_oth (by omega), blk_oth (by omega), blk_oth (by omega), blk_oth (by omega), blk_oth (by omega), blk_oth (by omega)])
  · have x2 : w.heap.size ≤ w.heap.size + 1 + 1 := by omega
    have x1 : w.heap.size ≤ w.heap.size + 1 := by omega
    exact ((((((((HBL.out.setCell x2 _).setCell x2 _).setCell x2 _).setCell x1 _).setCell x1 _).setCell x1 _).setCell x1 _).setCell x1 _).setCell x1 _

theorem toM_any (path sum key : ByteArray) (z : Int) (sig : Nat) (l : List ByteArray) (a : Option Addr) (n cap : Nat) (w : World) (hb : st.Ss w a n l) (hn : n ≤ 1048576) :
    Calls Tryd.prog 8 #[.agg #[.string path, .string sum, .int .i64 z, .slice a n cap, .string key, .int .u64 (sig : Int)]] w fun e w' => ∃ g, e = .returned (.agg #[.string path, .string sum, .int .i64 z, .slice (some ⟨g, 0, none⟩) n n, .string key, .int .u64 (sig : Int)]) ∧ w.heap.size ≤ g ∧ st.Ss w' (some ⟨g, 0, none⟩) n l ∧ Below w.heap.size w w' :=
  (toM_full path sum key z sig l a n cap w hb hn).mono fun e w' ⟨g, h1, h2, h3, h4⟩ => ⟨g, h1, h2, h3.2, h4⟩

set_option maxRecDepth 100000 in
theorem eqM_any (path sum key : ByteArray) (z : Int) (sig : Nat) (l : List ByteArray) (a a' : Option Addr) (n cap cap' : Nat) (w : World) (hb : st.Ss w a n l) (hb' : st.Ss w a' n l) (hn : n ≤ 1048576) :
    Calls Tryd.prog 10 #[.agg #[.string path, .string sum, .int .i64 z, .slice a n cap, .string key, .int .u64 (sig : Int)], .agg #[.string path, .string sum, .int .i64 z, .slice a' n cap', .string key, .int .u64 (sig : Int)]] w fun e w' => e = .returned (.bool true) ∧ Below w.heap.size w w' := by
  have HEQ : Hid (∀ W, Below w.heap.size w W → Calls Tryd.prog 26 #[.slice a n cap, .slice a' n cap'] W fun e w' => e = .returned (.bool true) ∧ ∃ q, w' = W.drewN q) := fun W h => st.eq_any a a' n cap cap' l W (hb.below h) (hb'.below h) (by omega)
  have HB2 : Hid (∀ o o' q, Below w.heap.size w (((w.alloc o).alloc o').drewN q)) := fun o o' q => Go.below_drewN (((Below.refl _ _).alloc (Nat.le_refl _) _).alloc (by simp) _) _
  clear hb hb' hn
  go_enter Tryd.func10, Tryd.ntmps10
  go_wp2_with (first | (go_at_call 26; refine (HEQ.out _ (((Below.refl _ _).alloc (Nat.le_refl _) _).alloc (by simp) _)).mono ?_; rintro e w1 ⟨rfl, q, rfl⟩) | go_in)
  go_ret
  exact ⟨rfl, HB2.out _ _ _⟩

theorem six_all {w : World} {v0 v1 v2 v3 v4 v5 : Value} {t : TypeId} : ∀ W, Below (w.alloc (.cells #[v0, v1, v2, v3, v4, v5] t)).heap.size (w.alloc (.cells #[v0, v1, v2, v3, v4, v5] t)) W → W.cell? ⟨w.heap.size, 0, none⟩ = some v0 ∧ W.cell? ⟨w.heap.size, 1, none⟩ = some v1 ∧ W.cell? ⟨w.heap.size, 2, none⟩ = some v2 ∧ W.cell? ⟨w.heap.size, 3, none⟩ = some v3 ∧ W.cell? ⟨w.heap.size, 4, none⟩ = some v4 ∧ W.cell? ⟨w.heap.size, 5, none⟩ = some v5 := fun W h => by
  obtain ⟨⟨a0, a1, a2⟩, a3, a4, a5⟩ := six_cells W h
  exact ⟨a0, a1, a2, a3, a4, a5⟩

set_option maxRecDepth 100000 in
set_option maxHeartbeats 4000000 in
theorem mt_law (path sum key : ByteArray) (z : Int) (sig : Nat) (l : List ByteArray) (a : Option Addr) (n cap : Nat) (w : World) (hb : st.Ss w a n l) (hn : n ≤ maxLen) (hs : ∀ i, i < n → (st.atS l i).size ≤ maxLen) (hp : path.size ≤ maxLen) (hsu : sum.size ≤ maxLen) (hk : key.size ≤ maxLen) (hsg : sig < 18446744073709551616) (hT : wd.TabB w) (hP : PwT w) :
    Calls Tryd.prog 3 #[.agg #[.string path, .string sum, .int .i64 z, .slice a n cap, .string key, .int .u64 (sig : Int)]] w fun e w' => e = .returned (.bool true) ∧ Below w.heap.size w w' := by
  obtain ⟨o, ho⟩ : ∃ o : Obj, o = .cells #[.string path, .string sum, .int .i64 z, .slice a n cap, .string key, .int .u64 (sig : Int)] 25 := ⟨_, rfl⟩
  have b0 : Below w.heap.size w (w.alloc o) := (Below.refl _ _).alloc (Nat.le_refl _) o
  have HBW : Hid (∀ W, Below (w.alloc o).heap.size (w.alloc o) W → Below w.heap.size w W) := fun W h => b0.trans (h.mono b0.size)
  have HKC : Hid (∀ W, Below (w.alloc o).heap.size (w.alloc o) W → W.cell? ⟨w.heap.size, 0, none⟩ = some (.string path) ∧ W.cell? ⟨w.heap.size, 1, none⟩ = some (.string sum) ∧ W.cell? ⟨w.heap.size, 2, none⟩ = some (.int .i64 z) ∧ W.cell? ⟨w.heap.size, 3, none⟩ = some (.slice a n cap) ∧ W.cell? ⟨w.heap.size, 4, none⟩ = some (.string key) ∧ W.cell? ⟨w.heap.size, 5, none⟩ = some (.int .u64 (sig : Int))) := by rw [ho]; exact six_all
  have HSZ : Hid (Calls Tryd.prog 6 #[.agg #[.string path, .string sum, .int .i64 z, .slice a n cap, .string key, .int .u64 (sig : Int)], .int .i64 1048576] (w.alloc o) fun e w' => ∃ r : Int, e = .returned (.int .i64 r) ∧ (0 ≤ r → SmM path sum key l n) ∧ Below (w.alloc o).heap.size (w.alloc o) w') := szM_any path sum key z sig l a n cap (w.alloc o) (hb.below b0) hn hs hp hsu hk
  rw [ho] at HSZ
  obtain ⟨c, hc⟩ : ∃ c, mtT path sum key z sig l n = c := ⟨_, rfl⟩
  have HTO : Hid (n ≤ 1048576 → ∀ W, Below w.heap.size w W → Calls Tryd.prog 8 #[.agg #[.string path, .string sum, .int .i64 z, .slice a n cap, .string key, .int .u64 (sig : Int)]] W fun e w' => ∃ g, e = .returned (.agg #[.string path, .string sum, .int .i64 z, .slice (some ⟨g, 0, none⟩) n n, .string key, .int .u64 (sig : Int)]) ∧ W.heap.size ≤ g ∧ st.Ss w' (some ⟨g, 0, none⟩) n l ∧ Below W.heap.size W w') := fun h W hW => toM_any path sum key z sig l a n cap W (hb.below hW) h
  have HSP : Hid (SmM path sum key l n → ∀ W g, st.Ss W (some ⟨g, 0, none⟩) n l → Calls Tryd.prog 7 #[.agg #[.string path, .string sum, .int .i64 z, .slice (some ⟨g, 0, none⟩) n n, .string key, .int .u64 (sig : Int)]] W fun e w' => e = .returned (.string c) ∧ Below W.heap.size W w') := fun ⟨h1, h2, h3, h4, h5⟩ W g hW => by rw [← hc]; exact smt_any path sum key z sig l _ n n W hW h4 h5 h1 h2 h3 hsg
  have HIM : Hid (SmM path sum key l n → ∀ W g, Below w.heap.size w W → st.Ss W (some ⟨g, 0, none⟩) n l → Calls Tryd.prog 9 #[.agg #[.string path, .string sum, .int .i64 z, .slice (some ⟨g, 0, none⟩) n n, .string key, .int .u64 (sig : Int)]] W fun e w' => e = .returned (.string c) ∧ Below W.heap.size W w') := fun ⟨h1, h2, h3, h4, h5⟩ W g hB hW => by rw [← hc]; exact imt_any path sum key z sig l _ n n W hW h4 h5 h1 h2 h3 hsg (hT.below hB) (hP.below hB)
  have HEQ : Hid (n ≤ 1048576 → ∀ W g g', st.Ss W (some ⟨g, 0, none⟩) n l → st.Ss W (some ⟨g', 0, none⟩) n l → Calls Tryd.prog 10 #[.agg #[.string path, .string sum, .int .i64 z, .slice (some ⟨g, 0, none⟩) n n, .string key, .int .u64 (sig : Int)], .agg #[.string path, .string sum, .int .i64 z, .slice (some ⟨g', 0, none⟩) n n, .string key, .int .u64 (sig : Int)]] W fun e w' => e = .returned (.bool true) ∧ Below W.heap.size W w') := fun h W g g' h1 h2 => eqM_any path sum key z sig l _ _ n n n W h1 h2 h
  clear hb hn hs hp hsu hk hsg hT hP hc b0
  go_enter Tryd.func3, Tryd.ntmps3
  go_wp2_with (first | (go_at_call 6; refine HSZ.out.mono ?_; rintro e w1 ⟨r, rfl, hr, hl1⟩; refine Hid.out ?_) | go_in)
  refine Lib.hid ?_
  rw [← ho] at hl1
  have HR : Hid (0 ≤ r → SmM path sum key l n) := hr
  have C1 : Below (w.alloc o).heap.size (w.alloc o) w1 := hl1
  clear hr hl1 HSZ
  by_cases hr0 : r < 0
  · have B1 := HBW.out _ C1
    go_wp2
    go_ret
    exact ⟨rfl, B1⟩
  have HSM : Hid (SmM path sum key l n) := HR.out (by omega)
  have HN : Hid (n ≤ 1048576) := HSM.out.2.2.2.1
  obtain ⟨k0, k1, k2, k3, k4, k5⟩ := HKC.out _ C1
  go_wp2_with (first | (go_at_call 8; refine (HTO.out HN.out _ (HBW.out _ C1)).mono ?_; rintro e w2 ⟨g2, rfl, hg2, hs2, hl2⟩; refine Hid.out ?_) | go_in)
  refine Lib.hid ?_
  have C2 := C1.trans (hl2.mono C1.size)
  have HS2 : Hid (st.Ss w2 (some ⟨g2, 0, none⟩) n l) := hs2
  clear hg2 hs2 hl2 C1 k0 k1 k2 k3 k4 k5
  go_wp2_with (first | (go_at_call 7; refine (HSP.out HSM.out _ _ HS2.out).mono ?_; rintro e w3 ⟨rfl, hl3⟩; refine Hid.out ?_) | go_in)
  refine Lib.hid ?_
  have C3 := C2.trans (hl3.mono C2.size)
  clear hl3 C2 HS2 HSP
  obtain ⟨k0, k1, k2, k3, k4, k5⟩ := HKC.out _ C3
  go_wp2_with (first | (go_at_call 8; refine (HTO.out HN.out _ (HBW.out _ C3)).mono ?_; rintro e w4 ⟨g4, rfl, hg4, hs4, hl4⟩; refine Hid.out ?_) | go_in)
  refine Lib.hid ?_
  have C4 := C3.trans (hl4.mono C3.size)
  have HS4 : Hid (st.Ss w4 (some ⟨g4, 0, none⟩) n l) := hs4
  clear hg4 hs4 hl4 C3 k0 k1 k2 k3 k4 k5
  obtain ⟨o5, ho5⟩ : ∃ o5 : Obj, o5 = .cells #[.string path, .string sum, .int .i64 z, .slice (some ⟨g4, 0, none⟩) n n, .string key, .int .u64 (sig : Int)] 28 := ⟨_, rfl⟩
  have C5 : Below (w.alloc o).heap.size (w.alloc o) (w4.alloc o5) := C4.alloc C4.size _
  have b5 : Below w4.heap.size w4 (w4.alloc o5) := (Below.refl _ _).alloc (Nat.le_refl _) _
  have HI5 : Hid (Calls Tryd.prog 9 #[.agg #[.string path, .string sum, .int .i64 z, .slice (some ⟨g4, 0, none⟩) n n, .string key, .int .u64 (sig : Int)]] (w4.alloc o5) fun e w' => e = .returned (.string c) ∧ Below (w4.alloc o5).heap.size (w4.alloc o5) w') := HIM.out HSM.out _ _ (HBW.out _ C5) (HS4.out.below b5)
  have HK5 : Hid (∀ W, Below (w4.alloc o5).heap.size (w4.alloc o5) W → W.cell? ⟨w4.heap.size, 0, none⟩ = some (.string path) ∧ W.cell? ⟨w4.heap.size, 1, none⟩ = some (.string sum) ∧ W.cell? ⟨w4.heap.size, 2, none⟩ = some (.int .i64 z) ∧ W.cell? ⟨w4.heap.size, 3, none⟩ = some (.slice (some ⟨g4, 0, none⟩) n n) ∧ W.cell? ⟨w4.heap.size, 4, none⟩ = some (.string key) ∧ W.cell? ⟨w4.heap.size, 5, none⟩ = some (.int .u64 (sig : Int))) := by rw [ho5]; exact six_all
  rw [ho5] at HI5
  clear HIM
  go_wp2_with (first | (go_at_call 9; refine HI5.out.mono ?_; rintro e w6 ⟨rfl, hl6⟩; refine Hid.out ?_) | go_in)
  refine Lib.hid ?_
  rw [← ho5] at hl6
  have C6 := C5.trans (hl6.mono C5.size)
  have HS6 : Hid (st.Ss w6 (some ⟨g4, 0, none⟩) n l) := (HS4.out.below b5).below hl6
  have HD6 : Hid (Below (w4.alloc o5).heap.size (w4.alloc o5) w6.drew) := hl6.drew
  have HC6 : Hid (Below (w.alloc o).heap.size (w.alloc o) w6.drew) := C6.drew
  have HKK : Hid (∀ W, Below (w.alloc o).heap.size (w.alloc o) W → Below (w4.alloc o5).heap.size (w4.alloc o5) W → (W.cell? ⟨w.heap.size, 0, none⟩ = some (.string path) ∧ W.cell? ⟨w.heap.size, 1, none⟩ = some (.string sum) ∧ W.cell? ⟨w.heap.size, 2, none⟩ = some (.int .i64 z) ∧ W.cell? ⟨w.heap.size, 3, none⟩ = some (.slice a n cap) ∧ W.cell? ⟨w.heap.size, 4, none⟩ = some (.string key) ∧ W.cell? ⟨w.heap.size, 5, none⟩ = some (.int .u64 (sig : Int))) ∧ W.cell? ⟨w4.heap.size, 0, none⟩ = some (.string path) ∧ W.cell? ⟨w4.heap.size, 1, none⟩ = some (.string sum) ∧ W.cell? ⟨w4.heap.size, 2, none⟩ = some (.int .i64 z) ∧ W.cell? ⟨w4.heap.size, 3, none⟩ = some (.slice (some ⟨g4, 0, none⟩) n n) ∧ W.cell? ⟨w4.heap.size, 4, none⟩ = some (.string key) ∧ W.cell? ⟨w4.heap.size, 5, none⟩ = some (.int .u64 (sig : Int))) := fun W h h' => ⟨HKC.out W h, HK5.out W h'⟩
  have HSD : Hid (st.Ss w6.drew (some ⟨g4, 0, none⟩) n l) := HS6.out.below (Below.refl _ _).drew
  clear hl6 C6 C5 C4 b5 HI5 HS4 HS6
  go_wp2_with fail
  go_region_held3 (fun W => (W.cell? ⟨w.heap.size, 0, none⟩ = some (.string path) ∧ W.cell? ⟨w.heap.size, 1, none⟩ = some (.string sum) ∧ W.cell? ⟨w.heap.size, 2, none⟩ = some (.int .i64 z) ∧ W.cell? ⟨w.heap.size, 3, none⟩ = some (.slice a n cap) ∧ W.cell? ⟨w.heap.size, 4, none⟩ = some (.string key) ∧ W.cell? ⟨w.heap.size, 5, none⟩ = some (.int .u64 (sig : Int))) ∧ W.cell? ⟨w4.heap.size, 0, none⟩ = some (.string path) ∧ W.cell? ⟨w4.heap.size, 1, none⟩ = some (.string sum) ∧ W.cell? ⟨w4.heap.size, 2, none⟩ = some (.int .i64 z) ∧ W.cell? ⟨w4.heap.size, 3, none⟩ = some (.slice (some ⟨g4, 0, none⟩) n n) ∧ W.cell? ⟨w4.heap.size, 4, none⟩ = some (.string key) ∧ W.cell? ⟨w4.heap.size, 5, none⟩ = some (.int .u64 (sig : Int)))
    (first | exact HKK.out _ HC6.out HD6.out | exact HKK.out _ C8 D8 | exact HKK.out _ C7 D7 | go_keep)
    (first
      | (go_at_call 8; refine (HTO.out HN.out _ (HBW.out _ HC6.out)).mono ?_; rintro e w7 ⟨g7, rfl, hg7, hs7, hl7⟩; have C7 := HC6.out.trans (hl7.mono HC6.out.size); have D7 := HD6.out.trans (hl7.mono HD6.out.size); have E7 := HSD.out.below hl7)
      | (go_at_call 10; refine (HEQ.out HN.out _ _ _ E7 hs7).mono ?_; rintro e w8 ⟨rfl, hl8⟩; have C8 := C7.trans (hl8.mono C7.size); have D8 := D7.trans (hl8.mono D7.size)))
  have B8 := HBW.out _ C8
  go_wp2
  go_ret
  exact ⟨rfl, B8⟩

end Go.Proofs.YtheponigjofknaaDoor.mt
