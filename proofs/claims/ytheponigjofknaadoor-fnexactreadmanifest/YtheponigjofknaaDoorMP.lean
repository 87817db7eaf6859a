import Derived.Test.YtheponigjofknaaDoorMO
import Derived.Test.YtheponigjofknaaDoorSS
import Derived.Test.YtheponigjofknaaDoorSKy
namespace Go.Proofs.YtheponigjofknaaDoor.mt
open Go.ChangeShapes Go.WideShapes Go.ChangeAt Go.RowKit Go.Deep
open bf
set_option linter.unusedVariables false
set_option linter.unusedSimpArgs false

/-! ### Both SignManifest -/

def inL (l : List UInt8) : List Int := l.map fun x => (x.toNat : Int)
theorem bs_of {base : Nat} {w : World} {g cap : Nat} {l : List UInt8} (h : bf.Bf base w g cap l) : sm.Bs w (some ⟨g, 0, none⟩) l.length (inL l) :=
  .inr ⟨g, 0, rfl, fun i hi => by rw [Nat.zero_add, h.cells i hi]; simp [inL, hi]⟩

/-- May it be signed under this name? -/
def sgB (path sum name : ByteArray) (z : Int) (l : List ByteArray) (n : Nat) : Bool := hokB path sum z l n && nm.nameB name
/-- The key's name and the signature behind it. -/
def sgK (path sum key name : ByteArray) (z : Int) (l : List ByteArray) (n : Nat) : ByteArray := if sgB path sum name z l n then name else key
def sgS (path sum name : ByteArray) (z : Int) (l : List ByteArray) (n sig N D : Nat) : Nat := if sgB path sum name z l n then sg.sgV N D (sg.SV (inL (headL path sum z l n)) (headL path sum z l n).length) else sig

/-- What stands in the four blocks of SignManifest, whatever is made behind them. -/
theorem four_facts {w : World} {v0 v1 v2 v3 v4 v5 k0 k1 k2 z0 z1 z2 z3 z4 z5 n0 n1 n2 n3 n4 n5 : Value} {t u : TypeId} {W4 : World} (hW : W4 = (((w.alloc (.cells #[v0, v1, v2, v3, v4, v5] t)).alloc (.cells #[k0, k1, k2] u)).alloc (.cells #[z0, z1, z2, z3, z4, z5] t)).alloc (.cells #[n0, n1, n2, n3, n4, n5] t)) : ∀ W, Below W4.heap.size W4 W →
    SixC W w.heap.size v0 v1 v2 v3 v4 v5 ∧ (W.cell? ⟨w.heap.size + 1, 0, none⟩ = some k0 ∧ W.cell? ⟨w.heap.size + 1, 1, none⟩ = some k1 ∧ W.cell? ⟨w.heap.size + 1, 2, none⟩ = some k2) ∧ (SixC W (w.heap.size + 1 + 1) z0 z1 z2 z3 z4 z5 ∧ ∀ i, W.frozen? ⟨w.heap.size + 1 + 1, i, none⟩ = false) ∧ (SixC W (w.heap.size + 1 + 1 + 1) n0 n1 n2 n3 n4 n5 ∧ ∀ i, W.frozen? ⟨w.heap.size + 1 + 1 + 1, i, none⟩ = false) := fun W h => by
  subst hW
  obtain ⟨q1, q2⟩ := bcell h
  refine ⟨⟨?_, ?_, ?_, ?_, ?_, ?_⟩, ⟨?_, ?_, ?_⟩, ⟨⟨?_, ?_, ?_, ?_, ?_, ?_⟩, fun i => (q2 _ _ (by simp; try omega)).trans (by simp [go_sem])⟩, ⟨⟨?_, ?_, ?_, ?_, ?_, ?_⟩, fun i => (q2 _ _ (by simp; try omega)).trans (by simp [go_sem])⟩⟩
  all_goals exact (q1 _ _ (by simp; try omega)).trans (by simp [go_sem])

theorem four_size {w : World} {o1 o2 o3 o4 : Obj} {W4 : World} (hW : W4 = (((w.alloc o1).alloc o2).alloc o3).alloc o4) : W4.heap.size = w.heap.size + 4 ∧ Below w.heap.size w W4 := by
  subst hW
  exact ⟨by simp, ((((Below.refl _ _).alloc (Nat.le_refl _) _).alloc (by simp) _).alloc (by simp; omega) _).alloc (by simp; omega) _⟩

set_option maxRecDepth 100000 in
set_option maxHeartbeats 4000000 in
theorem isign_any (path sum key name : ByteArray) (z : Int) (sig N E D : Nat) (l : List ByteArray) (a : Option Addr) (n cap : Nat) (w : World) (hb : st.Ss w a n l) (hn : n ≤ 1048576) (hs : ∀ i, i < n → (st.atS l i).size ≤ 1048576) (hp : path.size ≤ 1048576) (hsu : sum.size ≤ 1048576) (hk : key.size ≤ 1048576) (hnm : name.size ≤ 1048576) (hN : N < 18446744073709551616) (hD : D < 18446744073709551616) (hT : wd.TabB w) (hP : PwT w) :
    Calls Tryd.prog 13 #[.agg #[.string path, .string sum, .int .i64 z, .slice a n cap, .string key, .int .u64 (sig : Int)], .string name, .agg #[.int .u64 (N : Int), .int .u64 (E : Int), .int .u64 (D : Int)]] w fun e w' => ∃ g, e = .returned (.agg #[.string path, .string sum, .int .i64 z, .slice (some ⟨g, 0, none⟩) n n, .string (sgK path sum key name z l n), .int .u64 ((sgS path sum name z l n sig N D : Nat) : Int)]) ∧ w.heap.size ≤ g ∧ RwT w' g n l ∧ Below w.heap.size w w' := by
  obtain ⟨W4, hW4⟩ : ∃ W4 : World, W4 = (((w.alloc (.cells #[.string path, .string sum, .int .i64 z, .slice a n cap, .string key, .int .u64 (sig : Int)] 28)).alloc (.cells #[.int .u64 (N : Int), .int .u64 (E : Int), .int .u64 (D : Int)] 35)).alloc (.cells #[.string ⟨#[]⟩, .string ⟨#[]⟩, .int .i64 0, .slice none 0 0, .string ⟨#[]⟩, .int .u64 0] 28)).alloc (.cells #[.string path, .string sum, .int .i64 z, .slice a n cap, .string name, .int .u64 (sig : Int)] 28) := ⟨_, rfl⟩
  have HFF : Hid (∀ W, Below W4.heap.size W4 W → SixC W w.heap.size (.string path) (.string sum) (.int .i64 z) (.slice a n cap) (.string key) (.int .u64 (sig : Int)) ∧ (W.cell? ⟨w.heap.size + 1, 0, none⟩ = some (.int .u64 (N : Int)) ∧ W.cell? ⟨w.heap.size + 1, 1, none⟩ = some (.int .u64 (E : Int)) ∧ W.cell? ⟨w.heap.size + 1, 2, none⟩ = some (.int .u64 (D : Int))) ∧ (SixC W (w.heap.size + 1 + 1) (.string ⟨#[]⟩) (.string ⟨#[]⟩) (.int .i64 0) (.slice none 0 0) (.string ⟨#[]⟩) (.int .u64 0) ∧ ∀ i, W.frozen? ⟨w.heap.size + 1 + 1, i, none⟩ = false) ∧ (SixC W (w.heap.size + 1 + 1 + 1) (.string path) (.string sum) (.int .i64 z) (.slice a n cap) (.string name) (.int .u64 (sig : Int)) ∧ ∀ i, W.frozen? ⟨w.heap.size + 1 + 1 + 1, i, none⟩ = false)) := four_facts hW4
  obtain ⟨hz4, hbw4⟩ := four_size hW4
  have HSG0 := isg_any path sum name z sig l a n cap W4 (hb.below hbw4) hn hs hp hsu hnm (hT.below hbw4) (hP.below hbw4)
  have HCL : Hid (∀ W (K : ByteArray) (s : Nat), Below w.heap.size w W → K.size ≤ 1048576 → Calls Tryd.prog 28 #[.agg #[.string path, .string sum, .int .i64 z, .slice a n cap, .string K, .int .u64 (s : Int)]] W fun e w' => ∃ g, e = .returned (.agg #[.string path, .string sum, .int .i64 z, .slice (some ⟨g, 0, none⟩) n n, .string K, .int .u64 (s : Int)]) ∧ W.heap.size ≤ g ∧ RwT w' g n l ∧ Below W.heap.size W w') := fun W K s h hK => iclone_any path sum K z s l a n cap W (hb.below h) hn hs hp hsu hK
  have HBW : Hid (∀ W, Below W4.heap.size W4 W → Below w.heap.size w W) := fun W h => hbw4.trans (h.mono hbw4.size)
  have HKN : Hid (key.size ≤ 1048576 ∧ name.size ≤ 1048576) := ⟨hk, hnm⟩
  have HZ4 : Hid (W4.heap.size = w.heap.size + 4) := hz4
  cases hB : sgB path sum name z l n
  · have hL : sgL path sum name z l n = [] := by unfold sgB at hB; unfold sgL; rw [hB]; rfl
    have e1 : sgK path sum key name z l n = key := by unfold sgK; rw [hB]; rfl
    have e2 : sgS path sum name z l n sig N D = sig := by unfold sgS; rw [hB]; rfl
    rw [hL] at HSG0
    rw [e1, e2]
    have HSG : Hid (Calls Tryd.prog 23 #[.agg #[.string path, .string sum, .int .i64 z, .slice a n cap, .string name, .int .u64 (sig : Int)]] W4 fun e w' => LineR W4.heap.size W4 w' e []) := HSG0
    rw [hW4] at HSG
    clear HSG0 hb hn hs hp hsu hk hnm hN hD hT hP hB hL e1 e2 hbw4 hz4
    go_enter Tryd.func13, Tryd.ntmps13
    go_wp2_with (first | (go_at_call 23; refine HSG.out.mono ?_; rintro e w1 ⟨g1, cc1, z1, rfl, rfl, hbf1, hl1⟩; refine Hid.out ?_) | go_in)
    refine Lib.hid ?_
    rw [← hW4] at hl1
    clear hbf1 HSG
    obtain ⟨⟨a0, a1, a2, a3, a4, a5⟩, -, -, -⟩ := HFF.out _ hl1
    go_wp2_with (first | (go_at_call 28; refine (HCL.out _ _ _ (HBW.out _ hl1) HKN.out.1).mono ?_; rintro e w2 ⟨g2, rfl, hg2, hr2, hl2⟩; refine Hid.out ?_) | go_in)
    refine Lib.hid ?_
    have C2 := hl1.trans (hl2.mono hl1.size)
    have s1 := hl1.size
    have HR2 : Hid (RwT w2 g2 n l) := hr2
    have h4 := HZ4.out
    obtain ⟨-, -, ⟨⟨d0, d1, d2, d3, d4, d5⟩, f1⟩, -⟩ := HFF.out _ C2
    have HZ : Hid (SixC w2 (w.heap.size + 1 + 1) (.string ⟨#[]⟩) (.string ⟨#[]⟩) (.int .i64 0) (.slice none 0 0) (.string ⟨#[]⟩) (.int .u64 0)) := ⟨d0, d1, d2, d3, d4, d5⟩
    have hgg : w.heap.size + 4 ≤ g2 := by omega
    have B2 := HBW.out _ C2
    clear hr2 hl2 hl1 C2 a0 a1 a2 a3 a4 a5 s1 h4 HZ4
    go_wp2
    refine ret_cellM Tryd.results13 rfl (six _ _ _ _ _ _ HZ.out) ⟨_, rfl, by omega, HR2.out.kept (six_blk (by omega)), six_bel B2 (by omega)⟩
  · have hL : sgL path sum name z l n = headL path sum z l n := by unfold sgB at hB; unfold sgL; rw [hB]; rfl
    have hH : hokB path sum z l n = true := by unfold sgB at hB; simp only [Bool.and_eq_true] at hB; exact hB.1
    obtain ⟨hlen, hpos⟩ := head_len hH hp hsu hs
    obtain ⟨M, hM⟩ : ∃ M, headL path sum z l n = M := ⟨_, rfl⟩
    obtain ⟨S, hS⟩ : ∃ S, sg.sgV N D (sg.SV (inL M) M.length) = S := ⟨_, rfl⟩
    have e1 : sgK path sum key name z l n = name := by unfold sgK; rw [hB]; rfl
    have e2 : sgS path sum name z l n sig N D = S := by unfold sgS; rw [hB, hM, hS]; rfl
    rw [hL, hM] at HSG0
    rw [hM] at hlen hpos
    rw [e1, e2]
    have hne : ¬ M = [] := by intro h; rw [h] at hpos; exact absurd hpos (by simp)
    have hne2 : ((M.length : Int) == 0) = false := by simp [hne]
    have HSI : Hid (∀ W base g c, Bf base W g c M → Calls Tryd.prog 29 #[.agg #[.int .u64 (N : Int), .int .u64 (E : Int), .int .u64 (D : Int)], .slice (some ⟨g, 0, none⟩) M.length c] W fun e w' => e = .returned (.int .u64 (S : Int)) ∧ Below W.heap.size W w') := fun W base g c h => by
      have := sg.isign_any N E D hN hD (some ⟨g, 0, none⟩) M.length c (inL M) W (bs_of h) (by omega)
      rw [hS] at this
      exact this
    have HSG : Hid (Calls Tryd.prog 23 #[.agg #[.string path, .string sum, .int .i64 z, .slice a n cap, .string name, .int .u64 (sig : Int)]] W4 fun e w' => LineR W4.heap.size W4 w' e M) := HSG0
    rw [hW4] at HSG
    clear HSG0 hb hn hs hp hsu hk hnm hN hD hT hP hB hL e1 e2 hbw4 hz4 hS hM hH hlen hpos
    go_enter Tryd.func13, Tryd.ntmps13
    go_wp2_with (first | (go_at_call 23; refine HSG.out.mono ?_; rintro e w1 ⟨g1, cc1, z1, rfl, rfl, hbf1, hl1⟩; refine Hid.out ?_) | go_in)
    refine Lib.hid ?_
    rw [← hW4] at hl1 hbf1
    have HB1 : Hid (Bf W4.heap.size w1 g1 cc1 M) := hbf1
    clear hbf1 HSG
    obtain ⟨-, ⟨a0, a1, a2⟩, -, -⟩ := HFF.out _ hl1
    go_wp2_with (first | (go_at_call 29; refine (HSI.out _ _ _ _ HB1.out).mono ?_; rintro e w2 ⟨rfl, hl2⟩; refine Hid.out ?_) | go_in)
    refine Lib.hid ?_
    have C2 := hl1.trans (hl2.mono hl1.size)
    have h4 := HZ4.out
    have s2 := C2.size
    have B2 := HBW.out _ C2
    obtain ⟨-, -, ⟨z2, zf⟩, ⟨n2, nf⟩⟩ := HFF.out _ C2
    obtain ⟨m0, m1, m2, m3, m4, m5⟩ := n2
    have q5 := nf 5
    obtain ⟨W3, hW3⟩ : ∃ W3 : World, W3 = w2.setCell ⟨w.heap.size + 1 + 1 + 1, 5, none⟩ (.int .u64 (S : Int)) := ⟨_, rfl⟩
    have B3 : Below w.heap.size w W3 := by rw [hW3]; exact B2.setCell (show w.heap.size ≤ w.heap.size + 1 + 1 + 1 by omega) _
    have hs3 : w.heap.size + 4 ≤ W3.heap.size := by rw [hW3, World.size_setCell]; omega
    have HN3 : Hid (SixC W3 (w.heap.size + 1 + 1 + 1) (.string path) (.string sum) (.int .i64 z) (.slice a n cap) (.string name) (.int .u64 (S : Int))) := by
      rw [hW3]
      exact ⟨(oth (by omega)).trans m0, (oth (by omega)).trans m1, (oth (by omega)).trans m2, (oth (by omega)).trans m3, (oth (by omega)).trans m4, World.cell?_setCell_same _ _ _ m5⟩
    have HZ3 : Hid (SixC W3 (w.heap.size + 1 + 1) (.string ⟨#[]⟩) (.string ⟨#[]⟩) (.int .i64 0) (.slice none 0 0) (.string ⟨#[]⟩) (.int .u64 0)) := by
      rw [hW3]
      exact z2.far (by omega)
    have HF3 : Hid (∀ i, W3.frozen? ⟨w.heap.size + 1 + 1, i, none⟩ = false) := fun i => by
      rw [hW3, World.frozen?_of_block (a := ⟨w.heap.size + 1 + 1, i, none⟩) (blk_oth (show w.heap.size + 1 + 1 ≠ w.heap.size + 1 + 1 + 1 by omega))]
      exact zf i
    have HC3 : Hid (Calls Tryd.prog 28 #[.agg #[.string path, .string sum, .int .i64 z, .slice a n cap, .string name, .int .u64 (S : Int)]] W3 fun e w' => ∃ g, e = .returned (.agg #[.string path, .string sum, .int .i64 z, .slice (some ⟨g, 0, none⟩) n n, .string name, .int .u64 (S : Int)]) ∧ W3.heap.size ≤ g ∧ RwT w' g n l ∧ Below W3.heap.size W3 w') := HCL.out _ _ _ B3 HKN.out.2
    obtain ⟨x0, x1, x2, x3, x4, x5⟩ := HN3.out
    have HW3 : Hid (W3 = w2.setCell ⟨w.heap.size + 1 + 1 + 1, 5, none⟩ (.int .u64 (S : Int))) := hW3
    rw [hW3] at x0 x1 x2 x3 x4 x5
    clear z2 zf nf hl1 hl2 C2 B2 h4 HSI HB1 a0 a1 a2 HCL HKN HZ4 HFF HBW HN3 hW3 m0 m1 m2 m3 m4
    go_wp2_with (first | (go_at_call 28; rw [← HW3.out]; refine HC3.out.mono ?_; rintro e w4 ⟨g4, rfl, hg4, hr4, hl4⟩; refine Hid.out ?_) | go_in)
    refine Lib.hid ?_
    obtain ⟨k1, k2⟩ := bcell hl4
    have HR4 : Hid (RwT w4 g4 n l) := hr4
    have HZ : Hid (SixC w4 (w.heap.size + 1 + 1) (.string ⟨#[]⟩) (.string ⟨#[]⟩) (.int .i64 0) (.slice none 0 0) (.string ⟨#[]⟩) (.int .u64 0)) := by
      obtain ⟨y0, y1, y2, y3, y4, y5⟩ := HZ3.out
      exact ⟨(k1 _ _ (by omega)).trans y0, (k1 _ _ (by omega)).trans y1, (k1 _ _ (by omega)).trans y2, (k1 _ _ (by omega)).trans y3, (k1 _ _ (by omega)).trans y4, (k1 _ _ (by omega)).trans y5⟩
    have f1 : ∀ i, w4.frozen? ⟨w.heap.size + 1 + 1, i, none⟩ = false := fun i => (k2 _ _ (by omega)).trans (HF3.out i)
    obtain ⟨d0, d1, d2, d3, d4, d5⟩ := HZ.out
    have hgg : w.heap.size + 4 ≤ g4 := by omega
    have B4 := B3.trans (hl4.mono B3.size)
    clear hr4 hl4 k1 k2 HZ3 HF3 x0 x1 x2 x3 x4 x5 q5 m5
    go_wp2
    refine ret_cellM Tryd.results13 rfl (six _ _ _ _ _ _ HZ.out) ⟨_, rfl, by omega, HR4.out.kept (six_blk (by omega)), six_bel B4 (by omega)⟩

end Go.Proofs.YtheponigjofknaaDoor.mt
