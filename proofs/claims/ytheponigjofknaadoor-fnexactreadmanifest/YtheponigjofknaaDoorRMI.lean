import Derived.Test.YtheponigjofknaaDoorRMH
import Derived.Test.YtheponigjofknaaDoorML
namespace Go.Proofs.YtheponigjofknaaDoor.mt
open Go.ChangeShapes Go.WideShapes Go.ChangeAt Go.RowKit Go.Deep
set_option linter.unusedVariables false
set_option linter.unusedSimpArgs false

/-! ### FnExactReadManifest's walk -/

theorem rdM_len (s : ByteArray) : (rdM s.data.toList).l.length ≤ s.size := by
  by_cases h : ∃ M, Good s.data.toList M
  · obtain ⟨M, hg⟩ := h
    rw [(rd_yes hg).1, ← (good_read sI_itoa hg).2]
    obtain ⟨h1, h2, _⟩ := lnA_len s.data.toList []
    have hz : s.data.toList.length = s.size := by simp
    have := SzF.fold (f := sI) (lnA [] s.data.toList).1 0 M0 (SzF.zero s.size) (fun x hx => by have := h1 x hx; simp only [List.length_nil, Nat.zero_add] at this; omega)
    have := this.len
    omega
  · rw [(rd_no h).1]
    exact Nat.zero_le _
theorem RmR.rd {w w' : World} {s : ByteArray} {e : Ending} (h : RmR w w' s e) : RdR w w' s e := by
  obtain ⟨vr, h1, h2, h3⟩ := h
  refine ⟨vr, h1, ?_, h3⟩
  by_cases hv : vr = .slice none 0 0
  · subst hv
    obtain ⟨a, c, e⟩ := own_shape h2
    have hl : (rdM s.data.toList).l.length = 0 := by
      injection e with e1 e2 e3
      exact e2.symm
    exact .inl ⟨rfl, List.eq_nil_of_length_eq_zero hl⟩
  · obtain ⟨g, cap, e, hg, -, hr⟩ := own_Ss h2 hv
    exact .inr ⟨g, cap, e, hg, hr⟩

theorem GR.below {W W' : World} {lo : Nat} {v : Value} {l : List ByteArray} (h : GR W lo v l) (hb : Below W.heap.size W W') : GR W' lo v l := by
  rcases h with h | ⟨g, c, e, h1, h2⟩
  · exact .inl h
  · exact .inr ⟨g, c, e, h1, h2.below hb⟩
theorem GR.sl {W : World} {lo : Nat} {v : Value} {l : List ByteArray} (h : GR W lo v l) : ∃ a c, v = .slice a l.length c ∧ st.Ss W a l.length l := by
  rcases h with ⟨rfl, rfl⟩ | ⟨g, c, rfl, h1, h2⟩
  · exact ⟨_, _, rfl, .inl rfl⟩
  · exact ⟨_, _, rfl, h2.2⟩
theorem GR.own {W : World} {lo : Nat} {v : Value} {l : List ByteArray} (h : GR W lo v l) : ∀ k, v.ownBlock = some k → k < W.heap.size := fun k hk => by
  rcases h with ⟨rfl, rfl⟩ | ⟨g, c, rfl, h1, h2⟩
  · cases hk
  · cases hk
    exact h2.lt
theorem GR.kept {W W' : World} {lo : Nat} {v : Value} {l : List ByteArray} (h : GR W lo v l) (hk : ∀ k, v.ownBlock = some k → W'.heap[k]? = W.heap[k]?) : GR W' lo v l := by
  rcases h with h | ⟨g, c, rfl, h1, h2⟩
  · exact .inl h
  · exact .inr ⟨g, c, rfl, h1, h2.kept (hk g rfl)⟩
/-- The row is marked. -/
def Mk (W : World) (v : Value) (l : List ByteArray) : Prop := (v = .slice none 0 0 ∧ l = []) ∨ ∃ g c, v = .slice (some ⟨g, 0, none⟩) l.length c ∧ sr.MkR W g 0 l.length 1 l.length
theorem Mk.below {W W' : World} {v : Value} {l : List ByteArray} (h : Mk W v l) (hb : Below W.heap.size W W') : Mk W' v l := by
  rcases h with h | ⟨g, c, e, h2⟩
  · exact .inl h
  · exact .inr ⟨g, c, e, h2.below hb⟩

set_option maxRecDepth 100000 in
theorem mark0_any (w : World) :
    Calls Tryd.prog 30 #[.slice none 0 0, .int .i64 1] w fun e w' => e = .returned (.int .i64 1) ∧ w' = w := by
  go_enter Tryd.func30, Tryd.ntmps30
  go_wp2
  go_loopw [1, 5] (fun a x wr => a = .int .i64 1 ∧ x = .int .i64 0 ∧ wr = w) (fun _ _ _ => 0)
  case atStart => exact ⟨rfl, rfl, rfl⟩
  case round =>
    obtain ⟨rfl, rfl, rfl⟩ := hrel
    go_wp2
    go_ret
    exact ⟨rfl, rfl⟩
set_option maxRecDepth 100000 in
theorem held0_any (w : World) :
    Calls Tryd.prog 31 #[.slice none 0 0, .int .i64 1] w fun e w' => e = .returned (.int .i64 1) ∧ w' = w := by
  go_enter Tryd.func31, Tryd.ntmps31
  go_wp2
  go_loopw [1, 5] (fun a x wr => a = .int .i64 1 ∧ x = .int .i64 0 ∧ wr = w) (fun _ _ _ => 0)
  case atStart => exact ⟨rfl, rfl, rfl⟩
  case round =>
    obtain ⟨rfl, rfl, rfl⟩ := hrel
    go_wp2
    go_ret
    exact ⟨rfl, rfl⟩

set_option maxRecDepth 100000 in
theorem gmark_any (path sum K : ByteArray) (z : Int) (S : Nat) (v : Value) (lo : Nat) (l : List ByteArray) (M : Int) (hM : M = ((1 + l.length : Nat) : Int)) (w : World) (hr : GR w lo v l) (hn : l.length ≤ 1048576) :
    Calls Tryd.prog 14 #[.agg #[.string path, .string sum, .int .i64 z, v, .string K, .int .u64 (S : Int)], .int .i64 1] w fun e w' => e = .returned (.int .i64 M) ∧ Mk w' v l ∧ ∃ row, w.grownBy w' row ∧ ∀ k, row = some k → lo ≤ k ∧ v.ownBlock = some k := by
  rcases hr with ⟨rfl, rfl⟩ | ⟨g, c, rfl, hg, hr⟩
  · obtain rfl : M = 1 := hM
    have HGA : Hid (∀ o, w.grownBy (w.alloc o) none) := fun o => ⟨rfl, rfl, rfl, by simp, fun k hk _ => alloc_blk hk⟩
    go_enter Tryd.func14, Tryd.ntmps14
    go_wp2_with (first | (go_at_call 30; refine (mark0_any _).mono ?_; rintro e w1 ⟨rfl, rfl⟩) | go_in)
    go_ret
    exact ⟨rfl, .inl ⟨rfl, rfl⟩, none, HGA.out _, fun k e => by cases e⟩
  · refine (markM_any path sum K z S g l.length c M hM l w hr hn).mono ?_
    rintro e w' ⟨rfl, h1, h2⟩
    exact ⟨rfl, .inr ⟨g, c, rfl, h1⟩, some g, h2, fun k e => by cases e; exact ⟨hg, rfl⟩⟩
set_option maxRecDepth 100000 in
theorem gheld_any (path sum K : ByteArray) (z : Int) (S : Nat) (v : Value) (l : List ByteArray) (M : Int) (hM : M = ((1 + l.length : Nat) : Int)) (w : World) (hr : Mk w v l) (hn : l.length ≤ 1048576) :
    Calls Tryd.prog 15 #[.agg #[.string path, .string sum, .int .i64 z, v, .string K, .int .u64 (S : Int)], .int .i64 1] w fun e w' => e = .returned (.int .i64 M) ∧ Below w.heap.size w w' := by
  rcases hr with ⟨rfl, rfl⟩ | ⟨g, c, rfl, hr⟩
  · obtain rfl : M = 1 := hM
    have HGA : Hid (∀ o, Below w.heap.size w (w.alloc o)) := fun o => (Below.refl _ _).alloc (Nat.le_refl _) _
    go_enter Tryd.func15, Tryd.ntmps15
    go_wp2_with (first | (go_at_call 31; refine (held0_any _).mono ?_; rintro e w1 ⟨rfl, rfl⟩) | go_in)
    go_ret
    exact ⟨rfl, HGA.out _⟩
  · exact heldM_any path sum K z S g l.length c M hM w hr hn
theorem geq_any (path sum key : ByteArray) (z : Int) (sig : Nat) (l : List ByteArray) (v v' : Value) (lo lo' : Nat) (w : World) (hb : GR w lo v l) (hb' : GR w lo' v' l) (hn : l.length ≤ 1048576) :
    Calls Tryd.prog 10 #[.agg #[.string path, .string sum, .int .i64 z, v, .string key, .int .u64 (sig : Int)], .agg #[.string path, .string sum, .int .i64 z, v', .string key, .int .u64 (sig : Int)]] w fun e w' => e = .returned (.bool true) ∧ Below w.heap.size w w' := by
  obtain ⟨a, c, rfl, h⟩ := hb.sl
  obtain ⟨a', c', rfl, h'⟩ := hb'.sl
  exact eqM_any path sum key z sig l a a' l.length c c' w h h' hn

/-- A box with the answer. -/
theorem box6 {w : World} {v0 v1 v2 v3 v4 v5 : Value} {t : TypeId} : ∀ W, Below (w.alloc (.cells #[v0, v1, v2, v3, v4, v5] t)).heap.size (w.alloc (.cells #[v0, v1, v2, v3, v4, v5] t)) W → SixC W w.heap.size v0 v1 v2 v3 v4 v5 := six_all

set_option maxRecDepth 100000 in
set_option maxHeartbeats 4000000 in
theorem rd_law (s : ByteArray) (w : World) (hsl : s.size ≤ maxLen) (hE : EC w) (hML : ML w) (hT : wd.TabB w) (hP : PwT w) :
    Calls Tryd.prog 5 #[.string s] w fun e w' => e = .returned (.bool true) ∧ Below w.heap.size w w' := by
  by_cases hbig : 1048576 < s.size
  · have hb' : (1048576 : Int) < (s.size : Int) := by omega
    go_enter Tryd.func5, Tryd.ntmps5
    go_wp2
    go_ret
    exact ⟨rfl, Below.refl _ _⟩
  have hs : s.size ≤ 1048576 := by omega
  have hb' : ¬ (1048576 : Int) < (s.size : Int) := by omega
  have HSP := Lib.hid (fun W => (sread_any s hs W).mono (fun e w' h => h.rd))
  have HIM : Hid (∀ W, Below w.heap.size w W → Calls Tryd.prog 17 #[.string s] W fun e w' => RdR W w' s e) := fun W h => iread_any s hs W (hE.below h) (hML.below h) (hT.below h) (hP.below h)
  have hlen : (rdM s.data.toList).l.length ≤ 1048576 := Nat.le_trans (rdM_len s) hs
  unfold RdR at HSP HIM
  obtain ⟨M, hM⟩ : ∃ M, rdM s.data.toList = M := ⟨_, rfl⟩
  obtain ⟨ok, hok⟩ : ∃ ok, rdB s.data.toList = ok := ⟨_, rfl⟩
  rw [hM, hok] at HSP HIM
  rw [hM] at hlen
  have HLE := Lib.hid hlen
  obtain ⟨N, hN⟩ : ∃ N : Int, N = ((1 + M.l.length : Nat) : Int) := ⟨_, rfl⟩
  have HNN := Lib.hid hN
  have hN0 : ¬ N < 0 := by omega
  clear hM hok hlen hN hE hML hT hP hs hbig hsl
  obtain ⟨path, sum, key, z, sig, l, okk⟩ := M
  dsimp only at HSP HIM HLE HNN
  go_enter Tryd.func5, Tryd.ntmps5
  go_wp2_with (first | (go_at_call 16; refine (HSP.out _).mono ?_; rintro e w1 ⟨v1, rfl, hg1, hb1⟩; refine Hid.out ?_) | go_in)
  refine Lib.hid ?_
  obtain ⟨a1, c1, hv1, -⟩ := hg1.sl
  subst hv1
  obtain ⟨X1, hX1⟩ : ∃ X1 : World, X1 = w1.alloc (.cells #[.string path, .string sum, .int .i64 z, .slice a1 l.length c1, .string key, .int .u64 (sig : Int)] 28) := ⟨_, rfl⟩
  have bx1 : Below w1.heap.size w1 X1 := by rw [hX1]; exact (Below.refl _ _).alloc (Nat.le_refl _) _
  have hz1 : X1.heap.size = w1.heap.size + 1 := by rw [hX1, World.size_alloc]
  have HB1 : Hid (Below w.heap.size w X1) := hb1.trans (bx1.mono hb1.size)
  have HO1 : Hid (∀ k, (.slice a1 l.length c1 : Value).ownBlock = some k → k < w1.heap.size) := fun k => hg1.own k
  have HG1 : Hid (GR X1 w.heap.size (.slice a1 l.length c1) l) := hg1.below bx1
  have HK1 : Hid (∀ W, Below X1.heap.size X1 W → SixC W w1.heap.size (.string path) (.string sum) (.int .i64 z) (.slice a1 l.length c1) (.string key) (.int .u64 (sig : Int))) := by rw [hX1]; exact box6
  have HI1 := Lib.hid (HIM.out X1 HB1.out)
  have HZ1 := Lib.hid hz1
  rw [hX1] at HI1
  clear hg1 hb1 bx1 hz1
  go_wp2_with (first | (go_at_call 17; refine HI1.out.mono ?_; rintro e w2 ⟨v2, rfl, hg2, hb2⟩; refine Hid.out ?_) | go_in)
  refine Lib.hid ?_
  rw [← hX1] at hg2 hb2
  obtain ⟨a2, c2, hv2, -⟩ := hg2.sl
  subst hv2
  obtain ⟨X2, hX2⟩ : ∃ X2 : World, X2 = w2.alloc (.cells #[.string path, .string sum, .int .i64 z, .slice a2 l.length c2, .string key, .int .u64 (sig : Int)] 28) := ⟨_, rfl⟩
  have bx2 : Below w2.heap.size w2 X2 := by rw [hX2]; exact (Below.refl _ _).alloc (Nat.le_refl _) _
  have b12 : Below X1.heap.size X1 X2 := hb2.trans (bx2.mono hb2.size)
  have HO2 : Hid (∀ k, (.slice a2 l.length c2 : Value).ownBlock = some k → k < w2.heap.size) := fun k => hg2.own k
  have HG2 : Hid (GR X2 X1.heap.size (.slice a2 l.length c2) l) := hg2.below bx2
  have HZ2 : Hid (X1.heap.size ≤ w2.heap.size ∧ X2.heap.size = w2.heap.size + 1) := ⟨hb2.size, by rw [hX2, World.size_alloc]⟩
  have HK2 : Hid (∀ W, Below X2.heap.size X2 W → SixC W w2.heap.size (.string path) (.string sum) (.int .i64 z) (.slice a2 l.length c2) (.string key) (.int .u64 (sig : Int))) := by rw [hX2]; exact box6
  have HB2 : Hid (Below X1.heap.size X1 X2) := b12
  have HEQ := Lib.hid (geq_any path sum key z sig l (.slice a2 l.length c2) (.slice a1 l.length c1) _ _ X2 HG2.out (HG1.out.below b12) HLE.out)
  have hs1 := HK1.out _ b12
  have hs2 := HK2.out _ (Below.refl _ _)
  rw [hX2] at HEQ hs1 hs2
  obtain ⟨p0, p1, p2, p3, p4, p5⟩ := hs1
  obtain ⟨q0, q1, q2, q3, q4, q5⟩ := hs2
  clear hg2 hb2 bx2 b12 HI1 hX1
  go_wp2_with (first | (go_at_call 10; refine HEQ.out.mono ?_; rintro e w3 ⟨rfl, hb3⟩; refine Hid.out ?_) | go_in)
  refine Lib.hid ?_
  rw [← hX2] at hb3
  have HB3 : Hid (Below X2.heap.size X2 w3) := hb3
  have HMK := Lib.hid (gmark_any path sum key z sig (.slice a2 l.length c2) _ l N HNN.out w3 (HG2.out.below hb3) HLE.out)
  clear p0 p1 p2 p3 p4 p5 q0 q1 q2 q3 q4 q5 HEQ hX2
  obtain ⟨q0, q1, q2, q3, q4, q5⟩ := HK2.out _ hb3
  clear hb3
  go_wp2_with (first | (go_at_call 14; refine HMK.out.mono ?_; rintro e w4 ⟨rfl, hm4, row, hg4, hr4⟩; refine Hid.out ?_) | go_in)
  refine Lib.hid ?_
  clear q0 q1 q2 q3 q4 q5
  have HK4 : Hid (∀ W, Below w4.heap.size w4 W → (SixC W w1.heap.size (.string path) (.string sum) (.int .i64 z) (.slice a1 l.length c1) (.string key) (.int .u64 (sig : Int))) ∧ (SixC W w2.heap.size (.string path) (.string sum) (.int .i64 z) (.slice a2 l.length c2) (.string key) (.int .u64 (sig : Int))) ∧ GR W w.heap.size (.slice a1 l.length c1) l ∧ Mk W (.slice a2 l.length c2) l ∧ Below w.heap.size w W) := fun W h => by
    have z1 := HZ1.out
    obtain ⟨z2, z3⟩ := HZ2.out
    have z4 := HB3.out.size
    have z5 := hg4.size
    have hrr : ∀ k, row = some k → X1.heap.size ≤ k ∧ k < w2.heap.size := fun k e => ⟨(hr4 k e).1, HO2.out k (hr4 k e).2⟩
    have b13 : Below X1.heap.size X1 w3 := HB2.out.trans (HB3.out.mono HB2.out.size)
    have k1 := (HK1.out _ b13).kept (hg4.block w1.heap.size (by omega) (fun e => by have := hrr _ e.symm; omega))
    have k2 := (HK2.out _ HB3.out).kept (hg4.block w2.heap.size (by omega) (fun e => by have := hrr _ e.symm; omega))
    have g1 : GR w4 w.heap.size (.slice a1 l.length c1) l := (HG1.out.below b13).kept (fun k hk => hg4.block k (by have := HO1.out k hk; omega) (fun e => by have := hrr _ e.symm; have := HO1.out k hk; omega))
    have b3 : Below w.heap.size w w3 := HB1.out.trans (b13.mono HB1.out.size)
    have b4 : Below w.heap.size w w4 := b3.grown hg4 b3.size (fun k e => by have := (hrr k e).1; have := HB1.out.size; omega)
    exact ⟨k1.belowM h, k2.belowM h, g1.below h, hm4.below h, b4.trans (h.mono b4.size)⟩
  clear hm4 hg4 hr4 HMK HK1 HK2 HG1 HG2 HO1 HO2 HB1 HB2 HB3 HZ1 HZ2
  obtain ⟨-, ⟨q0, q1, q2, q3, q4, q5⟩, -, hk4, -⟩ := HK4.out _ (Below.refl _ _)
  have HH4 := Lib.hid (gheld_any path sum key z sig (.slice a2 l.length c2) l N HNN.out w4 hk4 HLE.out)
  clear hk4
  go_wp2_with (first | (go_at_call 15; refine HH4.out.mono ?_; rintro e w5 ⟨rfl, hb5⟩; refine Hid.out ?_) | go_in)
  refine Lib.hid ?_
  clear q0 q1 q2 q3 q4 q5 HH4
  have HB5 : Hid (Below w4.heap.size w4 w5) := hb5
  have HI5 := Lib.hid (HIM.out w5 (HK4.out _ hb5).2.2.2.2)
  clear hb5 HIM HSP
  go_wp2_with (first | (go_at_call 17; refine HI5.out.mono ?_; rintro e w6 ⟨v3, rfl, hg6, hb6⟩; refine Hid.out ?_) | go_in)
  refine Lib.hid ?_
  obtain ⟨a3, c3, hv3, -⟩ := hg6.sl
  subst hv3
  obtain ⟨X6, hX6⟩ : ∃ X6 : World, X6 = w6.alloc (.cells #[.string path, .string sum, .int .i64 z, .slice a3 l.length c3, .string key, .int .u64 (sig : Int)] 28) := ⟨_, rfl⟩
  have bx6 : Below w6.heap.size w6 X6 := by rw [hX6]; exact (Below.refl _ _).alloc (Nat.le_refl _) _
  have b46 : Below w4.heap.size w4 w6 := HB5.out.trans (hb6.mono HB5.out.size)
  have b4X : Below w4.heap.size w4 X6 := b46.trans (bx6.mono b46.size)
  have HBX : Hid (Below w4.heap.size w4 X6) := b4X
  obtain ⟨hs1, -, hg1, -, -⟩ := HK4.out _ b4X
  have hs3 : SixC X6 w6.heap.size (.string path) (.string sum) (.int .i64 z) (.slice a3 l.length c3) (.string key) (.int .u64 (sig : Int)) := (by rw [hX6]; exact box6 _ (Below.refl _ _))
  have HEQ := Lib.hid (geq_any path sum key z sig l (.slice a3 l.length c3) (.slice a1 l.length c1) _ _ X6 (hg6.below bx6) hg1 HLE.out)
  rw [hX6] at HEQ hs1 hs3
  obtain ⟨p0, p1, p2, p3, p4, p5⟩ := hs1
  obtain ⟨q0, q1, q2, q3, q4, q5⟩ := hs3
  clear hg6 hb6 bx6 b46 b4X hg1 HI5
  go_wp2_with (first | (go_at_call 10; refine HEQ.out.mono ?_; rintro e w7 ⟨rfl, hb7⟩; refine Hid.out ?_) | go_in)
  refine Lib.hid ?_
  rw [← hX6] at hb7
  have HB7 : Hid (Below w4.heap.size w4 w7) := HBX.out.trans (hb7.mono HBX.out.size)
  clear p0 p1 p2 p3 p4 p5 q0 q1 q2 q3 q4 q5 HEQ hX6 hb7
  obtain ⟨-, ⟨q0, q1, q2, q3, q4, q5⟩, -, hk7, -⟩ := HK4.out _ HB7.out
  have HH7 := Lib.hid (gheld_any path sum key z sig (.slice a2 l.length c2) l N HNN.out w7 hk7 HLE.out)
  clear hk7
  go_wp2_with (first | (go_at_call 15; refine HH7.out.mono ?_; rintro e w8 ⟨rfl, hb8⟩; refine Hid.out ?_) | go_in)
  refine Lib.hid ?_
  have B8 := (HK4.out _ (HB7.out.trans (hb8.mono HB7.out.size))).2.2.2.2
  clear hb8
  go_wp2
  go_ret
  exact ⟨rfl, B8⟩

end Go.Proofs.YtheponigjofknaaDoor.mt
