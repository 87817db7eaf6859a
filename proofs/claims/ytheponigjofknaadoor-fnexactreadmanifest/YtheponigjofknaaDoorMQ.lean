import Derived.Test.YtheponigjofknaaDoorMP
import Derived.Deep.RegionHeld3
namespace Go.Proofs.YtheponigjofknaaDoor.mt
open Go.ChangeShapes Go.WideShapes Go.ChangeAt Go.RowKit Go.Deep
open bf
set_option linter.unusedVariables false
set_option linter.unusedSimpArgs false

/-! ### The specification's SignManifest -/

theorem vS_one (l : List ByteArray) (n : Nat) : ∀ u ∈ vS l n, u.oneCell' = true := by
  intro u hu
  obtain ⟨x, _, rfl⟩ := List.mem_map.1 hu
  rfl
theorem vS_news {w : World} {g m : Nat} {l : List ByteArray} (h : st.Ss w (some ⟨g, 0, none⟩) m l) : ∀ j u, (vS l m)[j]? = some u → w.cell? ((⟨g, 0, none⟩ : Addr).add j) = some u := by
  intro j u hu
  have hj : j < m := by have := (List.getElem?_eq_some_iff.1 hu).1; rwa [vS_len] at this
  have hu' : u = .string (st.atS l j) := by simpa [vS, hj] using hu.symm
  subst hu'
  rcases h with rfl | ⟨b, off, e, hc⟩
  · omega
  · cases e
    rw [addr_add]
    exact hc j hj
/-- An append of a row of texts to an empty row that is not nil. -/
theorem app_new (w : World) {ops : Array Oper} {rest : List Oper} {o : Oper} {a : Act} {Q : Exit → Act → World → Prop} (hgd : o.guard = none) (s x : Operand)
    (ho : o.op = .call { callee := .builtin .append, args := #[s, x], argTypes := #[22, 22] })
    (b0 g m c : Nat) (hs : a.eval s = .slice (some ⟨b0, 0, none⟩) 0 0) (hown : w.ownsRow b0 9 1 (.slice (some ⟨b0, 0, none⟩) 0 0) 0 [])
    (l : List ByteArray) (hx : a.eval x = .slice (some ⟨g, 0, none⟩) m c) (hnews : st.Ss w (some ⟨g, 0, none⟩) m l) (hlen : m ≤ 1048576) (hbase : b0 ≤ w.heap.size)
    (h : ∀ g' c' w', b0 ≤ g' → RwT w' g' m l → g' < w'.heap.size → w.grownBy w' (some b0) → wpList Tryd.prog ops Q rest (a.put o.dst (.slice (some ⟨g', 0, none⟩) m c')) w') : wpList Tryd.prog ops Q (o :: rest) a w := by
  obtain ⟨i0, hi, hz0, hz1, hz2⟩ := sr.info_parts sr.info9
  refine wpList_append_own w hgd s x 22 ho b0 9 i0 _ 1 16 Tryd.underlying22 hi hz0 hz1 hz2 rfl (by omega) _ 0 [] hs hown ⟨g, 0, none⟩ m c (vS l m) hx (by rw [vS_len]; omega) (vS_news hnews) (vS_one l m) (by unfold maxLen; omega) (by omega) hbase ?_
  intro v' w' h1 h2 h3
  rw [Nat.zero_add, List.nil_append] at h1
  have h0 := h1
  obtain ⟨hl, h'⟩ := h1
  rcases h' with ⟨e, _⟩ | ⟨g', cap, cur, rfl, hb, hg, hc, hm, hz, ht⟩
  · have := (h3.1 e).1
    cases this
  · have hk := World.ownsRow.cells (w := w') (base := b0) (e := 9) (size := 1) (n := m) (xs := vS l m) h0 (g := g') rfl
    refine h g' cap w' hb ⟨⟨cur, hg, by omega⟩, .inr ⟨g', 0, rfl, fun i hi => ?_⟩⟩ (Array.getElem?_eq_some_iff.1 hg).1 h2
    have := hk i (.string (st.atS l i)) (by simp [vS, hi])
    rwa [addr_add] at this

set_option maxRecDepth 100000 in
set_option maxHeartbeats 4000000 in
theorem ssign_any (path sum key name : ByteArray) (z : Int) (sig N E D : Nat) (l : List ByteArray) (g0 n cap : Nat) (w : World) (hb : st.Ss w (some ⟨g0, 0, none⟩) n l) (hn : n ≤ 1048576) (hs : ∀ i, i < n → (st.atS l i).size ≤ 1048576) (hp : path.size ≤ 1048576) (hsu : sum.size ≤ 1048576) (hk : key.size ≤ 1048576) (hnm : name.size ≤ 1048576) (hN : N < 18446744073709551616) (hD : D < 18446744073709551616) :
    Calls Tryd.prog 11 #[.agg #[.string path, .string sum, .int .i64 z, .slice (some ⟨g0, 0, none⟩) n cap, .string key, .int .u64 (sig : Int)], .string name, .agg #[.int .u64 (N : Int), .int .u64 (E : Int), .int .u64 (D : Int)]] w fun e w' => ∃ g c, e = .returned (.agg #[.string path, .string sum, .int .i64 z, .slice (some ⟨g, 0, none⟩) n c, .string (sgK path sum key name z l n), .int .u64 ((sgS path sum name z l n sig N D : Nat) : Int)]) ∧ w.heap.size ≤ g ∧ RwT w' g n l ∧ Below w.heap.size w w' := by
  obtain ⟨W4, hW4⟩ : ∃ W4 : World, W4 = (((w.alloc (.cells #[.string path, .string sum, .int .i64 z, .slice (some ⟨g0, 0, none⟩) n cap, .string key, .int .u64 (sig : Int)] 28)).alloc (.cells #[.int .u64 (N : Int), .int .u64 (E : Int), .int .u64 (D : Int)] 35)).alloc (.cells #[.string ⟨#[]⟩, .string ⟨#[]⟩, .int .i64 0, .slice none 0 0, .string ⟨#[]⟩, .int .u64 0] 28)).alloc (.cells #[.string path, .string sum, .int .i64 z, .slice (some ⟨g0, 0, none⟩) n cap, .string key, .int .u64 (sig : Int)] 28) := ⟨_, rfl⟩
  have HFF := four_facts hW4
  obtain ⟨hz4, hbw4⟩ := four_size hW4
  have HBW : Hid (∀ W, Below W4.heap.size W4 W → Below w.heap.size w W) := fun W h => hbw4.trans (h.mono hbw4.size)
  have HF4 : Hid (∀ W, Below W4.heap.size W4 W → (W.cell? ⟨w.heap.size + 1, 0, none⟩ = some (.int .u64 (N : Int)) ∧ W.cell? ⟨w.heap.size + 1, 1, none⟩ = some (.int .u64 (E : Int)) ∧ W.cell? ⟨w.heap.size + 1, 2, none⟩ = some (.int .u64 (D : Int))) ∧ (SixC W (w.heap.size + 1 + 1) (.string ⟨#[]⟩) (.string ⟨#[]⟩) (.int .i64 0) (.slice none 0 0) (.string ⟨#[]⟩) (.int .u64 0) ∧ ∀ i, W.frozen? ⟨w.heap.size + 1 + 1, i, none⟩ = false) ∧ (SixC W (w.heap.size + 1 + 1 + 1) (.string path) (.string sum) (.int .i64 z) (.slice (some ⟨g0, 0, none⟩) n cap) (.string key) (.int .u64 (sig : Int)) ∧ ∀ i, W.frozen? ⟨w.heap.size + 1 + 1 + 1, i, none⟩ = false)) := fun W h => (HFF W h).2
  have b5 : Below W4.heap.size W4 (W4.alloc (.cells #[] 9)) := (Below.refl _ _).alloc (Nat.le_refl _) _
  have HOW : Hid ((W4.alloc (.cells #[] 9)).ownsRow (w.heap.size + 1 + 1 + 1 + 1) 9 1 (.slice (some ⟨w.heap.size + 1 + 1 + 1 + 1, 0, none⟩) 0 0) 0 []) := by
    have := World.ownsRow_made (base := W4.heap.size) (e := 9) (size := 1) W4 #[] 0 (Nat.le_refl _) (by decide) rfl
    rw [show W4.heap.size = w.heap.size + 1 + 1 + 1 + 1 by omega] at this
    exact this
  have HSS : Hid (st.Ss (W4.alloc (.cells #[] 9)) (some ⟨g0, 0, none⟩) n l) := hb.below (hbw4.trans (b5.mono hbw4.size))
  have HSZ : Hid (w.heap.size + 1 + 1 + 1 + 1 ≤ (W4.alloc (.cells #[] 9)).heap.size) := by show _ ≤ _; rw [World.size_alloc]; omega
  have HNN : Hid (n ≤ 1048576) := hn
  have HGR : Hid (∀ w1, (W4.alloc (.cells #[] 9)).grownBy w1 (some (w.heap.size + 1 + 1 + 1 + 1)) → Below W4.heap.size W4 w1) := fun w1 h => b5.grown h b5.size (fun k hk => by cases hk; omega)
  have HSO : Hid (∀ W g c, st.Ss W (some ⟨g, 0, none⟩) n l → Calls Tryd.prog 19 #[.agg #[.string path, .string sum, .int .i64 z, .slice (some ⟨g, 0, none⟩) n c, .string name, .int .u64 (sig : Int)]] W fun e w' => e = .returned (.bool (sgB path sum name z l n)) ∧ Below W.heap.size W w') := fun W g c h => sok_any path sum name z sig l _ n c W h hn hs hp hsu hnm
  have HZ4 : Hid (W4.heap.size = w.heap.size + 4) := hz4
  have HHd : Hid (sgB path sum name z l n = true → (headL path sum z l n).length ≤ 320000000 ∧ ∀ W g c, st.Ss W (some ⟨g, 0, none⟩) n l → Calls Tryd.prog 20 #[.agg #[.string path, .string sum, .int .i64 z, .slice (some ⟨g, 0, none⟩) n c, .string name, .int .u64 (sig : Int)]] W fun e w' => e = .returned (.string ⟨(headL path sum z l n).toArray⟩) ∧ Below W.heap.size W w') := fun hB => by
    have hH : hokB path sum z l n = true := by unfold sgB at hB; simp only [Bool.and_eq_true] at hB; exact hB.1
    obtain ⟨h3, hz0, hz1⟩ := hok_parts hH
    exact ⟨(head_len hH hp hsu hs).1, fun W g c h => shd_any path sum name z sig l _ n c W h h3 hs hp hsu hz0 hz1⟩
  have HND : Hid (N < 18446744073709551616 ∧ D < 18446744073709551616) := ⟨hN, hD⟩
  clear HFF hb hn hs hp hsu hk hnm hN hD hbw4 hz4 b5
  rw [hW4] at HOW HSS HSZ
  go_enter Tryd.func11, Tryd.ntmps11
  go_wp2_with (first
    | (at_builtin; refine app_new _ rfl _ _ rfl (w.heap.size + 1 + 1 + 1 + 1) g0 n cap rfl HOW.out l rfl HSS.out HNN.out HSZ.out ?_
       intro g1 c1 w1 hg1 hs1 hlt1 hgr; refine Hid.out ?_)
    | go_in)
  refine Lib.hid ?_
  rw [← hW4] at hgr
  have C1 := HGR.out _ hgr
  have h4 := HZ4.out
  have hsz1 := C1.size
  obtain ⟨⟨e0, e1, e2⟩, ⟨zz, zf⟩, ⟨⟨m0, m1, m2, m3, m4, m5⟩, nf⟩⟩ := HF4.out _ C1
  have q3 := nf 3
  have HSV : Hid (RwT w1 g1 n l) := hs1
  have HB1 : Hid (Below w.heap.size w w1) := HBW.out _ C1
  obtain ⟨W7, hW7⟩ : ∃ W7 : World, W7 = (w1.setCell ⟨w.heap.size + 1 + 1 + 1, 3, none⟩ (.slice (some ⟨g1, 0, none⟩) n c1)).alloc (.cells #[.string path, .string sum, .int .i64 z, .slice (some ⟨g1, 0, none⟩) n c1, .string name, .int .u64 (sig : Int)] 28) := ⟨_, rfl⟩
  have HF7 : Hid (∀ W, Below W7.heap.size W7 W → (W.cell? ⟨w.heap.size + 1, 0, none⟩ = some (.int .u64 (N : Int)) ∧ W.cell? ⟨w.heap.size + 1, 1, none⟩ = some (.int .u64 (E : Int)) ∧ W.cell? ⟨w.heap.size + 1, 2, none⟩ = some (.int .u64 (D : Int))) ∧ (SixC W (w.heap.size + 1 + 1) (.string ⟨#[]⟩) (.string ⟨#[]⟩) (.int .i64 0) (.slice none 0 0) (.string ⟨#[]⟩) (.int .u64 0) ∧ ∀ i, W.frozen? ⟨w.heap.size + 1 + 1, i, none⟩ = false) ∧ SixC W (w.heap.size + 1 + 1 + 1) (.string path) (.string sum) (.int .i64 z) (.slice (some ⟨g1, 0, none⟩) n c1) (.string key) (.int .u64 (sig : Int)) ∧ SixC W w1.heap.size (.string path) (.string sum) (.int .i64 z) (.slice (some ⟨g1, 0, none⟩) n c1) (.string name) (.int .u64 (sig : Int)) ∧ (∀ i, W.frozen? ⟨w1.heap.size, i, none⟩ = false) ∧ RwT W g1 n l ∧ Below w.heap.size w W) := fun W h => by
    have hsz7 : W7.heap.size = w1.heap.size + 1 := by rw [hW7, World.size_alloc, World.size_setCell]
    obtain ⟨W6, hW6⟩ : ∃ W6 : World, W6 = w1.setCell ⟨w.heap.size + 1 + 1 + 1, 3, none⟩ (.slice (some ⟨g1, 0, none⟩) n c1) := ⟨_, rfl⟩
    have hs6 : W6.heap.size = w1.heap.size := by rw [hW6, World.size_setCell]
    have B67 : Below W6.heap.size W6 W := by
      have h67 : Below W6.heap.size W6 W7 := by rw [hW7, ← hW6]; exact (Below.refl _ _).alloc (Nat.le_refl _) _
      exact h67.trans (h.mono h67.size)
    obtain ⟨k1, k2⟩ := bcell B67
    obtain ⟨j1, j2⟩ := bcell h
    have fc : ∀ c i, c ≠ w.heap.size + 1 + 1 + 1 → W6.cell? ⟨c, i, none⟩ = w1.cell? ⟨c, i, none⟩ := fun c i hc => by rw [hW6]; exact mt.far (fun e => hc e.symm)
    have ff : ∀ c i, c ≠ w.heap.size + 1 + 1 + 1 → W6.frozen? ⟨c, i, none⟩ = w1.frozen? ⟨c, i, none⟩ := fun c i hc => by rw [hW6]; exact World.frozen?_of_block (a := ⟨c, i, none⟩) (blk_oth hc)
    obtain ⟨y0, y1, y2, y3, y4, y5⟩ := zz
    refine ⟨⟨?_, ?_, ?_⟩, ⟨⟨?_, ?_, ?_, ?_, ?_, ?_⟩, fun i => ?_⟩, ⟨?_, ?_, ?_, ?_, ?_, ?_⟩, ⟨?_, ?_, ?_, ?_, ?_, ?_⟩, fun i => ?_, ?_, ?_⟩
    · exact ((k1 _ _ (by omega)).trans (fc _ _ (by omega))).trans e0
    · exact ((k1 _ _ (by omega)).trans (fc _ _ (by omega))).trans e1
    · exact ((k1 _ _ (by omega)).trans (fc _ _ (by omega))).trans e2
    · exact ((k1 _ _ (by omega)).trans (fc _ _ (by omega))).trans y0
    · exact ((k1 _ _ (by omega)).trans (fc _ _ (by omega))).trans y1
    · exact ((k1 _ _ (by omega)).trans (fc _ _ (by omega))).trans y2
    · exact ((k1 _ _ (by omega)).trans (fc _ _ (by omega))).trans y3
    · exact ((k1 _ _ (by omega)).trans (fc _ _ (by omega))).trans y4
    · exact ((k1 _ _ (by omega)).trans (fc _ _ (by omega))).trans y5
    · exact ((k2 _ _ (by omega)).trans (ff _ _ (by omega))).trans (zf i)
    · exact (k1 _ _ (by omega)).trans (by rw [hW6]; exact (oth (by omega)).trans m0)
    · exact (k1 _ _ (by omega)).trans (by rw [hW6]; exact (oth (by omega)).trans m1)
    · exact (k1 _ _ (by omega)).trans (by rw [hW6]; exact (oth (by omega)).trans m2)
    · exact (k1 _ _ (by omega)).trans (by rw [hW6]; exact World.cell?_setCell_same _ _ _ m3)
    · exact (k1 _ _ (by omega)).trans (by rw [hW6]; exact (oth (by omega)).trans m4)
    · exact (k1 _ _ (by omega)).trans (by rw [hW6]; exact (oth (by omega)).trans m5)
    · exact (j1 _ _ (by omega)).trans (by rw [hW7, ← hW6, ← hs6]; simp [go_sem])
    · exact (j1 _ _ (by omega)).trans (by rw [hW7, ← hW6, ← hs6]; simp [go_sem])
    · exact (j1 _ _ (by omega)).trans (by rw [hW7, ← hW6, ← hs6]; simp [go_sem])
    · exact (j1 _ _ (by omega)).trans (by rw [hW7, ← hW6, ← hs6]; simp [go_sem])
    · exact (j1 _ _ (by omega)).trans (by rw [hW7, ← hW6, ← hs6]; simp [go_sem])
    · exact (j1 _ _ (by omega)).trans (by rw [hW7, ← hW6, ← hs6]; simp [go_sem])
    · exact (j2 _ _ (by omega)).trans (by rw [hW7, ← hW6, ← hs6]; simp [go_sem])
    · exact (HSV.out.kept (by rw [hW6]; exact blk_oth (by omega))).below B67
    · have b6 : Below w.heap.size w W6 := by rw [hW6]; exact HB1.out.setCell (show w.heap.size ≤ w.heap.size + 1 + 1 + 1 by omega) _
      exact b6.trans (B67.mono b6.size)
  have HSZ1 : Hid (w.heap.size + 4 ≤ w1.heap.size ∧ w.heap.size + 4 ≤ g1 ∧ g1 < w1.heap.size ∧ W7.heap.size = w1.heap.size + 1) := ⟨by omega, by omega, hlt1, by rw [hW7, World.size_alloc, World.size_setCell]⟩
  obtain ⟨hsz14, hg14, hg1l, hsz7⟩ := HSZ1.out
  have HSO7 : Hid (Calls Tryd.prog 19 #[.agg #[.string path, .string sum, .int .i64 z, .slice (some ⟨g1, 0, none⟩) n c1, .string name, .int .u64 (sig : Int)]] W7 fun e w' => e = .returned (.bool (sgB path sum name z l n)) ∧ Below W7.heap.size W7 w') := HSO.out _ _ _ (HF7.out _ (Below.refl _ _)).2.2.2.2.2.1.2
  have HW7 : Hid (W7 = (w1.setCell ⟨w.heap.size + 1 + 1 + 1, 3, none⟩ (.slice (some ⟨g1, 0, none⟩) n c1)).alloc (.cells #[.string path, .string sum, .int .i64 z, .slice (some ⟨g1, 0, none⟩) n c1, .string name, .int .u64 (sig : Int)] 28)) := hW7
  clear hW7 hs1 hlt1 hgr C1 h4 hsz1 e0 e1 e2 zz zf nf HSV HB1 HSO HGR HSZ HSS HOW HF4 HBW hg1 hsz14 hg14 hg1l hsz7
  have r0 : (w1.setCell ⟨w.heap.size + 1 + 1 + 1, 3, none⟩ (.slice (some ⟨g1, 0, none⟩) n c1)).cell? ⟨w.heap.size + 1 + 1 + 1, 0, none⟩ = some (.string path) := (oth (by omega)).trans m0
  have r1 : (w1.setCell ⟨w.heap.size + 1 + 1 + 1, 3, none⟩ (.slice (some ⟨g1, 0, none⟩) n c1)).cell? ⟨w.heap.size + 1 + 1 + 1, 1, none⟩ = some (.string sum) := (oth (by omega)).trans m1
  have r2 : (w1.setCell ⟨w.heap.size + 1 + 1 + 1, 3, none⟩ (.slice (some ⟨g1, 0, none⟩) n c1)).cell? ⟨w.heap.size + 1 + 1 + 1, 2, none⟩ = some (.int .i64 z) := (oth (by omega)).trans m2
  have r3 : (w1.setCell ⟨w.heap.size + 1 + 1 + 1, 3, none⟩ (.slice (some ⟨g1, 0, none⟩) n c1)).cell? ⟨w.heap.size + 1 + 1 + 1, 3, none⟩ = some (.slice (some ⟨g1, 0, none⟩) n c1) := World.cell?_setCell_same _ _ _ m3
  have r4 : (w1.setCell ⟨w.heap.size + 1 + 1 + 1, 3, none⟩ (.slice (some ⟨g1, 0, none⟩) n c1)).cell? ⟨w.heap.size + 1 + 1 + 1, 4, none⟩ = some (.string key) := (oth (by omega)).trans m4
  have r5 : (w1.setCell ⟨w.heap.size + 1 + 1 + 1, 3, none⟩ (.slice (some ⟨g1, 0, none⟩) n c1)).cell? ⟨w.heap.size + 1 + 1 + 1, 5, none⟩ = some (.int .u64 (sig : Int)) := (oth (by omega)).trans m5
  have hss : (w1.setCell ⟨w.heap.size + 1 + 1 + 1, 3, none⟩ (.slice (some ⟨g1, 0, none⟩) n c1)).heap.size = w1.heap.size := World.size_setCell _ _ _
  cases hB : sgB path sum name z l n
  · have k1 : sgK path sum key name z l n = key := by unfold sgK; rw [hB]; rfl
    have k2 : sgS path sum name z l n sig N D = sig := by unfold sgS; rw [hB]; rfl
    have HK1 : Hid (sgK path sum key name z l n = _) := k1
    have HK2 : Hid (sgS path sum name z l n sig N D = _) := k2
    rw [hB] at HSO7
    clear k1 k2 hB HHd HND
    go_wp2_with (first | (go_at_call 19; rw [← HW7.out]; refine HSO7.out.mono ?_; rintro e w2 ⟨rfl, C2⟩; refine Hid.out ?_) | go_in)
    refine Lib.hid ?_
    clear r0 r1 r2 r3 r4 r5 hss m0 m1 m2 m3 m4 m5
    obtain ⟨-, ⟨⟨d0, d1, d2, d3, d4, d5⟩, f1⟩, ⟨a0, a1, a2, a3, a4, a5⟩, -, -, hsv, B2⟩ := HF7.out _ C2
    have HZ : Hid (SixC w2 (w.heap.size + 1 + 1) (.string ⟨#[]⟩) (.string ⟨#[]⟩) (.int .i64 0) (.slice none 0 0) (.string ⟨#[]⟩) (.int .u64 0)) := ⟨d0, d1, d2, d3, d4, d5⟩
    have HSV : Hid (RwT w2 g1 n l) := hsv
    have HB2 : Hid (Below w.heap.size w w2) := B2
    clear hsv B2
    go_wp2
    obtain ⟨-, hg14, -, -⟩ := HSZ1.out
    refine ret_cellM Tryd.results11 rfl (six _ _ _ _ _ _ HZ.out) ⟨_, _, by rw [HK1.out, HK2.out], by omega, HSV.out.kept (six_blk (by omega)), six_bel HB2.out (by omega)⟩
  · obtain ⟨hlen, hsh⟩ := HHd.out hB
    obtain ⟨hN, hD⟩ := HND.out
    obtain ⟨M, hM⟩ : ∃ M, headL path sum z l n = M := ⟨_, rfl⟩
    obtain ⟨S, hS⟩ : ∃ S, sg.sgV N D (sg.SV (inL M) M.length) = S := ⟨_, rfl⟩
    have k1 : sgK path sum key name z l n = name := by unfold sgK; rw [hB]; rfl
    have k2 : sgS path sum name z l n sig N D = S := by unfold sgS; rw [hB, hM, hS]; rfl
    have HK1 : Hid (sgK path sum key name z l n = _) := k1
    have HK2 : Hid (sgS path sum name z l n sig N D = _) := k2
    rw [hB] at HSO7
    rw [hM] at hlen hsh
    obtain ⟨H, hH⟩ : ∃ H : ByteArray, H = ⟨M.toArray⟩ := ⟨_, rfl⟩
    have hHs : H.size = M.length := by rw [hH]; simp [ByteArray.size]
    have hHl : H.data.toList = M := by rw [hH]
    have HSH : Hid (∀ W, st.Ss W (some ⟨g1, 0, none⟩) n l → Calls Tryd.prog 20 #[.agg #[.string path, .string sum, .int .i64 z, .slice (some ⟨g1, 0, none⟩) n c1, .string name, .int .u64 (sig : Int)]] W fun e w' => e = .returned (.string H) ∧ Below W.heap.size W w') := fun W h => by rw [hH]; exact hsh W g1 c1 h
    have HCV : Hid (∀ W, ∃ cap W1, (convert 9 46 (.string H)).run Tryd.prog W = .ok (.slice (some ⟨W.heap.size, 0, none⟩) M.length cap) W1 ∧ Bf W.heap.size W1 W.heap.size cap M ∧ Below W.heap.size W W1) := fun W => by
      obtain ⟨cap, W1, h1, h2, h3, _⟩ := conv_bf (P := Tryd.prog) W 9 46 5 H (by omega) Tryd.underlying9 Tryd.underlying46 Tryd.underlying5
      rw [hHl] at h2
      rw [hHs] at h1
      exact ⟨cap, W1, h1, h2, h3⟩
    have HSI : Hid (∀ W base g c, Bf base W g c M → Calls Tryd.prog 27 #[.agg #[.int .u64 (N : Int), .int .u64 (E : Int), .int .u64 (D : Int)], .slice (some ⟨g, 0, none⟩) M.length c] W fun e w' => e = .returned (.int .u64 (S : Int)) ∧ Below W.heap.size W w') := fun W base g c h => by
      have := sg.ssign_any N E D hN hD (some ⟨g, 0, none⟩) M.length c (inL M) W (bs_of h) (by omega)
      rw [hS] at this
      exact this
    clear k1 k2 hB HHd HND hN hD hlen hsh hM hS hHs hHl hH
    go_wp2_with (first | (go_at_call 19; rw [← HW7.out]; refine HSO7.out.mono ?_; rintro e w2 ⟨rfl, C2⟩; refine Hid.out ?_) | go_in)
    refine Lib.hid ?_
    clear r0 r1 r2 r3 r4 r5 hss m0 m1 m2 m3 m4 m5 HW7
    have C2d := C2.drew
    have HS7 : Hid (∀ W, Below W7.heap.size W7 W → W.cell? ⟨w.heap.size + 1, 0, none⟩ = some (.int .u64 (N : Int)) ∧ W.cell? ⟨w.heap.size + 1, 1, none⟩ = some (.int .u64 (E : Int)) ∧ W.cell? ⟨w.heap.size + 1, 2, none⟩ = some (.int .u64 (D : Int))) := fun W h => (HF7.out W h).1
    have HSF : Hid (∀ W, Below W7.heap.size W7 W → (W.setCell ⟨w1.heap.size, 5, none⟩ (.int .u64 (S : Int))).cell? ⟨w.heap.size + 1, 0, none⟩ = some (.int .u64 (N : Int)) ∧ (W.setCell ⟨w1.heap.size, 5, none⟩ (.int .u64 (S : Int))).cell? ⟨w.heap.size + 1, 1, none⟩ = some (.int .u64 (E : Int)) ∧ (W.setCell ⟨w1.heap.size, 5, none⟩ (.int .u64 (S : Int))).cell? ⟨w.heap.size + 1, 2, none⟩ = some (.int .u64 (D : Int))) := fun W h => by
      obtain ⟨e0, e1, e2⟩ := HS7.out W h
      obtain ⟨hsz14, -, -, -⟩ := HSZ1.out
      exact ⟨(mt.far (by omega)).trans e0, (mt.far (by omega)).trans e1, (mt.far (by omega)).trans e2⟩
    obtain ⟨p0, p1, p2, p3, p4, p5⟩ := (HF7.out _ C2d).2.2.2.1
    go_wp2_with fail
    refine wp_region_held_drew (S := (fun W => W.cell? ⟨w.heap.size + 1, 0, none⟩ = some (.int .u64 (N : Int)) ∧ W.cell? ⟨w.heap.size + 1, 1, none⟩ = some (.int .u64 (E : Int)) ∧ W.cell? ⟨w.heap.size + 1, 2, none⟩ = some (.int .u64 (D : Int)))) (by kernel_rfl) (HS7.out _ C2d) (fun hHeld => ?_)
    refine wpAnyH_take (i := 0) (oi := ⟨some 22, .load 35 (.tmp 5), 35, "l16_cache.go:79", #[], none⟩) (v := ?v1) rfl (by kernel_rfl) (by kernel_rfl) (by kernel_rfl) (fun _ _ _ h => h) (Or.inl ⟨by rfl, ?hy1⟩) (by assumption) ?r1
    case hy1 => (intro w hSw; (try dsimp only at hSw); go_simp; try with_reducible rfl)
    try simp only [Act.put, List.setIfInBounds_toArray, List.set_cons_zero, List.set_cons_succ]
    refine wpAnyH_ready (rs := [1]) (by kernel_rfl) (by simp) ?_
    refine AllReadyH.cons (o := ⟨some 23, .load 28 (.tmp 8), 28, "l16_cache.go:79", #[], none⟩) rfl (fun K hK => ?_) AllReadyH.nil
    go_simp
    skip
    try go_wp2_with fail
    refine hK.out _ _ (HS7.out _ C2d) (fun hHeld => ?_)
    clear hK K
    try simp only [Act.put, List.setIfInBounds_toArray, List.set_cons_zero, List.set_cons_succ]
    refine wpAnyH_ready (rs := [2]) (by kernel_rfl) (by simp) ?_
    refine AllReadyH.cons (o := ⟨some 24, .call { callee := .value (.func 20), args := #[.tmp 23], argTypes := #[28] }, 9, "l16_cache.go:79", #[⟨1, .data⟩], none⟩) rfl (fun K hK => ?_) AllReadyH.nil
    go_simp
    go_at_call 20
    refine (HSH.out _ (HF7.out _ C2d).2.2.2.2.2.1.2).mono ?_
    rintro e w3 ⟨rfl, hl3⟩
    have C3 := C2d.trans (hl3.mono C2d.size)
    obtain ⟨cc, W1, hcv, hbf, hbw⟩ := HCV.out w3
    have C4 := C3.trans (hbw.mono C3.size)
    try go_wp2_with fail
    refine hK.out _ _ (HS7.out _ C3) (fun hHeld => ?_)
    clear hK K
    try simp only [Act.put, List.setIfInBounds_toArray, List.set_cons_zero, List.set_cons_succ]
    refine wpAnyH_ready (rs := [3]) (by kernel_rfl) (by simp) ?_
    refine AllReadyH.cons (o := ⟨some 25, .convert 9 46 (.tmp 24), 46, "l16_cache.go:79", #[⟨2, .data⟩], none⟩) rfl (fun K hK => ?_) AllReadyH.nil
    go_simp
    skip
    try go_wp2_with fail
    refine hK.out _ _ (HS7.out _ C4) (fun hHeld => ?_)
    clear hK K
    try simp only [Act.put, List.setIfInBounds_toArray, List.set_cons_zero, List.set_cons_succ]
    refine wpAnyH_ready (rs := [4]) (by kernel_rfl) (by simp) ?_
    refine AllReadyH.cons (o := ⟨some 26, .call { callee := .value (.func 27), args := #[.tmp 22, .tmp 25], argTypes := #[35, 46] }, 23, "l16_cache.go:79", #[⟨0, .data⟩, ⟨3, .data⟩, ⟨2, .chain⟩], none⟩) rfl (fun K hK => ?_) AllReadyH.nil
    go_simp
    go_at_call 27
    refine (HSI.out _ _ _ _ hbf).mono ?_
    rintro e w5 ⟨rfl, hl5⟩
    have C5 := C4.trans (hl5.mono C4.size)
    obtain ⟨x5, hx5⟩ : ∃ x, w5.cell? ⟨w1.heap.size, 5, none⟩ = some x := ⟨_, (HF7.out _ C5).2.2.2.1.2.2.2.2.2⟩
    have q5 := (HF7.out _ C5).2.2.2.2.1 5
    try go_wp2_with fail
    refine hK.out _ _ (HS7.out _ C5) (fun hHeld => ?_)
    clear hK K
    try simp only [Act.put, List.setIfInBounds_toArray, List.set_cons_zero, List.set_cons_succ]
    refine wpAnyH_take (i := 5) (oi := ⟨some 27, .fieldAddr 28 (.tmp 8) 5, 0, "l16_cache.go:79", #[⟨0, .phase⟩, ⟨1, .phase⟩, ⟨2, .phase⟩, ⟨3, .phase⟩, ⟨4, .phase⟩], none⟩) (v := ?v2) rfl (by kernel_rfl) (by kernel_rfl) (by kernel_rfl) (fun _ _ _ h => h) (Or.inl ⟨by rfl, ?hy2⟩) (by assumption) ?r2
    case hy2 => (intro w hSw; (try dsimp only at hSw); go_simp; try with_reducible rfl)
    try simp only [Act.put, List.setIfInBounds_toArray, List.set_cons_zero, List.set_cons_succ]
    refine wpAnyH_ready (rs := [6]) (by kernel_rfl) (by simp) ?_
    refine AllReadyH.cons (o := ⟨none, .store 23 (.tmp 27) (.tmp 26), 0, "l16_cache.go:79", #[⟨5, .data⟩, ⟨4, .data⟩, ⟨4, .chain⟩, ⟨0, .phase⟩, ⟨1, .phase⟩, ⟨2, .phase⟩, ⟨3, .phase⟩, ⟨4, .phase⟩], none⟩) rfl (fun K hK => ?_) AllReadyH.nil
    go_simp
    skip
    try go_wp2_with fail
    refine hK.out _ _ (HSF.out _ C5) (fun hHeld => ?_)
    clear hK K
    try simp only [Act.put, List.setIfInBounds_toArray, List.set_cons_zero, List.set_cons_succ]
    refine wpAnyH_done (by kernel_rfl) ?_ _
    obtain ⟨-, ⟨z5, zf⟩, -, ⟨n0, n1, n2, n3, n4, n5⟩, -, hsv, B5⟩ := HF7.out _ C5
    obtain ⟨hsz14, hg14, hg1l, hsz7⟩ := HSZ1.out
    obtain ⟨W8, hW8⟩ : ∃ W8 : World, W8 = w5.setCell ⟨w1.heap.size, 5, none⟩ (.int .u64 (S : Int)) := ⟨_, rfl⟩
    have HZ : Hid (SixC W8 (w.heap.size + 1 + 1) (.string ⟨#[]⟩) (.string ⟨#[]⟩) (.int .i64 0) (.slice none 0 0) (.string ⟨#[]⟩) (.int .u64 0)) := by rw [hW8]; exact z5.far (by omega)
    have f1 : ∀ i, W8.frozen? ⟨w.heap.size + 1 + 1, i, none⟩ = false := fun i => by
      rw [hW8, World.frozen?_of_block (a := ⟨w.heap.size + 1 + 1, i, none⟩) (blk_oth (show w.heap.size + 1 + 1 ≠ w1.heap.size by omega))]
      exact zf i
    have v0 : W8.cell? ⟨w1.heap.size, 0, none⟩ = some (.string path) := by rw [hW8]; exact (oth (by omega)).trans n0
    have v1 : W8.cell? ⟨w1.heap.size, 1, none⟩ = some (.string sum) := by rw [hW8]; exact (oth (by omega)).trans n1
    have v2 : W8.cell? ⟨w1.heap.size, 2, none⟩ = some (.int .i64 z) := by rw [hW8]; exact (oth (by omega)).trans n2
    have v3 : W8.cell? ⟨w1.heap.size, 3, none⟩ = some (.slice (some ⟨g1, 0, none⟩) n c1) := by rw [hW8]; exact (oth (by omega)).trans n3
    have v4 : W8.cell? ⟨w1.heap.size, 4, none⟩ = some (.string name) := by rw [hW8]; exact (oth (by omega)).trans n4
    have v5 : W8.cell? ⟨w1.heap.size, 5, none⟩ = some (.int .u64 (S : Int)) := by rw [hW8]; exact World.cell?_setCell_same _ _ _ n5
    have HSV : Hid (RwT W8 g1 n l) := by rw [hW8]; exact hsv.kept (blk_oth (by omega))
    have HB8 : Hid (Below w.heap.size w W8) := by rw [hW8]; exact B5.setCell (show w.heap.size ≤ w1.heap.size by omega) _
    obtain ⟨d0, d1, d2, d3, d4, d5⟩ := HZ.out
    rw [← hW8]
    clear z5 zf n0 n1 n2 n3 n4 n5 hsv B5 hW8 C2 C2d C3 C4 C5 HF7 HS7 HSF HSI HCV HSH p0 p1 p2 p3 p4 p5 hx5 q5 hbf hbw hcv hl3 hl5 hHeld
    go_wp2_with fail
    refine ret_cellM Tryd.results11 rfl (six _ _ _ _ _ _ HZ.out) ⟨_, _, by rw [HK1.out, HK2.out], by omega, HSV.out.kept (six_blk (by omega)), six_bel HB8.out (by omega)⟩

end Go.Proofs.YtheponigjofknaaDoor.mt
