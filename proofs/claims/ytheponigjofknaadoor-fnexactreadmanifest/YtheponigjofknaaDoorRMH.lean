import Derived.Test.YtheponigjofknaaDoorRMG
namespace Go.Proofs.YtheponigjofknaaDoor.mt
open Go.ChangeShapes Go.WideShapes Go.ChangeAt Go.RowKit Go.Deep Go.Shelf Go.Proofs.YtheponigjofknaaDoor.rt
attribute [local go_sem] Oper.semAt_some
set_option linter.unusedVariables false
set_option linter.unusedSimpArgs false

/-! ### The program's ReadManifest -/

/-- A row of texts that was answered. -/
def GR (W : World) (lo : Nat) (v : Value) (l : List ByteArray) : Prop := (v = .slice none 0 0 ∧ l = []) ∨ ∃ g c, v = .slice (some ⟨g, 0, none⟩) l.length c ∧ lo ≤ g ∧ RwT W g l.length l
/-- What both answer. -/
def RdR (w w' : World) (s : ByteArray) (e : Ending) : Prop := ∃ vr, e = .returned (.tuple #[.agg #[.string (rdM s.data.toList).path, .string (rdM s.data.toList).sum, .int .i64 (rdM s.data.toList).z, vr, .string (rdM s.data.toList).key, .int .u64 ((rdM s.data.toList).sig : Int)], .bool (rdB s.data.toList)]) ∧ GR w' w.heap.size vr (rdM s.data.toList).l ∧ Below w.heap.size w w'

theorem lnA_sum : ∀ (l acc : List UInt8), (lnA acc l).1.length + (lnA acc l).2.length ≤ acc.length + l.length
  | [], acc => by simp [lnA]
  | b :: r, acc => by
    unfold lnA
    split
    · have := lnA_sum r []
      simp at this ⊢
      omega
    · have := lnA_sum r (acc ++ [b])
      simp at this ⊢
      omega
theorem allL_len (l : List UInt8) : (allL l).length ≤ l.length ∧ ∀ x ∈ allL l, x.length ≤ l.length := by
  have h := lnA_sum l []
  obtain ⟨h1, h2, h3⟩ := lnA_len l []
  simp only [List.length_nil, Nat.zero_add] at h h1 h3
  unfold allL
  split
  · exact ⟨by simp; omega, fun x hx => h1 x (by simpa using hx)⟩
  · next hne =>
    have : 0 < (lnA [] l).2.length := List.length_pos_iff.2 hne
    refine ⟨by simp; omega, fun x hx => ?_⟩
    rw [List.mem_append, List.mem_singleton] at hx
    rcases hx with hx | rfl
    · exact h1 x hx
    · exact h3
def foldP (pre : List ByteArray) : Mf := (pre.map (fun y => Lib.trimSuffix y.data.toList [10])).foldl (tk pI) M0
theorem foldP_next (pre : List ByteArray) (x : ByteArray) : foldP (pre ++ [x]) = tk pI (foldP pre) (Lib.trimSuffix x.data.toList [10]) := by
  unfold foldP
  rw [List.map_append, List.foldl_append]
  rfl
theorem foldP_all (s : ByteArray) : foldP (PLL s) = (allL s.data.toList).foldl (tk pI) M0 := by
  unfold foldP PLL
  rw [List.map_map, ← raw_trim]
  rfl

def zS (W : World) (b : Nat) : Prop := SixC W b (.string ⟨#[]⟩) (.string ⟨#[]⟩) (.int .i64 0) (.slice none 0 0) (.string ⟨#[]⟩) (.int .u64 0) ∧ ∀ j, W.frozen? ⟨b, j, none⟩ = false
theorem zS.kept {W W' : World} {b : Nat} (h : zS W b) (hb : W'.heap[b]? = W.heap[b]?) : zS W' b := ⟨h.1.kept hb, fun j => (World.frozen?_of_block (a := ⟨b, j, none⟩) hb).trans (h.2 j)⟩
theorem zS.lt {W : World} {b : Nat} (h : zS W b) : b < W.heap.size := World.block_lt_of_cell? _ _ h.1.1

/-- Behind the lines pre. -/
structure AI (w : World) (pre : List ByteArray) (W : World) : Prop where
  m : MP (w.heap.size + 1 + 1) (w.heap.size + 4) (w.heap.size + 1) (foldP pre) W
  z : zS W w.heap.size
  e : W.heap[w.heap.size + 1]? = some (.cells #[] 9 (0, 0))
  l : Below w.heap.size w W
  s : w.heap.size + 4 ≤ W.heap.size

theorem MP.grow {b B b1 : Nat} {M : Mf} {W W' : World} {row : Option Nat} (h : MP b B b1 M W) (hg : W.grownBy W' row) (hr : ∀ j, row = some j → j ≠ b ∧ (j < B ∨ ∃ o : Obj, W.heap[j]? = some o ∧ o.isCells = false)) : MP b B b1 M W' := by
  obtain ⟨vr, h6, hrw, hf⟩ := h
  have hlt : b < W.heap.size := World.block_lt_of_cell? _ _ h6.1
  have hbk : W'.heap[b]? = W.heap[b]? := hg.block b hlt (fun e => (hr b e.symm).1 rfl)
  refine ⟨vr, h6.kept hbk, hrw.kept (fun k hk ⟨cs, t, m, hc⟩ => hg.block k (Array.getElem?_eq_some_iff.1 hc).1 (fun e => ?_)), fun j => (World.frozen?_of_block (a := ⟨b, j, none⟩) hbk).trans (hf j)⟩
  rcases (hr k e.symm).2 with h | ⟨o, ho, hn⟩
  · omega
  · rw [hc] at ho
    cases ho
    cases hn
theorem AI.grow {w : World} {pre : List ByteArray} {W W' : World} {row : Option Nat} (h : AI w pre W) (hg : W.grownBy W' row) (hr : ∀ j, row = some j → w.heap.size + 2 < j ∧ (j < w.heap.size + 4 ∨ ∃ o : Obj, W.heap[j]? = some o ∧ o.isCells = false)) : AI w pre W' := by
  have hs := h.s
  refine ⟨h.m.grow hg (fun j e => ⟨by have := (hr j e).1; omega, (hr j e).2⟩), h.z.kept (hg.block _ (by omega) (fun e => by have := (hr _ e.symm).1; omega)), (hg.block _ (by omega) (fun e => by have := (hr _ e.symm).1; omega)).trans h.e, h.l.grown hg h.l.size (fun j e => by have := (hr j e).1; omega), Nat.le_trans hs hg.size⟩
/-- One line taken. -/
theorem AI.take {w : World} {pre : List ByteArray} {x : ByteArray} {W W' : World} (h : AI w pre W) (hM : MP (w.heap.size + 1 + 1) (w.heap.size + 4) (w.heap.size + 1) (tk pI (foldP pre) (Lib.trimSuffix x.data.toList [10])) W') (hk : TkK (w.heap.size + 1 + 1) (w.heap.size + 4) W W') : AI w (pre ++ [x]) W' := by
  have hs := h.s
  have hz := hk.keeps.size
  refine ⟨by rw [foldP_next]; exact hM, h.z.kept (hk.block _ (by omega) (by omega)), (hk.block _ (by omega) (by omega)).trans h.e, ⟨hk.os.trans h.l.os, hk.tape.trans h.l.tape, hk.output.trans h.l.output, by omega, fun k hkl => (hk.block k (by omega) (by omega)).trans (h.l.block k hkl)⟩, by omega⟩
def mRow (g : Nat) : Obj := .cells #[.string ⟨#[]⟩, .string ⟨#[]⟩, .int .i64 0, .slice (some ⟨g, 0, none⟩) 0 0, .string ⟨#[]⟩, .int .u64 0] 28
theorem AI.start (w : World) (s : ByteArray) : AI w [] ((((w.alloc zM).alloc (.cells #[] 9)).alloc (mRow (w.heap.size + 1))).alloc (.cells #[.string s] 9)) ∧ Boxed ((((w.alloc zM).alloc (.cells #[] 9)).alloc (mRow (w.heap.size + 1))).alloc (.cells #[.string s] 9)) (w.heap.size + 1 + 1 + 1) 9 (.string s) := by
  obtain ⟨W1, h1⟩ : ∃ W1, w.alloc zM = W1 := ⟨_, rfl⟩
  obtain ⟨W2, h2⟩ : ∃ W2, W1.alloc (.cells #[] 9) = W2 := ⟨_, rfl⟩
  obtain ⟨W3, h3⟩ : ∃ W3, W2.alloc (mRow (w.heap.size + 1)) = W3 := ⟨_, rfl⟩
  rw [h1, h2, h3]
  have s1 : W1.heap.size = w.heap.size + 1 := by rw [← h1, World.size_alloc]
  have s2 : W2.heap.size = w.heap.size + 1 + 1 := by rw [← h2, World.size_alloc, s1]
  have s3 : W3.heap.size = w.heap.size + 1 + 1 + 1 := by rw [← h3, World.size_alloc, s2]
  have b34 : Below W3.heap.size W3 (W3.alloc (.cells #[.string s] 9)) := (Below.refl _ _).alloc (Nat.le_refl _) _
  have b23 : Below W2.heap.size W2 W3 := by rw [← h3]; exact (Below.refl _ _).alloc (Nat.le_refl _) _
  have b12 : Below W1.heap.size W1 W2 := by rw [← h2]; exact (Below.refl _ _).alloc (Nat.le_refl _) _
  have b01 : Below w.heap.size w W1 := by rw [← h1]; exact (Below.refl _ _).alloc (Nat.le_refl _) _
  have b24 := b23.trans (b34.mono b23.size)
  have b14 := b12.trans (b24.mono b12.size)
  have b04 := b01.trans (b14.mono b01.size)
  obtain ⟨z0, f0⟩ := zero_at w (W3.alloc (.cells #[.string s] 9)) (by rw [h1]; exact b14)
  have h6 := zero_six (w := W1) (o := .cells #[] 9) (v0 := .string ⟨#[]⟩) (v1 := .string ⟨#[]⟩) (v2 := .int .i64 0) (v3 := .slice (some ⟨w.heap.size + 1, 0, none⟩) 0 0) (v4 := .string ⟨#[]⟩) (v5 := .int .u64 0) (t := 28) (W3.alloc (.cells #[.string s] 9)) (by rw [h2]; exact (show Below (W2.alloc (mRow (w.heap.size + 1))).heap.size (W2.alloc (mRow (w.heap.size + 1))) _ by rw [h3]; exact b34))
  rw [s1] at h6
  have he : (W3.alloc (.cells #[.string s] 9)).heap[w.heap.size + 1]? = some (.cells #[] 9 (0, 0)) := by
    rw [b24.block _ (by omega), ← h2, ← s1]
    exact World.alloc_heap_new W1 _
  refine ⟨⟨⟨_, h6.1, .inl ⟨rfl, rfl⟩, h6.2⟩, ⟨z0, f0⟩, he, b04, by rw [World.size_alloc]; omega⟩, ?_⟩
  have := Boxed.new W3 9 (.string s)
  rwa [s3] at this

/-- What the program decides. -/
theorem dec_yes {s : ByteArray} {M : Mf} (hsg : M.sig < 18446744073709551616) (hne : ¬ mtT M.path M.sum M.key M.z M.sig M.l M.l.length = ⟨#[]⟩) (hT : mtT M.path M.sum M.key M.z M.sig M.l M.l.length = s) : rdM s.data.toList = { M with ok := true } ∧ rdB s.data.toList = true :=
  rd_yes (decide_yes (M := { M with ok := true }) (by rw [← hT]; exact hne) rfl hsg hT)
theorem dec_no2 {s : ByteArray} (h : mtT (foldP (PLL s)).path (foldP (PLL s)).sum (foldP (PLL s)).key (foldP (PLL s)).z (foldP (PLL s)).sig (foldP (PLL s)).l (foldP (PLL s)).l.length = ⟨#[]⟩ ∨ ¬ mtT (foldP (PLL s)).path (foldP (PLL s)).sum (foldP (PLL s)).key (foldP (PLL s)).z (foldP (PLL s)).sig (foldP (PLL s)).l (foldP (PLL s)).l.length = s) : rdM s.data.toList = M0 ∧ rdB s.data.toList = false :=
  rd_no (decide_no pI_itoa (fun ⟨h1, h2, h3, h4⟩ => by
    have e : foldP (PLL s) = (lnA [] s.data.toList).1.foldl (tk pI) M0 := by
      rw [foldP_all]
      unfold allL
      rw [if_pos h1, List.append_nil]
    rw [e] at h
    rcases h with h | h
    · exact h3 (h4.symm.trans h)
    · exact h h4))

/-- What stands behind ManifestText. -/
structure Fin (w w2 : World) (D : Nat) (M : Mf) (vr : Value) : Prop where
  m : SixC w2 (w.heap.size + 1 + 1) (.string M.path) (.string M.sum) (.int .i64 M.z) vr (.string M.key) (.int .u64 (M.sig : Int))
  z : SixC w2 w.heap.size (.string ⟨#[]⟩) (.string ⟨#[]⟩) (.int .i64 0) (.slice none 0 0) (.string ⟨#[]⟩) (.int .u64 0)
  f : ∀ j, w2.frozen? ⟨w.heap.size, j, none⟩ = false
  d : w2.heap[D]? = some (.deferred (some []))
  r : Rw (w.heap.size + 4) (w.heap.size + 1) w2 vr M.l
  e : w2.heap[w.heap.size + 1]? = some (.cells #[] 9 (0, 0))
  l : Below w.heap.size w w2
  D4 : w.heap.size + 4 ≤ D
/-- The answer written. -/
def six6 (W : World) (b : Nat) (v0 v1 v2 v3 v4 v5 : Value) : World := (((((W.setCell ⟨b, 0, none⟩ v0).setCell ⟨b, 1, none⟩ v1).setCell ⟨b, 2, none⟩ v2).setCell ⟨b, 3, none⟩ v3).setCell ⟨b, 4, none⟩ v4).setCell ⟨b, 5, none⟩ v5
theorem Fin.def6 {w w2 : World} {D : Nat} {M : Mf} {vr v0 v1 v2 v3 v4 v5 : Value} (h : Fin w w2 D M vr) : (six6 w2 w.heap.size v0 v1 v2 v3 v4 v5).heap[D]? = some (.deferred (some [])) := (six_blk (by have := h.D4; omega)).trans h.d
theorem Fin.six0 {w w2 : World} {D : Nat} {M : Mf} {vr v0 v1 v2 v3 v4 v5 : Value} (h : Fin w w2 D M vr) : SixC ((six6 w2 w.heap.size v0 v1 v2 v3 v4 v5).putObj D (.deferred none)) w.heap.size v0 v1 v2 v3 v4 v5 := by
  have h6 : SixC (six6 w2 w.heap.size v0 v1 v2 v3 v4 v5) w.heap.size v0 v1 v2 v3 v4 v5 := six _ _ _ _ _ _ h.z
  exact h6.kept (World.putObj_heap_other (by have := h.D4; omega))
theorem Fin.bel {w w2 : World} {D : Nat} {M : Mf} {vr v0 v1 v2 v3 v4 v5 : Value} (h : Fin w w2 D M vr) : Below w.heap.size w ((six6 w2 w.heap.size v0 v1 v2 v3 v4 v5).putObj D (.deferred none)) :=
  (six_bel h.l (Nat.le_refl _)).trans (belowK_b (w := w) (Nat.le_refl _) _ D _ _ (by have := h.D4; omega) h.def6 rfl rfl)
theorem Fin.no {w w2 : World} {D : Nat} {M : Mf} {vr : Value} {s : ByteArray} (h : Fin w w2 D M vr) (hn : rdM s.data.toList = M0 ∧ rdB s.data.toList = false) : RdR w ((six6 w2 w.heap.size (.string ⟨#[]⟩) (.string ⟨#[]⟩) (.int .i64 0) (.slice none 0 0) (.string ⟨#[]⟩) (.int .u64 0)).putObj D (.deferred none)) s (.returned (.tuple #[.agg #[.string ⟨#[]⟩, .string ⟨#[]⟩, .int .i64 0, .slice none 0 0, .string ⟨#[]⟩, .int .u64 0], .bool false])) :=
  ⟨.slice none 0 0, by rw [hn.1, hn.2]; rfl, by rw [hn.1]; exact .inl ⟨rfl, rfl⟩, h.bel⟩
theorem Fin.yes {w w2 : World} {D : Nat} {M : Mf} {vr : Value} {s : ByteArray} (h : Fin w w2 D M vr) (hy : rdM s.data.toList = { M with ok := true } ∧ rdB s.data.toList = true) : RdR w ((six6 w2 w.heap.size (.string M.path) (.string M.sum) (.int .i64 M.z) vr (.string M.key) (.int .u64 (M.sig : Int))).putObj D (.deferred none)) s (.returned (.tuple #[.agg #[.string M.path, .string M.sum, .int .i64 M.z, vr, .string M.key, .int .u64 (M.sig : Int)], .bool true])) := by
  refine ⟨vr, by rw [hy.1, hy.2], ?_, h.bel⟩
  rw [hy.1]
  show GR _ _ _ M.l
  have hD := h.D4
  have hk : ∀ k, w.heap.size < k → k ≠ D → ((six6 w2 w.heap.size (.string M.path) (.string M.sum) (.int .i64 M.z) vr (.string M.key) (.int .u64 (M.sig : Int))).putObj D (.deferred none)).heap[k]? = w2.heap[k]? := fun k h1 h2 => (World.putObj_heap_other h2).trans (six_blk (by omega))
  rcases h.r with ⟨rfl, hl⟩ | ⟨ho, hv⟩
  · refine .inr ⟨w.heap.size + 1, 0, by rw [hl]; rfl, by omega, ⟨⟨#[], (hk _ (by omega) (by omega)).trans h.e, by rw [hl]; simp⟩, .inl (by rw [hl]; rfl)⟩⟩
  · obtain ⟨g, cap, rfl, hg, -, hr⟩ := own_Ss ho hv
    refine .inr ⟨g, cap, rfl, by omega, hr.kept (hk _ (by omega) (fun e => ?_))⟩
    obtain ⟨⟨cs, hc, _⟩, _⟩ := hr
    rw [e, h.d] at hc
    cases hc

set_option maxHeartbeats 4000000 in
set_option maxRecDepth 100000 in
theorem iread_any (s : ByteArray) (hs : s.size ≤ 1048576) (w : World) (hE : EC w) (hML : ML w) (hT : wd.TabB w) (hP : PwT w) :
    Calls Tryd.prog 17 #[.string s] w fun e w' => RdR w w' s e := by
  have HPL : Hid (∀ x, x ∈ PLL s → (Lib.trimSuffix x.data.toList [10]).length ≤ 1048576 ∧ x.data.toList.length ≤ 1048577) := fun x hx => by
    obtain ⟨y, hy, rfl⟩ := List.mem_map.1 hx
    have hz : s.data.toList.length = s.size := by simp
    have hm : Lib.trimSuffix y [10] ∈ allL s.data.toList := by rw [← raw_trim]; exact List.mem_map.2 ⟨y, hy, rfl⟩
    have h1 := (allL_len s.data.toList).2 _ hm
    refine ⟨by show (Lib.trimSuffix y [10]).length ≤ _; omega, ?_⟩
    show y.length ≤ 1048577
    unfold Lib.trimSuffix at h1
    split at h1
    · simp at h1; omega
    · omega
  have HSZ : Hid (∀ pre, pre <+: PLL s → SzF 1048576 pre.length (foldP pre) ∧ pre.length ≤ 1048576) := fun pre hp => by
    have hz : s.data.toList.length = s.size := by simp
    have hlen : pre.length ≤ (allL s.data.toList).length := by
      have := hp.length_le
      unfold PLL at this
      rw [← raw_trim]
      simpa using this
    have h2 := (allL_len s.data.toList).1
    have := SzF.fold (f := pI) (pre.map (fun y => Lib.trimSuffix y.data.toList [10])) 0 M0 (SzF.zero 1048576) (fun x hx => by
      obtain ⟨y, hy, rfl⟩ := List.mem_map.1 hx
      exact (HPL.out y (hp.subset hy)).1)
    rw [List.length_map, Nat.zero_add] at this
    exact ⟨this, by omega⟩
  have HE : Hid (∀ W, Below w.heap.size w W → EC W ∧ ML W ∧ wd.TabB W ∧ PwT W) := fun W h => ⟨hE.below h, hML.below h, hT.below h, hP.below h⟩
  clear hE hML hT hP
  refine (callsIn_wide (n := 3)).1 ?_
  refine callsIn_of_wp_marks Tryd.func17 rfl trivial ?_ rfl
  simp only [Tryd.ntmps17, List.size_toArray, List.length_cons, List.length_nil, Nat.reduceAdd, Nat.reduceSub, Array.replicate_succ, Array.replicate_zero, List.push_toArray, List.append_toArray, List.nil_append, List.cons_append]
  gi_wp2_with (refine ⟨trivial, ?_⟩; gi_at_call 36; refine (callsIn_wide.2 (lseq_any s _)).mono ?_; rintro e w' ⟨rfl, rfl⟩)
  obtain ⟨hA0, hbx⟩ := AI.start w s
  unfold zM mRow at hA0 hbx
  have hs0 : ((((w.alloc zM).alloc (.cells #[] 9)).alloc (mRow (w.heap.size + 1))).alloc (.cells #[.string s] 9)).heap.size = w.heap.size + 4 := by simp
  unfold zM mRow at hs0
  obtain ⟨W0, hW0⟩ : ∃ W0, ((((w.alloc (.cells #[.string ⟨#[]⟩, .string ⟨#[]⟩, .int .i64 0, .slice none 0 0, .string ⟨#[]⟩, .int .u64 0] 28)).alloc (.cells #[] 9)).alloc (.cells #[.string ⟨#[]⟩, .string ⟨#[]⟩, .int .i64 0, .slice (some ⟨w.heap.size + 1, 0, none⟩) 0 0, .string ⟨#[]⟩, .int .u64 0] 28)).alloc (.cells #[.string s] 9)) = W0 := ⟨_, rfl⟩
  rw [hW0] at hA0 hbx hs0 ⊢
  clear hW0
  refine range_t (by decide) (gf := 59) (lb := #[.pointer (some ⟨w.heap.size + 1 + 1 + 1, 0, none⟩)]) rfl (enters_of Tryd.func59 (by kernel_rfl) rfl)
    (lines_hands 2 (w.heap.size + 1 + 1 + 1) s hs W0 (by decide) hbx) (fun r e => by rw [e]; omega)
    (fun A X C h1 h2 => ⟨Nat.le_trans h1.1 h2.1, h2.2.trans h1.2⟩)
    (fun W l o o' hl h1 h2 h3 => ⟨by simp, World.putObj_heap_other (by omega)⟩) rfl
    (AI w) (fun _ _ => False)
    (fun s W W' row h hg hr => h.grow hg (fun j e => ⟨by have := (hr j e).1; omega, .inr (hr j e).2⟩)) (fun s W W' row h hg hr => h)
    (fun s W W' row h hg hr => h.grow hg (fun j e => by have := hr j e; exact ⟨by omega, .inl (by omega)⟩)) (fun s W W' row h hg hr => h)
    hA0
    (fun x => { tmps := #[.string s, undef, .pointer (some ⟨w.heap.size, 0, none⟩), .bool false, .pointer (some ⟨w.heap.size + 1 + 1, 0, none⟩), .string x, undef, undef, undef, undef, .slice (some ⟨w.heap.size + 1, 0, none⟩) 0 0, .agg #[.string ⟨#[]⟩, .string ⟨#[]⟩, .int .i64 0, .slice (some ⟨w.heap.size + 1, 0, none⟩) 0 0, .string ⟨#[]⟩, .int .u64 0], .string s, .func (.func 59) #[] #[.pointer (some ⟨w.heap.size + 1 + 1 + 1, 0, none⟩)], .string x, undef, undef, undef, undef, undef, undef, undef, undef, undef, undef, undef, undef, undef, undef, undef, undef, undef, undef, undef, undef, undef], defers := [] })
    ?assign ?body ?done ?stop
  case assign =>
    intro l x W K hK
    gi_wp2
    exact hK
  case body =>
    intro l pre x W hi hp
    obtain ⟨T, hT⟩ : ∃ T, Lib.trimSuffix x.data.toList [10] = T := ⟨_, rfl⟩
    obtain ⟨hTl, hxl⟩ := HPL.out x (hp.subset (by simp : x ∈ pre ++ [x]))
    obtain ⟨hsz, hpl⟩ := HSZ.out pre ((List.prefix_append pre [x]).trans hp)
    have hn := hsz.len
    obtain ⟨qE, qM, qT, qP⟩ := HE.out W hi.l
    have HTS : Hid (Calls Tryd.prog 38 #[.string x, .string ⟨#[10]⟩] W fun e w' => e = .returned (.string (BA T)) ∧ w' = W) := by
      have := its_any x.data.toList hxl W
      rwa [BA_of, hT] at this
    rw [hT] at hTl
    have HCT : Hid (Calls Tryd.prog 37 #[.string (BA T), .string ⟨#[32]⟩] W fun e w' => (∃ b : Bool, e = .returned (.tuple #[.string (BA (cutW T)), .string (BA (cutR T)), .bool b])) ∧ Below W.heap.size W w') := icut_any T hTl W qM
    have HTK : Hid (∀ W2, Below W.heap.size W W2 → Calls Tryd.prog 39 #[.pointer (some ⟨w.heap.size + 1 + 1, 0, none⟩), .string (BA (cutW T)), .string (BA (cutR T))] W2 fun e w' => TkR (w.heap.size + 1 + 1) (w.heap.size + 4) (w.heap.size + 1) (tk pI (foldP pre) T) W2 w' e) := fun W2 h => take_any _ _ _ T hTl _ W2 (by omega) (by have := hi.s; have := h.size; omega) (hi.m.below h) (by omega) (qE.below h) (qT.below h)
    have HFI : Hid (∀ W2 W3, Below W.heap.size W W2 → MP (w.heap.size + 1 + 1) (w.heap.size + 4) (w.heap.size + 1) (tk pI (foldP pre) T) W3 → TkK (w.heap.size + 1 + 1) (w.heap.size + 4) W2 W3 → KeepsFrom W0.heap.size W W3 ∧ Kb (w.heap.size + 1 + 1 + 1) W W3 ∧ AI w (pre ++ [x]) W3) := fun W2 W3 h hm hk => by
      have hs := hi.s
      have k1 : KeepsOthers W W3 := (keeps_below h).trans hk.keeps
      have hk' : TkK (w.heap.size + 1 + 1) (w.heap.size + 4) W W3 := ⟨k1, hk.os.trans h.os, hk.tape.trans h.tape, hk.output.trans h.output, fun k hkl hne => (hk.block k hkl hne).trans (h.block k (by omega))⟩
      exact ⟨k1.from _, ⟨k1.size, hk'.block _ (by omega) (by omega)⟩, hi.take (by rw [hT]; exact hm) hk'⟩
    clear hTl hxl hsz hpl hn qE qM qT qP hT hi hp
    gi_wp2_with (first
      | (refine ⟨trivial, ?_⟩; gi_at_call 38; refine (CallsIn.inRound l (callsIn_wide.2 HTS.out)).mono ?_; rintro e w1 ⟨rfl, hw⟩; have hw2 := hw.symm; subst hw2; clear hw)
      | (refine ⟨trivial, ?_⟩; gi_at_call 37; refine (CallsIn.inRound l (callsIn_wide.2 HCT.out)).mono ?_; rintro e w2 ⟨⟨bb, rfl⟩, hb2⟩; have HB2 := Lib.hid hb2; clear hb2)
      | (refine ⟨trivial, ?_⟩; gi_at_call 39; refine (CallsIn.inRound l (callsIn_wide.2 (HTK.out _ HB2.out))).mono ?_; rintro e w3 ⟨⟨v, rfl⟩, hm3, hk3⟩; have HF3 := Lib.hid (HFI.out _ _ HB2.out hm3 hk3); clear hm3 hk3))
    exact ⟨by have := HF3.out.1; rwa [hs0] at this, HF3.out.2⟩
  case done =>
    intro D W hD hi hK
    obtain ⟨hsz, hpl⟩ := HSZ.out _ (List.prefix_refl (PLL s))
    have hn := hsz.len
    have HYS : Hid (∀ T, mtT (foldP (PLL s)).path (foldP (PLL s)).sum (foldP (PLL s)).key (foldP (PLL s)).z (foldP (PLL s)).sig (foldP (PLL s)).l (foldP (PLL s)).l.length = T → ¬ T = ⟨#[]⟩ → T = s → rdM s.data.toList = { foldP (PLL s) with ok := true } ∧ rdB s.data.toList = true) := fun T e h1 h2 => dec_yes hsz.sig (by rw [e]; exact h1) (e.trans h2)
    have HNO : Hid (∀ T, mtT (foldP (PLL s)).path (foldP (PLL s)).sum (foldP (PLL s)).key (foldP (PLL s)).z (foldP (PLL s)).sig (foldP (PLL s)).l (foldP (PLL s)).l.length = T → (T = ⟨#[]⟩ ∨ ¬ T = s) → rdM s.data.toList = M0 ∧ rdB s.data.toList = false) := fun T e h => dec_no2 (by rw [e]; exact h)
    obtain ⟨M, hM⟩ : ∃ M, foldP (PLL s) = M := ⟨_, rfl⟩
    rw [hM] at HYS HNO hsz hn
    obtain ⟨hm, hz, he, hbl, hsW⟩ := hi
    rw [hM] at hm
    obtain ⟨T, hT⟩ : ∃ T, mtT M.path M.sum M.key M.z M.sig M.l M.l.length = T := ⟨_, rfl⟩
    obtain ⟨vr, h6, hrw, hff⟩ := hm
    obtain ⟨a, cp, hvr⟩ := hrw.shape
    subst hvr
    have hss : st.Ss W a M.l.length M.l := by
      rcases hrw with ⟨e, hl⟩ | ⟨ho, _⟩
      · rw [hl]; exact .inl rfl
      · obtain ⟨a', cp', e, h⟩ := own_Sa ho
        cases e
        exact h
    obtain ⟨qE, qM, qT, qP⟩ := HE.out W hbl
    have HMT : Hid (Calls Tryd.prog 9 #[.agg #[.string M.path, .string M.sum, .int .i64 M.z, .slice a M.l.length cp, .string M.key, .int .u64 (M.sig : Int)]] W fun e w' => e = .returned (.string T) ∧ Below W.heap.size W w') := by
      have := imt_any M.path M.sum M.key M.z M.sig M.l a M.l.length cp W hss (by omega) hsz.refs hsz.path hsz.sum hsz.key hsz.sig qT qP
      rwa [hT] at this
    have HFN : Hid (∀ w2, Below W.heap.size W w2 → Fin w w2 D M (.slice a M.l.length cp)) := fun w2 h => ⟨h6.belowM h, (hz.kept (h.block _ hz.lt)).1, (hz.kept (h.block _ hz.lt)).2, (h.block _ (Array.getElem?_eq_some_iff.1 hK).1).trans hK, hrw.below h, (h.block _ (by omega)).trans he, hbl.trans (h.mono hbl.size), by omega⟩
    obtain ⟨c0, c1, c2, c3, c4, c5⟩ := h6
    have HYT := Lib.hid (HYS.out T hT)
    have HNT := Lib.hid (HNO.out T hT)
    clear HYS HNO hM hT hsz hn hpl hrw hff hss qE qM qT qP hz he hbl hsW
    by_cases hTe : T = ⟨#[]⟩
    · have HN := Lib.hid (HNT.out (.inl hTe))
      have hTb : T.toList = [] := by rw [hTe, ByteArray.toList_eq]
      clear hTe HYT HNT
      gi_wp2_with (refine ⟨trivial, ?_⟩; gi_at_call 9; refine (callsIn_wide.2 HMT.out).mono ?_; rintro e w2 ⟨rfl, hb2⟩; have HF2 := Lib.hid (HFN.out _ hb2); clear hb2; refine Hid.out ?_)
      refine Lib.hid ?_
      obtain ⟨-, ⟨d0, d1, d2, d3, d4, d5⟩, hf0, -, -, -, -, -⟩ := HF2.out
      gi_wp2
      refine ⟨by simp, .inl ⟨_, _, rfl, run_takeDeferred HF2.out.def6, ?_⟩⟩
      have kk := HF2.out.six0 (v0 := .string ⟨#[]⟩) (v1 := .string ⟨#[]⟩) (v2 := .int .i64 0) (v3 := .slice none 0 0) (v4 := .string ⟨#[]⟩) (v5 := .int .u64 0)
      have hR := HF2.out.no HN.out
      unfold six6 at kk hR
      obtain ⟨k0, k1, k2, k3, k4, k5⟩ := kk
      refine ⟨.tuple #[.agg #[.string ⟨#[]⟩, .string ⟨#[]⟩, .int .i64 0, .slice none 0 0, .string ⟨#[]⟩, .int .u64 0], .bool false], ?_, hR⟩
      simp [results, Tryd.results17, go_sem, k0, k1, k2, k3, k4, k5]
    · have hTb : ¬ T.toList = [] := by
        rw [ByteArray.toList_eq]
        exact fun e => hTe (by apply ByteArray.ext; apply Array.ext'; exact e)
      have hTi : T.toList.isEmpty = false := by simpa using hTb
      by_cases hTs : T = s
      · have HY := Lib.hid (HYT.out hTe hTs)
        have hTq : (T.toList == s.toList) = true := by rw [hTs, beq_self_eq_true]
        clear hTe HYT HNT hTs
        gi_wp2_with (refine ⟨trivial, ?_⟩; gi_at_call 9; refine (callsIn_wide.2 HMT.out).mono ?_; rintro e w2 ⟨rfl, hb2⟩; have HF2 := Lib.hid (HFN.out _ hb2); clear hb2; refine Hid.out ?_)
        refine Lib.hid ?_
        obtain ⟨⟨p0, p1, p2, p3, p4, p5⟩, ⟨d0, d1, d2, d3, d4, d5⟩, hf0, -, -, -, -, -⟩ := HF2.out
        clear c0 c1 c2 c3 c4 c5
        gi_wp2
        refine ⟨by simp, .inl ⟨_, _, rfl, run_takeDeferred HF2.out.def6, ?_⟩⟩
        have kk := HF2.out.six0 (v0 := .string M.path) (v1 := .string M.sum) (v2 := .int .i64 M.z) (v3 := .slice a M.l.length cp) (v4 := .string M.key) (v5 := .int .u64 (M.sig : Int))
        have hR := HF2.out.yes HY.out
        unfold six6 at kk hR
        obtain ⟨k0, k1, k2, k3, k4, k5⟩ := kk
        refine ⟨.tuple #[.agg #[.string M.path, .string M.sum, .int .i64 M.z, .slice a M.l.length cp, .string M.key, .int .u64 (M.sig : Int)], .bool true], ?_, hR⟩
        simp [results, Tryd.results17, go_sem, k0, k1, k2, k3, k4, k5]
      · have HN := Lib.hid (HNT.out (.inr hTs))
        have hTq : (T.toList == s.toList) = false := by
          rw [ByteArray.toList_eq, ByteArray.toList_eq]
          exact beq_eq_false_iff_ne.2 (fun e => hTs (by apply ByteArray.ext; apply Array.ext'; exact e))
        have hTn : ¬ T.toList = s.toList := beq_eq_false_iff_ne.1 hTq
        clear hTe HYT HNT hTs
        gi_wp2_with (refine ⟨trivial, ?_⟩; gi_at_call 9; refine (callsIn_wide.2 HMT.out).mono ?_; rintro e w2 ⟨rfl, hb2⟩; have HF2 := Lib.hid (HFN.out _ hb2); clear hb2; refine Hid.out ?_)
        refine Lib.hid ?_
        obtain ⟨⟨p0, p1, p2, p3, p4, p5⟩, ⟨d0, d1, d2, d3, d4, d5⟩, hf0, -, -, -, -, -⟩ := HF2.out
        clear c0 c1 c2 c3 c4 c5
        gi_wp2
        refine ⟨by simp, .inl ⟨_, _, rfl, run_takeDeferred HF2.out.def6, ?_⟩⟩
        have kk := HF2.out.six0 (v0 := .string ⟨#[]⟩) (v1 := .string ⟨#[]⟩) (v2 := .int .i64 0) (v3 := .slice none 0 0) (v4 := .string ⟨#[]⟩) (v5 := .int .u64 0)
        have hR := HF2.out.no HN.out
        unfold six6 at kk hR
        obtain ⟨k0, k1, k2, k3, k4, k5⟩ := kk
        refine ⟨.tuple #[.agg #[.string ⟨#[]⟩, .string ⟨#[]⟩, .int .i64 0, .slice none 0 0, .string ⟨#[]⟩, .int .u64 0], .bool false], ?_, hR⟩
        simp [results, Tryd.results17, go_sem, k0, k1, k2, k3, k4, k5]
  case stop =>
    intro D pre W hD hp hx hK
    exact hx.elim

end Go.Proofs.YtheponigjofknaaDoor.mt
