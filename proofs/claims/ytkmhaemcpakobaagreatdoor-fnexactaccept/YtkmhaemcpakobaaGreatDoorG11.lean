import Derived.Test.YtkmhaemcpakobaaGreatDoorG10
import Derived.Test.YtkmhaemcpakobaaGreatDoorRows
import Derived.Test.YtkmhaemcpakobaaGreatDoorG05
import Derived.Test.YtkmhaemcpakobaaGreatDoorG03
import Derived.Test.YtkmhaemcpakobaaGreatDoorG01
import Derived.Sort.Walk0
import Derived.Test.YtkmhaemcpakobaaGreatDoorG08
import Derived.Maps.AppendAt
import Derived.BigQuiet
import Derived.Deep.QuietTactic
namespace Go.Proofs.YtkmhaemcpakobaaGreatDoor.mt
open Go.ChangeShapes Go.WideShapes Go.ChangeAt Go.RowKit Go.Deep Go.Shelf Go.Proofs.YtkmhaemcpakobaaGreatDoor.rt
attribute [local go_sem] Oper.semAt_some
set_option linter.unusedVariables false
set_option linter.unusedSimpArgs false

/-! ### The program's ReadManifest -/

/-- A row of texts that was answered. -/
def GR (W : World) (lo : Nat) (v : Value) (l : List ByteArray) : Prop := (v = .slice none 0 0 ∧ l = []) ∨ ∃ g c, v = .slice (some ⟨g, 0, none⟩) l.length c ∧ lo ≤ g ∧ RwT W g l.length l
/-- What both answer. -/
def RdR (w w' : World) (s : ByteArray) (e : Ending) : Prop := ∃ vr, e = .returned (.tuple #[.agg #[.string (rdM s.data.toList).path, .string (rdM s.data.toList).sum, .int .i64 (rdM s.data.toList).z, vr, .string (rdM s.data.toList).key, .int .u64 ((rdM s.data.toList).sig : Int)], .bool (rdB s.data.toList)]) ∧ GR w' w.heap.size vr (rdM s.data.toList).l ∧ (rdB s.data.toList = true → ∃ g c, vr = .slice (some ⟨g, 0, none⟩) (rdM s.data.toList).l.length c ∧ (rdM s.data.toList).l.length ≤ c ∧ c ≤ maxLen) ∧ Below w.heap.size w w'

theorem lnA_sum : ∀ (l acc : List UInt8), (lnA acc l).1.length + (lnA acc l).2.length ≤ acc.length + l.length
  | [], acc => by simp [lnA]
  | b :: r, acc => by
    unfold lnA
    split
    · have := lnA_sum r []
      simp at this ⊢
      omega
    · have := lnA_sum r (acc ++ [b])
      simp at this ⊢
      omega
theorem allL_len (l : List UInt8) : (allL l).length ≤ l.length ∧ ∀ x ∈ allL l, x.length ≤ l.length := by
  have h := lnA_sum l []
  obtain ⟨h1, h2, h3⟩ := lnA_len l []
  simp only [List.length_nil, Nat.zero_add] at h h1 h3
  unfold allL
  split
  · exact ⟨by simp; omega, fun x hx => h1 x (by simpa using hx)⟩
  · next hne =>
    have : 0 < (lnA [] l).2.length := List.length_pos_iff.2 hne
    refine ⟨by simp; omega, fun x hx => ?_⟩
    rw [List.mem_append, List.mem_singleton] at hx
    rcases hx with hx | rfl
    · exact h1 x hx
    · exact h3
def foldP (pre : List ByteArray) : Mf := (pre.map (fun y => Lib.trimSuffix y.data.toList [10])).foldl (tk pI) M0
theorem foldP_next (pre : List ByteArray) (x : ByteArray) : foldP (pre ++ [x]) = tk pI (foldP pre) (Lib.trimSuffix x.data.toList [10]) := by
  unfold foldP
  rw [List.map_append, List.foldl_append]
  rfl
theorem foldP_all (s : ByteArray) : foldP (PLL s) = (allL s.data.toList).foldl (tk pI) M0 := by
  unfold foldP PLL
  rw [List.map_map, ← raw_trim]
  rfl

def zS (W : World) (b : Nat) : Prop := SixC W b (.string ⟨#[]⟩) (.string ⟨#[]⟩) (.int .i64 0) (.slice none 0 0) (.string ⟨#[]⟩) (.int .u64 0) ∧ ∀ j, W.frozen? ⟨b, j, none⟩ = false
theorem zS.kept {W W' : World} {b : Nat} (h : zS W b) (hb : W'.heap[b]? = W.heap[b]?) : zS W' b := ⟨h.1.kept hb, fun j => (World.frozen?_of_block (a := ⟨b, j, none⟩) hb).trans (h.2 j)⟩
theorem zS.lt {W : World} {b : Nat} (h : zS W b) : b < W.heap.size := World.block_lt_of_cell? _ _ h.1.1

/-- Behind the lines pre. -/
structure AI (w : World) (pre : List ByteArray) (W : World) : Prop where
  m : MP (w.heap.size + 1 + 1) (w.heap.size + 4) (w.heap.size + 1) (foldP pre) W
  z : zS W w.heap.size
  e : W.heap[w.heap.size + 1]? = some (.cells #[] 9 (0, 0))
  l : Below w.heap.size w W
  s : w.heap.size + 4 ≤ W.heap.size

theorem MP.grow {b B b1 : Nat} {M : Mf} {W W' : World} {row : Option Nat} (h : MP b B b1 M W) (hg : W.grownBy W' row) (hr : ∀ j, row = some j → j ≠ b ∧ (j < B ∨ ∃ o : Obj, W.heap[j]? = some o ∧ o.isCells = false)) : MP b B b1 M W' := by
  obtain ⟨vr, h6, hrw, hf⟩ := h
  have hlt : b < W.heap.size := World.block_lt_of_cell? _ _ h6.1
  have hbk : W'.heap[b]? = W.heap[b]? := hg.block b hlt (fun e => (hr b e.symm).1 rfl)
  refine ⟨vr, h6.kept hbk, hrw.kept (fun k hk ⟨cs, t, m, hc⟩ => hg.block k (Array.getElem?_eq_some_iff.1 hc).1 (fun e => ?_)), fun j => (World.frozen?_of_block (a := ⟨b, j, none⟩) hbk).trans (hf j)⟩
  rcases (hr k e.symm).2 with h | ⟨o, ho, hn⟩
  · omega
  · rw [hc] at ho
    cases ho
    cases hn
theorem AI.grow {w : World} {pre : List ByteArray} {W W' : World} {row : Option Nat} (h : AI w pre W) (hg : W.grownBy W' row) (hr : ∀ j, row = some j → w.heap.size + 2 < j ∧ (j < w.heap.size + 4 ∨ ∃ o : Obj, W.heap[j]? = some o ∧ o.isCells = false)) : AI w pre W' := by
  have hs := h.s
  refine ⟨h.m.grow hg (fun j e => ⟨by have := (hr j e).1; omega, (hr j e).2⟩), h.z.kept (hg.block _ (by omega) (fun e => by have := (hr _ e.symm).1; omega)), (hg.block _ (by omega) (fun e => by have := (hr _ e.symm).1; omega)).trans h.e, h.l.grown hg h.l.size (fun j e => by have := (hr j e).1; omega), Nat.le_trans hs hg.size⟩
/-- One line taken. -/
theorem AI.take {w : World} {pre : List ByteArray} {x : ByteArray} {W W' : World} (h : AI w pre W) (hM : MP (w.heap.size + 1 + 1) (w.heap.size + 4) (w.heap.size + 1) (tk pI (foldP pre) (Lib.trimSuffix x.data.toList [10])) W') (hk : TkK (w.heap.size + 1 + 1) (w.heap.size + 4) W W') : AI w (pre ++ [x]) W' := by
  have hs := h.s
  have hz := hk.keeps.size
  refine ⟨by rw [foldP_next]; exact hM, h.z.kept (hk.block _ (by omega) (by omega)), (hk.block _ (by omega) (by omega)).trans h.e, ⟨hk.os.trans h.l.os, hk.tape.trans h.l.tape, hk.output.trans h.l.output, by omega, fun k hkl => (hk.block k (by omega) (by omega)).trans (h.l.block k hkl)⟩, by omega⟩
def mRow (g : Nat) : Obj := .cells #[.string ⟨#[]⟩, .string ⟨#[]⟩, .int .i64 0, .slice (some ⟨g, 0, none⟩) 0 0, .string ⟨#[]⟩, .int .u64 0] 43
theorem AI.start (w : World) (s : ByteArray) : AI w [] ((((w.alloc zM).alloc (.cells #[] 9)).alloc (mRow (w.heap.size + 1))).alloc (.cells #[.string s] 9)) ∧ Boxed ((((w.alloc zM).alloc (.cells #[] 9)).alloc (mRow (w.heap.size + 1))).alloc (.cells #[.string s] 9)) (w.heap.size + 1 + 1 + 1) 9 (.string s) := by
  obtain ⟨W1, h1⟩ : ∃ W1, w.alloc zM = W1 := ⟨_, rfl⟩
  obtain ⟨W2, h2⟩ : ∃ W2, W1.alloc (.cells #[] 9) = W2 := ⟨_, rfl⟩
  obtain ⟨W3, h3⟩ : ∃ W3, W2.alloc (mRow (w.heap.size + 1)) = W3 := ⟨_, rfl⟩
  rw [h1, h2, h3]
  have s1 : W1.heap.size = w.heap.size + 1 := by rw [← h1, World.size_alloc]
  have s2 : W2.heap.size = w.heap.size + 1 + 1 := by rw [← h2, World.size_alloc, s1]
  have s3 : W3.heap.size = w.heap.size + 1 + 1 + 1 := by rw [← h3, World.size_alloc, s2]
  have b34 : Below W3.heap.size W3 (W3.alloc (.cells #[.string s] 9)) := (Below.refl _ _).alloc (Nat.le_refl _) _
  have b23 : Below W2.heap.size W2 W3 := by rw [← h3]; exact (Below.refl _ _).alloc (Nat.le_refl _) _
  have b12 : Below W1.heap.size W1 W2 := by rw [← h2]; exact (Below.refl _ _).alloc (Nat.le_refl _) _
  have b01 : Below w.heap.size w W1 := by rw [← h1]; exact (Below.refl _ _).alloc (Nat.le_refl _) _
  have b24 := b23.trans (b34.mono b23.size)
  have b14 := b12.trans (b24.mono b12.size)
  have b04 := b01.trans (b14.mono b01.size)
  obtain ⟨z0, f0⟩ := zero_at w (W3.alloc (.cells #[.string s] 9)) (by rw [h1]; exact b14)
  have h6 := zero_six (w := W1) (o := .cells #[] 9) (v0 := .string ⟨#[]⟩) (v1 := .string ⟨#[]⟩) (v2 := .int .i64 0) (v3 := .slice (some ⟨w.heap.size + 1, 0, none⟩) 0 0) (v4 := .string ⟨#[]⟩) (v5 := .int .u64 0) (t := 43) (W3.alloc (.cells #[.string s] 9)) (by rw [h2]; exact (show Below (W2.alloc (mRow (w.heap.size + 1))).heap.size (W2.alloc (mRow (w.heap.size + 1))) _ by rw [h3]; exact b34))
  rw [s1] at h6
  have he : (W3.alloc (.cells #[.string s] 9)).heap[w.heap.size + 1]? = some (.cells #[] 9 (0, 0)) := by
    rw [b24.block _ (by omega), ← h2, ← s1]
    exact World.alloc_heap_new W1 _
  refine ⟨⟨⟨_, h6.1, .inl ⟨rfl, rfl⟩, h6.2⟩, ⟨z0, f0⟩, he, b04, by rw [World.size_alloc]; omega⟩, ?_⟩
  have := Boxed.new W3 9 (.string s)
  rwa [s3] at this

/-- What the program decides. -/
theorem dec_yes {s : ByteArray} {M : Mf} (hsg : M.sig < 18446744073709551616) (hne : ¬ mtT M.path M.sum M.key M.z M.sig M.l M.l.length = ⟨#[]⟩) (hT : mtT M.path M.sum M.key M.z M.sig M.l M.l.length = s) : rdM s.data.toList = { M with ok := true } ∧ rdB s.data.toList = true :=
  rd_yes (decide_yes (M := { M with ok := true }) (by rw [← hT]; exact hne) rfl hsg hT)
theorem dec_no2 {s : ByteArray} (h : mtT (foldP (PLL s)).path (foldP (PLL s)).sum (foldP (PLL s)).key (foldP (PLL s)).z (foldP (PLL s)).sig (foldP (PLL s)).l (foldP (PLL s)).l.length = ⟨#[]⟩ ∨ ¬ mtT (foldP (PLL s)).path (foldP (PLL s)).sum (foldP (PLL s)).key (foldP (PLL s)).z (foldP (PLL s)).sig (foldP (PLL s)).l (foldP (PLL s)).l.length = s) : rdM s.data.toList = M0 ∧ rdB s.data.toList = false :=
  rd_no (decide_no pI_itoa (fun ⟨h1, h2, h3, h4⟩ => by
    have e : foldP (PLL s) = (lnA [] s.data.toList).1.foldl (tk pI) M0 := by
      rw [foldP_all]
      unfold allL
      rw [if_pos h1, List.append_nil]
    rw [e] at h
    rcases h with h | h
    · exact h3 (h4.symm.trans h)
    · exact h h4))

/-- What stands behind ManifestText. -/
structure Fin (w w2 : World) (D : Nat) (M : Mf) (vr : Value) : Prop where
  m : SixC w2 (w.heap.size + 1 + 1) (.string M.path) (.string M.sum) (.int .i64 M.z) vr (.string M.key) (.int .u64 (M.sig : Int))
  z : SixC w2 w.heap.size (.string ⟨#[]⟩) (.string ⟨#[]⟩) (.int .i64 0) (.slice none 0 0) (.string ⟨#[]⟩) (.int .u64 0)
  f : ∀ j, w2.frozen? ⟨w.heap.size, j, none⟩ = false
  d : w2.heap[D]? = some (.deferred (some []))
  r : Rw (w.heap.size + 4) (w.heap.size + 1) w2 vr M.l
  e : w2.heap[w.heap.size + 1]? = some (.cells #[] 9 (0, 0))
  l : Below w.heap.size w w2
  D4 : w.heap.size + 4 ≤ D
/-- The answer written. -/
def six6 (W : World) (b : Nat) (v0 v1 v2 v3 v4 v5 : Value) : World := (((((W.setCell ⟨b, 0, none⟩ v0).setCell ⟨b, 1, none⟩ v1).setCell ⟨b, 2, none⟩ v2).setCell ⟨b, 3, none⟩ v3).setCell ⟨b, 4, none⟩ v4).setCell ⟨b, 5, none⟩ v5
theorem Fin.def6 {w w2 : World} {D : Nat} {M : Mf} {vr v0 v1 v2 v3 v4 v5 : Value} (h : Fin w w2 D M vr) : (six6 w2 w.heap.size v0 v1 v2 v3 v4 v5).heap[D]? = some (.deferred (some [])) := (six_blk (by have := h.D4; omega)).trans h.d
theorem Fin.six0 {w w2 : World} {D : Nat} {M : Mf} {vr v0 v1 v2 v3 v4 v5 : Value} (h : Fin w w2 D M vr) : SixC ((six6 w2 w.heap.size v0 v1 v2 v3 v4 v5).putObj D (.deferred none)) w.heap.size v0 v1 v2 v3 v4 v5 := by
  have h6 : SixC (six6 w2 w.heap.size v0 v1 v2 v3 v4 v5) w.heap.size v0 v1 v2 v3 v4 v5 := six _ _ _ _ _ _ h.z
  exact h6.kept (World.putObj_heap_other (by have := h.D4; omega))
theorem Fin.bel {w w2 : World} {D : Nat} {M : Mf} {vr v0 v1 v2 v3 v4 v5 : Value} (h : Fin w w2 D M vr) : Below w.heap.size w ((six6 w2 w.heap.size v0 v1 v2 v3 v4 v5).putObj D (.deferred none)) :=
  (six_bel h.l (Nat.le_refl _)).trans (belowK_b (w := w) (Nat.le_refl _) _ D _ _ (by have := h.D4; omega) h.def6 rfl rfl)
theorem Fin.no {w w2 : World} {D : Nat} {M : Mf} {vr : Value} {s : ByteArray} (h : Fin w w2 D M vr) (hn : rdM s.data.toList = M0 ∧ rdB s.data.toList = false) : RdR w ((six6 w2 w.heap.size (.string ⟨#[]⟩) (.string ⟨#[]⟩) (.int .i64 0) (.slice none 0 0) (.string ⟨#[]⟩) (.int .u64 0)).putObj D (.deferred none)) s (.returned (.tuple #[.agg #[.string ⟨#[]⟩, .string ⟨#[]⟩, .int .i64 0, .slice none 0 0, .string ⟨#[]⟩, .int .u64 0], .bool false])) :=
  ⟨.slice none 0 0, by rw [hn.1, hn.2]; rfl, by rw [hn.1]; exact .inl ⟨rfl, rfl⟩, (fun e => by rw [hn.2] at e; cases e), h.bel⟩
theorem hyc_of {w w2 : World} {D : Nat} {M : Mf} {vr : Value} {s : ByteArray} (h : Fin w w2 D M vr) (hy : rdM s.data.toList = { M with ok := true }) : rdB s.data.toList = true → ∃ g c, vr = .slice (some ⟨g, 0, none⟩) (rdM s.data.toList).l.length c ∧ (rdM s.data.toList).l.length ≤ c ∧ c ≤ maxLen := fun _ => by
  rw [hy]
  show ∃ g c, vr = .slice (some ⟨g, 0, none⟩) M.l.length c ∧ M.l.length ≤ c ∧ c ≤ maxLen
  rcases h.r with ⟨rfl, hl⟩ | ⟨ho, hv⟩
  · exact ⟨w.heap.size + 1, 0, by rw [hl]; rfl, by rw [hl]; exact Nat.le_refl _, by unfold maxLen; omega⟩
  · rcases ho.2 with ⟨h1, _⟩ | ⟨g, cap, cur, h1, _, _, h2, h3, _⟩
    · exact absurd h1 hv
    · exact ⟨g, cap, h1, h2, h3⟩
theorem Fin.yes {w w2 : World} {D : Nat} {M : Mf} {vr : Value} {s : ByteArray} (h : Fin w w2 D M vr) (hy : rdM s.data.toList = { M with ok := true } ∧ rdB s.data.toList = true) : RdR w ((six6 w2 w.heap.size (.string M.path) (.string M.sum) (.int .i64 M.z) vr (.string M.key) (.int .u64 (M.sig : Int))).putObj D (.deferred none)) s (.returned (.tuple #[.agg #[.string M.path, .string M.sum, .int .i64 M.z, vr, .string M.key, .int .u64 (M.sig : Int)], .bool true])) := by
  refine ⟨vr, by rw [hy.1, hy.2], ?_, hyc_of h hy.1, h.bel⟩
  rw [hy.1]
  show GR _ _ _ M.l
  have hD := h.D4
  have hk : ∀ k, w.heap.size < k → k ≠ D → ((six6 w2 w.heap.size (.string M.path) (.string M.sum) (.int .i64 M.z) vr (.string M.key) (.int .u64 (M.sig : Int))).putObj D (.deferred none)).heap[k]? = w2.heap[k]? := fun k h1 h2 => (World.putObj_heap_other h2).trans (six_blk (by omega))
  rcases h.r with ⟨rfl, hl⟩ | ⟨ho, hv⟩
  · refine .inr ⟨w.heap.size + 1, 0, by rw [hl]; rfl, by omega, ⟨⟨#[], (hk _ (by omega) (by omega)).trans h.e, by rw [hl]; simp⟩, .inl (by rw [hl]; rfl)⟩⟩
  · obtain ⟨g, cap, rfl, hg, -, hr⟩ := own_Ss ho hv
    refine .inr ⟨g, cap, rfl, by omega, hr.kept (hk _ (by omega) (fun e => ?_))⟩
    obtain ⟨⟨cs, hc, _⟩, _⟩ := hr
    rw [e, h.d] at hc
    cases hc

set_option maxHeartbeats 4000000 in
set_option maxRecDepth 100000 in
theorem iread_any (s : ByteArray) (hs : s.size ≤ 1048576) (w : World) (hE : EC w) (hML : ML w) (hT : wd.TabB w) (hP : PwT w) :
    Calls Tryz.prog 41 #[.string s] w fun e w' => RdR w w' s e := by
  have HPL : Hid (∀ x, x ∈ PLL s → (Lib.trimSuffix x.data.toList [10]).length ≤ 1048576 ∧ x.data.toList.length ≤ 1048577) := fun x hx => by
    obtain ⟨y, hy, rfl⟩ := List.mem_map.1 hx
    have hz : s.data.toList.length = s.size := by simp
    have hm : Lib.trimSuffix y [10] ∈ allL s.data.toList := by rw [← raw_trim]; exact List.mem_map.2 ⟨y, hy, rfl⟩
    have h1 := (allL_len s.data.toList).2 _ hm
    refine ⟨by show (Lib.trimSuffix y [10]).length ≤ _; omega, ?_⟩
    show y.length ≤ 1048577
    unfold Lib.trimSuffix at h1
    split at h1
    · simp at h1; omega
    · omega
  have HSZ : Hid (∀ pre, pre <+: PLL s → SzF 1048576 pre.length (foldP pre) ∧ pre.length ≤ 1048576) := fun pre hp => by
    have hz : s.data.toList.length = s.size := by simp
    have hlen : pre.length ≤ (allL s.data.toList).length := by
      have := hp.length_le
      unfold PLL at this
      rw [← raw_trim]
      simpa using this
    have h2 := (allL_len s.data.toList).1
    have := SzF.fold (f := pI) (pre.map (fun y => Lib.trimSuffix y.data.toList [10])) 0 M0 (SzF.zero 1048576) (fun x hx => by
      obtain ⟨y, hy, rfl⟩ := List.mem_map.1 hx
      exact (HPL.out y (hp.subset hy)).1)
    rw [List.length_map, Nat.zero_add] at this
    exact ⟨this, by omega⟩
  have HE : Hid (∀ W, Below w.heap.size w W → EC W ∧ ML W ∧ wd.TabB W ∧ PwT W) := fun W h => ⟨hE.below h, hML.below h, hT.below h, hP.below h⟩
  clear hE hML hT hP
  refine (callsIn_wide (n := 3)).1 ?_
  refine callsIn_of_wp_marks Tryz.func41 rfl trivial ?_ rfl
  simp only [Tryz.ntmps41, List.size_toArray, List.length_cons, List.length_nil, Nat.reduceAdd, Nat.reduceSub, Array.replicate_succ, Array.replicate_zero, List.push_toArray, List.append_toArray, List.nil_append, List.cons_append]
  gi_wp2_with (refine ⟨trivial, ?_⟩; gi_at_call 59; refine (callsIn_wide.2 (lseq_any s _)).mono ?_; rintro e w' ⟨rfl, rfl⟩)
  obtain ⟨hA0, hbx⟩ := AI.start w s
  unfold zM mRow at hA0 hbx
  have hs0 : ((((w.alloc zM).alloc (.cells #[] 9)).alloc (mRow (w.heap.size + 1))).alloc (.cells #[.string s] 9)).heap.size = w.heap.size + 4 := by simp
  unfold zM mRow at hs0
  obtain ⟨W0, hW0⟩ : ∃ W0, ((((w.alloc (.cells #[.string ⟨#[]⟩, .string ⟨#[]⟩, .int .i64 0, .slice none 0 0, .string ⟨#[]⟩, .int .u64 0] 43)).alloc (.cells #[] 9)).alloc (.cells #[.string ⟨#[]⟩, .string ⟨#[]⟩, .int .i64 0, .slice (some ⟨w.heap.size + 1, 0, none⟩) 0 0, .string ⟨#[]⟩, .int .u64 0] 43)).alloc (.cells #[.string s] 9)) = W0 := ⟨_, rfl⟩
  rw [hW0] at hA0 hbx hs0 ⊢
  clear hW0
  refine range_t (by decide) (gf := 83) (lb := #[.pointer (some ⟨w.heap.size + 1 + 1 + 1, 0, none⟩)]) rfl (enters_of Tryz.func83 (by kernel_rfl) rfl)
    (lines_hands 2 (w.heap.size + 1 + 1 + 1) s hs W0 (by decide) hbx) (fun r e => by rw [e]; omega)
    (fun A X C h1 h2 => ⟨Nat.le_trans h1.1 h2.1, h2.2.trans h1.2⟩)
    (fun W l o o' hl h1 h2 h3 => ⟨by simp, World.putObj_heap_other (by omega)⟩) rfl
    (AI w) (fun _ _ => False)
    (fun s W W' row h hg hr => h.grow hg (fun j e => ⟨by have := (hr j e).1; omega, .inr (hr j e).2⟩)) (fun s W W' row h hg hr => h)
    (fun s W W' row h hg hr => h.grow hg (fun j e => by have := hr j e; exact ⟨by omega, .inl (by omega)⟩)) (fun s W W' row h hg hr => h)
    hA0
    (fun x => { tmps := #[.string s, undef, .pointer (some ⟨w.heap.size, 0, none⟩), .bool false, .pointer (some ⟨w.heap.size + 1 + 1, 0, none⟩), .string x, undef, undef, undef, undef, .slice (some ⟨w.heap.size + 1, 0, none⟩) 0 0, .agg #[.string ⟨#[]⟩, .string ⟨#[]⟩, .int .i64 0, .slice (some ⟨w.heap.size + 1, 0, none⟩) 0 0, .string ⟨#[]⟩, .int .u64 0], .string s, .func (.func 83) #[] #[.pointer (some ⟨w.heap.size + 1 + 1 + 1, 0, none⟩)], .string x, undef, undef, undef, undef, undef, undef, undef, undef, undef, undef, undef, undef, undef, undef, undef, undef, undef, undef, undef, undef, undef], defers := [] })
    ?assign ?body ?done ?stop
  case assign =>
    intro l x W K hK
    gi_wp2
    exact hK
  case body =>
    intro l pre x W hi hp
    obtain ⟨T, hT⟩ : ∃ T, Lib.trimSuffix x.data.toList [10] = T := ⟨_, rfl⟩
    obtain ⟨hTl, hxl⟩ := HPL.out x (hp.subset (by simp : x ∈ pre ++ [x]))
    obtain ⟨hsz, hpl⟩ := HSZ.out pre ((List.prefix_append pre [x]).trans hp)
    have hn := hsz.len
    obtain ⟨qE, qM, qT, qP⟩ := HE.out W hi.l
    have HTS : Hid (Calls Tryz.prog 61 #[.string x, .string ⟨#[10]⟩] W fun e w' => e = .returned (.string (BA T)) ∧ w' = W) := by
      have := its_any x.data.toList hxl W
      rwa [BA_of, hT] at this
    rw [hT] at hTl
    have HCT : Hid (Calls Tryz.prog 60 #[.string (BA T), .string ⟨#[32]⟩] W fun e w' => (∃ b : Bool, e = .returned (.tuple #[.string (BA (cutW T)), .string (BA (cutR T)), .bool b])) ∧ Below W.heap.size W w') := icut_any T hTl W qM
    have HTK : Hid (∀ W2, Below W.heap.size W W2 → Calls Tryz.prog 62 #[.pointer (some ⟨w.heap.size + 1 + 1, 0, none⟩), .string (BA (cutW T)), .string (BA (cutR T))] W2 fun e w' => TkR (w.heap.size + 1 + 1) (w.heap.size + 4) (w.heap.size + 1) (tk pI (foldP pre) T) W2 w' e) := fun W2 h => take_any _ _ _ T hTl _ W2 (by omega) (by have := hi.s; have := h.size; omega) (hi.m.below h) (by omega) (qE.below h) (qT.below h)
    have HFI : Hid (∀ W2 W3, Below W.heap.size W W2 → MP (w.heap.size + 1 + 1) (w.heap.size + 4) (w.heap.size + 1) (tk pI (foldP pre) T) W3 → TkK (w.heap.size + 1 + 1) (w.heap.size + 4) W2 W3 → KeepsFrom W0.heap.size W W3 ∧ Kb (w.heap.size + 1 + 1 + 1) W W3 ∧ AI w (pre ++ [x]) W3) := fun W2 W3 h hm hk => by
      have hs := hi.s
      have k1 : KeepsOthers W W3 := (keeps_below h).trans hk.keeps
      have hk' : TkK (w.heap.size + 1 + 1) (w.heap.size + 4) W W3 := ⟨k1, hk.os.trans h.os, hk.tape.trans h.tape, hk.output.trans h.output, fun k hkl hne => (hk.block k hkl hne).trans (h.block k (by omega))⟩
      exact ⟨k1.from _, ⟨k1.size, hk'.block _ (by omega) (by omega)⟩, hi.take (by rw [hT]; exact hm) hk'⟩
    clear hTl hxl hsz hpl hn qE qM qT qP hT hi hp
    gi_wp2_with (first
      | (refine ⟨trivial, ?_⟩; gi_at_call 61; refine (CallsIn.inRound l (callsIn_wide.2 HTS.out)).mono ?_; rintro e w1 ⟨rfl, hw⟩; have hw2 := hw.symm; subst hw2; clear hw)
      | (refine ⟨trivial, ?_⟩; gi_at_call 60; refine (CallsIn.inRound l (callsIn_wide.2 HCT.out)).mono ?_; rintro e w2 ⟨⟨bb, rfl⟩, hb2⟩; have HB2 := Lib.hid hb2; clear hb2)
      | (refine ⟨trivial, ?_⟩; gi_at_call 62; refine (CallsIn.inRound l (callsIn_wide.2 (HTK.out _ HB2.out))).mono ?_; rintro e w3 ⟨⟨v, rfl⟩, hm3, hk3⟩; have HF3 := Lib.hid (HFI.out _ _ HB2.out hm3 hk3); clear hm3 hk3))
    exact ⟨by have := HF3.out.1; rwa [hs0] at this, HF3.out.2⟩
  case done =>
    intro D W hD hi hK
    obtain ⟨hsz, hpl⟩ := HSZ.out _ (List.prefix_refl (PLL s))
    have hn := hsz.len
    have HYS : Hid (∀ T, mtT (foldP (PLL s)).path (foldP (PLL s)).sum (foldP (PLL s)).key (foldP (PLL s)).z (foldP (PLL s)).sig (foldP (PLL s)).l (foldP (PLL s)).l.length = T → ¬ T = ⟨#[]⟩ → T = s → rdM s.data.toList = { foldP (PLL s) with ok := true } ∧ rdB s.data.toList = true) := fun T e h1 h2 => dec_yes hsz.sig (by rw [e]; exact h1) (e.trans h2)
    have HNO : Hid (∀ T, mtT (foldP (PLL s)).path (foldP (PLL s)).sum (foldP (PLL s)).key (foldP (PLL s)).z (foldP (PLL s)).sig (foldP (PLL s)).l (foldP (PLL s)).l.length = T → (T = ⟨#[]⟩ ∨ ¬ T = s) → rdM s.data.toList = M0 ∧ rdB s.data.toList = false) := fun T e h => dec_no2 (by rw [e]; exact h)
    obtain ⟨M, hM⟩ : ∃ M, foldP (PLL s) = M := ⟨_, rfl⟩
    rw [hM] at HYS HNO hsz hn
    obtain ⟨hm, hz, he, hbl, hsW⟩ := hi
    rw [hM] at hm
    obtain ⟨T, hT⟩ : ∃ T, mtT M.path M.sum M.key M.z M.sig M.l M.l.length = T := ⟨_, rfl⟩
    obtain ⟨vr, h6, hrw, hff⟩ := hm
    obtain ⟨a, cp, hvr⟩ := hrw.shape
    subst hvr
    have hss : st.Ss W a M.l.length M.l := by
      rcases hrw with ⟨e, hl⟩ | ⟨ho, _⟩
      · rw [hl]; exact .inl rfl
      · obtain ⟨a', cp', e, h⟩ := own_Sa ho
        cases e
        exact h
    obtain ⟨qE, qM, qT, qP⟩ := HE.out W hbl
    have HMT : Hid (Calls Tryz.prog 63 #[.agg #[.string M.path, .string M.sum, .int .i64 M.z, .slice a M.l.length cp, .string M.key, .int .u64 (M.sig : Int)]] W fun e w' => e = .returned (.string T) ∧ Below W.heap.size W w') := by
      have := imt_any M.path M.sum M.key M.z M.sig M.l a M.l.length cp W hss (by omega) hsz.refs hsz.path hsz.sum hsz.key hsz.sig qT qP
      rwa [hT] at this
    have HFN : Hid (∀ w2, Below W.heap.size W w2 → Fin w w2 D M (.slice a M.l.length cp)) := fun w2 h => ⟨h6.belowM h, (hz.kept (h.block _ hz.lt)).1, (hz.kept (h.block _ hz.lt)).2, (h.block _ (Array.getElem?_eq_some_iff.1 hK).1).trans hK, hrw.below h, (h.block _ (by omega)).trans he, hbl.trans (h.mono hbl.size), by omega⟩
    obtain ⟨c0, c1, c2, c3, c4, c5⟩ := h6
    have HYT := Lib.hid (HYS.out T hT)
    have HNT := Lib.hid (HNO.out T hT)
    clear HYS HNO hM hT hsz hn hpl hrw hff hss qE qM qT qP hz he hbl hsW
    by_cases hTe : T = ⟨#[]⟩
    · have HN := Lib.hid (HNT.out (.inl hTe))
      have hTb : T.toList = [] := by rw [hTe, ByteArray.toList_eq]
      clear hTe HYT HNT
      gi_wp2_with (refine ⟨trivial, ?_⟩; gi_at_call 63; refine (callsIn_wide.2 HMT.out).mono ?_; rintro e w2 ⟨rfl, hb2⟩; have HF2 := Lib.hid (HFN.out _ hb2); clear hb2; refine Hid.out ?_)
      refine Lib.hid ?_
      obtain ⟨-, ⟨d0, d1, d2, d3, d4, d5⟩, hf0, -, -, -, -, -⟩ := HF2.out
      gi_wp2
      refine ⟨by simp, .inl ⟨_, _, rfl, run_takeDeferred HF2.out.def6, ?_⟩⟩
      have kk := HF2.out.six0 (v0 := .string ⟨#[]⟩) (v1 := .string ⟨#[]⟩) (v2 := .int .i64 0) (v3 := .slice none 0 0) (v4 := .string ⟨#[]⟩) (v5 := .int .u64 0)
      have hR := HF2.out.no HN.out
      unfold six6 at kk hR
      obtain ⟨k0, k1, k2, k3, k4, k5⟩ := kk
      refine ⟨.tuple #[.agg #[.string ⟨#[]⟩, .string ⟨#[]⟩, .int .i64 0, .slice none 0 0, .string ⟨#[]⟩, .int .u64 0], .bool false], ?_, hR⟩
      simp [results, Tryz.results41, go_sem, k0, k1, k2, k3, k4, k5]
    · have hTb : ¬ T.toList = [] := by
        rw [ByteArray.toList_eq]
        exact fun e => hTe (by apply ByteArray.ext; apply Array.ext'; exact e)
      have hTi : T.toList.isEmpty = false := by simpa using hTb
      by_cases hTs : T = s
      · have HY := Lib.hid (HYT.out hTe hTs)
        have hTq : (T.toList == s.toList) = true := by rw [hTs, beq_self_eq_true]
        clear hTe HYT HNT hTs
        gi_wp2_with (refine ⟨trivial, ?_⟩; gi_at_call 63; refine (callsIn_wide.2 HMT.out).mono ?_; rintro e w2 ⟨rfl, hb2⟩; have HF2 := Lib.hid (HFN.out _ hb2); clear hb2; refine Hid.out ?_)
        refine Lib.hid ?_
        obtain ⟨⟨p0, p1, p2, p3, p4, p5⟩, ⟨d0, d1, d2, d3, d4, d5⟩, hf0, -, -, -, -, -⟩ := HF2.out
        clear c0 c1 c2 c3 c4 c5
        gi_wp2
        refine ⟨by simp, .inl ⟨_, _, rfl, run_takeDeferred HF2.out.def6, ?_⟩⟩
        have kk := HF2.out.six0 (v0 := .string M.path) (v1 := .string M.sum) (v2 := .int .i64 M.z) (v3 := .slice a M.l.length cp) (v4 := .string M.key) (v5 := .int .u64 (M.sig : Int))
        have hR := HF2.out.yes HY.out
        unfold six6 at kk hR
        obtain ⟨k0, k1, k2, k3, k4, k5⟩ := kk
        refine ⟨.tuple #[.agg #[.string M.path, .string M.sum, .int .i64 M.z, .slice a M.l.length cp, .string M.key, .int .u64 (M.sig : Int)], .bool true], ?_, hR⟩
        simp [results, Tryz.results41, go_sem, k0, k1, k2, k3, k4, k5]
      · have HN := Lib.hid (HNT.out (.inr hTs))
        have hTq : (T.toList == s.toList) = false := by
          rw [ByteArray.toList_eq, ByteArray.toList_eq]
          exact beq_eq_false_iff_ne.2 (fun e => hTs (by apply ByteArray.ext; apply Array.ext'; exact e))
        have hTn : ¬ T.toList = s.toList := beq_eq_false_iff_ne.1 hTq
        clear hTe HYT HNT hTs
        gi_wp2_with (refine ⟨trivial, ?_⟩; gi_at_call 63; refine (callsIn_wide.2 HMT.out).mono ?_; rintro e w2 ⟨rfl, hb2⟩; have HF2 := Lib.hid (HFN.out _ hb2); clear hb2; refine Hid.out ?_)
        refine Lib.hid ?_
        obtain ⟨⟨p0, p1, p2, p3, p4, p5⟩, ⟨d0, d1, d2, d3, d4, d5⟩, hf0, -, -, -, -, -⟩ := HF2.out
        clear c0 c1 c2 c3 c4 c5
        gi_wp2
        refine ⟨by simp, .inl ⟨_, _, rfl, run_takeDeferred HF2.out.def6, ?_⟩⟩
        have kk := HF2.out.six0 (v0 := .string ⟨#[]⟩) (v1 := .string ⟨#[]⟩) (v2 := .int .i64 0) (v3 := .slice none 0 0) (v4 := .string ⟨#[]⟩) (v5 := .int .u64 0)
        have hR := HF2.out.no HN.out
        unfold six6 at kk hR
        obtain ⟨k0, k1, k2, k3, k4, k5⟩ := kk
        refine ⟨.tuple #[.agg #[.string ⟨#[]⟩, .string ⟨#[]⟩, .int .i64 0, .slice none 0 0, .string ⟨#[]⟩, .int .u64 0], .bool false], ?_, hR⟩
        simp [results, Tryz.results41, go_sem, k0, k1, k2, k3, k4, k5]
  case stop =>
    intro D pre W hD hp hx hK
    exact hx.elim

end Go.Proofs.YtkmhaemcpakobaaGreatDoor.mt

namespace Go.Proofs.YtkmhaemcpakobaaGreatDoor.bf
open Go.ChangeShapes Go.WideShapes Go.ChangeAt Go.RowKit Go.Deep
set_option linter.unusedVariables false
set_option linter.unusedSimpArgs false

/-! ### Numbers in groups of seven bits, and texts behind their sizes: both sides -/

theorem info5 : (Tryz.prog.info? 5).map (fun i => (i.zero, i.size, i.bytes)) = some (some (.int .u8 0), 1, 1) := by kernel_rfl

def num (n : Nat) : List UInt8 := if n < 128 then [UInt8.ofNat n] else UInt8.ofNat (n % 128 + 128) :: num (n / 128)
termination_by n
decreasing_by omega

theorem num_low {n : Nat} (h : n < 128) : num n = [UInt8.ofNat n] := by rw [num, if_pos h]
theorem num_high {n : Nat} (h : ¬ n < 128) : num n = UInt8.ofNat (n % 128 + 128) :: num (n / 128) := by rw [num, if_neg h]

theorem num_len : ∀ (k n : Nat), n < 128 * 2 ^ k → (num n).length ≤ k + 1
  | 0, n, h => by rw [num_low (by omega)]; simp
  | k + 1, n, h => by
    by_cases hn : n < 128
    · rw [num_low hn]; simp
    · rw [num_high hn]
      have := num_len k (n / 128) (by rw [Nat.pow_succ] at h; omega)
      simp; omega

theorem one_at (w : World) (x : UInt8) (V : Int) (e : TypeId) (hV : V = (x.toNat : Int)) : ∀ j u, (byteVals [x])[j]? = some u → (w.alloc (.cells #[.int .u8 V] e)).cell? ((⟨w.heap.size, 0, none⟩ : Addr).add j) = some u := by
  subst hV
  exact one_new w _ e

theorem one_at' (w : World) (k : Nat) (hk : k = w.heap.size) (x : UInt8) (V : Int) (e : TypeId) (hV : V = (x.toNat : Int)) : ∀ j u, (byteVals [x])[j]? = some u → (w.alloc (.cells #[.int .u8 V] e)).cell? ((⟨k, 0, none⟩ : Addr).add j) = some u := by
  subst hk
  exact one_at w x V e hV

theorem byte_val {n : Nat} (h : n < 256) : ((n : Nat) : Int) = ((UInt8.ofNat n).toNat : Int) := by
  simp [UInt8.toNat_ofNat]; omega

set_option maxRecDepth 100000 in
theorem num_any (base g cap z0 : Nat) (l : List UInt8) (n : Nat) (hn : n ≤ 1048576) (w : World) (h : Bf base w g cap l) (hl : l.length ≤ 1099511627000) (hz0 : z0 = l.length) :
    Calls Tryz.prog 56 #[.slice (some ⟨g, 0, none⟩) z0 cap, .int .i64 (n : Int)] w fun e w' => ∃ g' cap' z', e = .returned (.slice (some ⟨g', 0, none⟩) z' cap') ∧ Hid (z' = (l ++ num n).length) ∧ Ap base w g w' g' cap' (l ++ num n) := by
  have HZ0 : Hid (z0 = l.length) := hz0
  clear hz0
  go_enter Tryz.func56, Tryz.ntmps56
  go_wp2
  go_loopw [0, 1] (fun b x wr => ∃ (g' cap' m z : Nat) (pre : List UInt8), z = (l ++ pre).length ∧ b = .slice (some ⟨g', 0, none⟩) z cap' ∧ x = .int .i64 (m : Int) ∧ m ≤ n ∧ num n = pre ++ num m ∧ Ap base w g wr g' cap' (l ++ pre)) (fun _ x _ => (intOf x).toNat)
  case atStart => exact ⟨g, cap, n, z0, [], by rw [List.append_nil]; exact HZ0.out, rfl, rfl, Nat.le_refl _, rfl, by rw [List.append_nil]; exact Ap.refl h⟩
  case round =>
    obtain ⟨g', cap', m, z, pre, hz, rfl, rfl, hm, he, hap⟩ := hrel
    obtain ⟨L, hL⟩ : ∃ L, L = l ++ pre := ⟨_, rfl⟩
    rw [← hL] at hz hap
    have HLL : Hid (L = l ++ pre) := hL
    have HZ : Hid (z = L.length) := hz
    have HE : Hid (num n = pre ++ num m) := he
    have HL : Hid (L.length + 1 ≤ 1099511627776) := by
      have h1 := num_len 14 n (by rw [show 128 * 2 ^ 14 = 2097152 from rfl]; omega)
      rw [he, List.length_append] at h1
      show _ ≤ _
      rw [hL, List.length_append]
      omega
    have HAP : Hid (Ap base w g wr g' cap' L) := hap
    clear hz he hap hL
    by_cases hlt : m < 128
    · have hlt' : ¬ (128 : Int) ≤ (m : Int) := by omega
      obtain ⟨x, hx⟩ : ∃ x, x = UInt8.ofNat m := ⟨_, rfl⟩
      have HX : Hid (num n = pre ++ [x]) := by show _ = _; rw [HE.out, num_low hlt, hx]
      have HV : Hid ((m : Int) = (x.toNat : Int)) := by show _ = _; rw [hx]; exact byte_val (n := m) (by omega)
      clear hx
      go_wp2_with (first
        | (at_builtin; refine app_bytes _ rfl _ _ 22 rfl 5 Tryz.underlying22 info5 rfl HZ.out.symm ⟨wr.heap.size, 0, none⟩ 1 (m := [x]) rfl rfl (HAP.out.bf.below ((Below.refl _ _).alloc (Nat.le_refl _) _)) (one_at wr _ _ _ HV.out) HL.out ?_)
        | go_in)
      intro g2 c2 w2 n2 hn2 hap2
      have HA : Hid (Ap base w g w2 g2 c2 (l ++ num n)) := by
        have := HAP.out.trans (hap2.after ((Below.refl _ _).alloc (Nat.le_refl _) _))
        rwa [HLL.out, List.append_assoc, ← HX.out] at this
      have HN : Hid (n2 = (l ++ num n).length) := by have := hn2.out; have h2 := HLL.out; show n2 = _; rw [HX.out, ← List.append_assoc, ← h2]; simpa using this
      clear hap2 hn2
      go_wp2
      go_ret
      exact ⟨g2, c2, n2, rfl, HN, HA.out⟩
    · have hlt' : (128 : Int) ≤ (m : Int) := by omega
      obtain ⟨x, hx⟩ : ∃ x, x = UInt8.ofNat (m % 128 + 128) := ⟨_, rfl⟩
      have HV : Hid ((m : Int) % 128 + 128 = (x.toNat : Int)) := by show _ = _; rw [hx, ← byte_val (n := m % 128 + 128) (by omega)]; omega
      have HF : Hid (num n = (pre ++ [x]) ++ num (m / 128)) := by show _ = _; rw [HE.out, num_high hlt, hx]; simp
      clear hx
      go_wp2_with (first
        | (at_builtin; refine app_bytes _ rfl _ _ 22 rfl 5 Tryz.underlying22 info5 rfl HZ.out.symm ⟨wr.heap.size, 0, none⟩ 1 (m := [x]) rfl rfl (HAP.out.bf.below ((Below.refl _ _).alloc (Nat.le_refl _) _)) (one_at wr _ _ _ HV.out) HL.out ?_)
        | go_in)
      intro g2 c2 w2 n2 hn2 hap2
      have HA : Hid (Ap base w g w2 g2 c2 (l ++ (pre ++ [x]))) := by
        have := HAP.out.trans (hap2.after ((Below.refl _ _).alloc (Nat.le_refl _) _))
        rwa [HLL.out, List.append_assoc] at this
      have HN : Hid (n2 = (l ++ (pre ++ [x])).length) := by have := hn2.out; have h2 := HLL.out; show n2 = _; rw [← List.append_assoc, ← h2]; simpa using this
      clear hap2 hn2
      go_wp2
      go_roundw
      case rel => exact ⟨g2, c2, m / 128, n2, _, HN.out, rfl, by go_num, by omega, HF.out, HA.out⟩
      case measure => simp [intOf]; omega

set_option maxRecDepth 100000 in
theorem numb_any (base g cap z0 : Nat) (l : List UInt8) (n : Nat) (hn : n ≤ 1048576) (w : World) (h : Bf base w g cap l) (hl : l.length ≤ 1099511627000) (hz0 : z0 = l.length) :
    Calls Tryz.prog 99 #[.slice (some ⟨g, 0, none⟩) z0 cap, .int .i64 (n : Int)] w fun e w' => ∃ g' cap' z', e = .returned (.slice (some ⟨g', 0, none⟩) z' cap') ∧ Hid (z' = (l ++ num n).length) ∧ Ap base w g w' g' cap' (l ++ num n) := by
  have HZ0 : Hid (z0 = l.length) := hz0
  clear hz0
  go_enter Tryz.func99, Tryz.ntmps99
  go_wp2
  go_loopw [0, 5] (fun b x wr => ∃ (g' cap' m z : Nat) (pre : List UInt8), z = (l ++ pre).length ∧ b = .slice (some ⟨g', 0, none⟩) z cap' ∧ x = .int .u64 (m : Int) ∧ m ≤ n ∧ num n = pre ++ num m ∧ Ap base w g wr g' cap' (l ++ pre)) (fun _ x _ => (intOf x).toNat)
  case atStart => exact ⟨g, cap, n, z0, [], by rw [List.append_nil]; exact HZ0.out, rfl, by go_num, Nat.le_refl _, rfl, by rw [List.append_nil]; exact Ap.refl h⟩
  case round =>
    obtain ⟨g', cap', m, z, pre, hz, rfl, rfl, hm, he, hap⟩ := hrel
    obtain ⟨L, hL⟩ : ∃ L, L = l ++ pre := ⟨_, rfl⟩
    rw [← hL] at hz hap
    have HLL : Hid (L = l ++ pre) := hL
    have HZ : Hid (z = L.length) := hz
    have HE : Hid (num n = pre ++ num m) := he
    have HL : Hid (L.length + 1 ≤ 1099511627776) := by
      have h1 := num_len 14 n (by rw [show 128 * 2 ^ 14 = 2097152 from rfl]; omega)
      rw [he, List.length_append] at h1
      show _ ≤ _
      rw [hL, List.length_append]
      omega
    have HAP : Hid (Ap base w g wr g' cap' L) := hap
    clear hz he hap hL
    by_cases hlt : m < 128
    · have hlt' : ¬ (128 : Int) ≤ (m : Int) := by omega
      obtain ⟨x, hx⟩ : ∃ x, x = UInt8.ofNat m := ⟨_, rfl⟩
      have HX : Hid (num n = pre ++ [x]) := by show _ = _; rw [HE.out, num_low hlt, hx]
      have HV : Hid ((m : Int) = (x.toNat : Int)) := by show _ = _; rw [hx]; exact byte_val (n := m) (by omega)
      clear hx
      go_wp2_with (first
        | (at_builtin; refine app_bytes _ rfl _ _ 22 rfl 5 Tryz.underlying22 info5 rfl HZ.out.symm ⟨wr.heap.size, 0, none⟩ 1 (m := [x]) rfl rfl (HAP.out.bf.below ((Below.refl _ _).alloc (Nat.le_refl _) _)) (one_at wr _ _ _ HV.out) HL.out ?_)
        | go_in)
      intro g2 c2 w2 n2 hn2 hap2
      have HA : Hid (Ap base w g w2 g2 c2 (l ++ num n)) := by
        have := HAP.out.trans (hap2.after ((Below.refl _ _).alloc (Nat.le_refl _) _))
        rwa [HLL.out, List.append_assoc, ← HX.out] at this
      have HN : Hid (n2 = (l ++ num n).length) := by have := hn2.out; have h2 := HLL.out; show n2 = _; rw [HX.out, ← List.append_assoc, ← h2]; simpa using this
      clear hap2 hn2
      go_wp2
      go_ret
      exact ⟨g2, c2, n2, rfl, HN, HA.out⟩
    · have hlt' : (128 : Int) ≤ (m : Int) := by omega
      obtain ⟨x, hx⟩ : ∃ x, x = UInt8.ofNat (m % 128 + 128) := ⟨_, rfl⟩
      have HV : Hid ((m : Int) % 128 + 128 = (x.toNat : Int)) := by show _ = _; rw [hx, ← byte_val (n := m % 128 + 128) (by omega)]; omega
      have HF : Hid (num n = (pre ++ [x]) ++ num (m / 128)) := by show _ = _; rw [HE.out, num_high hlt, hx]; simp
      clear hx
      go_wp2_with (first
        | (at_builtin; refine app_bytes _ rfl _ _ 22 rfl 5 Tryz.underlying22 info5 rfl HZ.out.symm ⟨wr.heap.size, 0, none⟩ 1 (m := [x]) rfl rfl (HAP.out.bf.below ((Below.refl _ _).alloc (Nat.le_refl _) _)) (one_at wr _ _ _ HV.out) HL.out ?_)
        | go_in)
      intro g2 c2 w2 n2 hn2 hap2
      have HA : Hid (Ap base w g w2 g2 c2 (l ++ (pre ++ [x]))) := by
        have := HAP.out.trans (hap2.after ((Below.refl _ _).alloc (Nat.le_refl _) _))
        rwa [HLL.out, List.append_assoc] at this
      have HN : Hid (n2 = (l ++ (pre ++ [x])).length) := by have := hn2.out; have h2 := HLL.out; show n2 = _; rw [← List.append_assoc, ← h2]; simpa using this
      clear hap2 hn2
      go_wp2
      go_roundw
      case rel => exact ⟨g2, c2, m / 128, n2, _, HN.out, rfl, by go_num, by omega, HF.out, HA.out⟩
      case measure => simp [intOf]; omega

set_option maxRecDepth 100000 in
theorem text_any (base g cap z0 : Nat) (l : List UInt8) (S : ByteArray) (hS : S.size ≤ 1048576) (w : World) (h : Bf base w g cap l) (hl : l.length ≤ 1099510000000) (hz0 : z0 = l.length) :
    Calls Tryz.prog 57 #[.slice (some ⟨g, 0, none⟩) z0 cap, .string S] w fun e w' => ∃ g' cap' z', e = .returned (.slice (some ⟨g', 0, none⟩) z' cap') ∧ Hid (z' = (l ++ num S.size ++ S.data.toList).length) ∧ Ap base w g w' g' cap' (l ++ num S.size ++ S.data.toList) := by
  have HNA : Hid (Calls Tryz.prog 56 #[.slice (some ⟨g, 0, none⟩) z0 cap, .int .i64 (S.size : Int)] w fun e w' => ∃ g' cap' z', e = .returned (.slice (some ⟨g', 0, none⟩) z' cap') ∧ Hid (z' = (l ++ num S.size).length) ∧ Ap base w g w' g' cap' (l ++ num S.size)) := num_any base g cap z0 l S.size hS w h (by omega) hz0
  have HL : Hid ((l ++ num S.size).length + S.data.toList.length ≤ 1099511627776) := by
    show _ ≤ _
    have h1 := num_len 14 S.size (by rw [show 128 * 2 ^ 14 = 2097152 from rfl]; omega)
    have h2 : S.data.toList.length = S.size := by simp
    rw [List.length_append, h2]
    omega
  clear hz0 hl
  obtain ⟨L, hL⟩ : ∃ L, L = l ++ num S.size := ⟨_, rfl⟩
  obtain ⟨M, hM⟩ : ∃ M, M = S.data.toList := ⟨_, rfl⟩
  rw [← hL] at HNA HL ⊢
  rw [← hM] at HL ⊢
  have HML : Hid (M.length = S.size) := by show _ = _; rw [hM]; simp
  have HMS : Hid (M = S.data.toList) := hM
  clear hL hM
  go_enter Tryz.func57, Tryz.ntmps57
  go_wp2_with (go_at_call 56; refine HNA.out.mono ?_; rintro e w1 ⟨g1, c1, z1, rfl, hz1, ha1⟩; refine Hid.out ?_)
  refine Lib.hid ?_
  obtain ⟨cc, W1, hcv, hbf, hbw, hsz⟩ := conv_bf (P := Tryz.prog) w1 9 22 5 S (by omega) Tryz.underlying9 Tryz.underlying22 Tryz.underlying5
  rw [← HMS.out] at hbf
  have HC : Hid (∀ j u, (byteVals M)[j]? = some u → W1.cell? ((⟨w1.heap.size, 0, none⟩ : Addr).add j) = some u) := by
    intro j u hj
    obtain ⟨hj', rfl⟩ := byteVals_get hj
    rw [addr_add, Nat.zero_add]
    exact hbf.cells j hj'
  have HB1 : Hid (Bf base W1 g1 c1 L) := ha1.bf.below hbw
  have HW : Hid (Below w1.heap.size w1 W1) := hbw
  clear hbf hbw hsz
  go_wp2_with (first
    | (at_builtin; refine app_bytes _ rfl _ _ 22 rfl 5 Tryz.underlying22 info5 rfl hz1.out.symm ⟨w1.heap.size, 0, none⟩ cc (m := M) rfl HML.out HB1.out HC.out HL.out ?_)
    | go_in)
  intro g2 c2 w2 n2 hn2 hap2
  have HA : Hid (Ap base w g w2 g2 c2 (L ++ M)) := ha1.trans (hap2.after HW.out)
  clear hap2 ha1
  go_wp2
  go_ret
  exact ⟨g2, c2, n2, rfl, by have := hn2.out; show n2 = _; simpa using this, HA.out⟩

set_option maxRecDepth 100000 in
theorem piece_any (base g cap z0 : Nat) (l : List UInt8) (S : ByteArray) (hS : S.size ≤ 1048576) (w : World) (h : Bf base w g cap l) (hl : l.length ≤ 1099510000000) (hz0 : z0 = l.length) :
    Calls Tryz.prog 100 #[.slice (some ⟨g, 0, none⟩) z0 cap, .string S] w fun e w' => ∃ g' cap' z', e = .returned (.slice (some ⟨g', 0, none⟩) z' cap') ∧ Hid (z' = (l ++ num S.size ++ S.data.toList).length) ∧ Ap base w g w' g' cap' (l ++ num S.size ++ S.data.toList) := by
  have HNA : Hid (Calls Tryz.prog 99 #[.slice (some ⟨g, 0, none⟩) z0 cap, .int .i64 (S.size : Int)] w fun e w' => ∃ g' cap' z', e = .returned (.slice (some ⟨g', 0, none⟩) z' cap') ∧ Hid (z' = (l ++ num S.size).length) ∧ Ap base w g w' g' cap' (l ++ num S.size)) := numb_any base g cap z0 l S.size hS w h (by omega) hz0
  have HL : Hid ((l ++ num S.size).length + S.size ≤ 1099511627776) := by
    show _ ≤ _
    have h1 := num_len 14 S.size (by rw [show 128 * 2 ^ 14 = 2097152 from rfl]; omega)
    rw [List.length_append]
    omega
  clear hz0 hl
  obtain ⟨L, hL⟩ : ∃ L, L = l ++ num S.size := ⟨_, rfl⟩
  rw [← hL] at HNA HL ⊢
  clear hL
  go_enter Tryz.func100, Tryz.ntmps100
  go_wp2_with (first
    | (go_at_call 99; refine HNA.out.mono ?_; rintro e w1 ⟨g1, c1, z1, rfl, hz1, ha1⟩)
    | (at_builtin; refine app_text _ rfl _ _ 22 9 rfl 5 Tryz.underlying22 Tryz.underlying9 info5 rfl hz1.out.symm S rfl ha1.bf HL.out ?_)
    | go_in)
  intro g2 c2 w2 n2 hn2 hap2
  have HA : Hid (Ap base w g w2 g2 c2 (L ++ S.data.toList)) := ha1.trans hap2
  clear hap2 ha1
  go_wp2
  go_ret
  exact ⟨g2, c2, n2, rfl, by have := hn2.out; show n2 = _; simpa using this, HA.out⟩

end Go.Proofs.YtkmhaemcpakobaaGreatDoor.bf

namespace Go.Proofs.YtkmhaemcpakobaaGreatDoor.tt
open Go.ChangeShapes Go.WideShapes Go.ChangeAt Go.RowKit Go.Deep
set_option linter.unusedVariables false
set_option linter.unusedSimpArgs false

/-! ### Trees of files: the plain model -/

structure En where
  path : ByteArray
  kind : Int
  data : ByteArray
  exec : Bool

instance : Inhabited En := ⟨⟨⟨#[]⟩, 0, ⟨#[]⟩, false⟩⟩

def nameL (l : List UInt8) : Bool := nm.nameB ⟨l.toArray⟩

/-- Are these the names of a path: so many stand behind, this one is open, that is left. -/
def pk : Nat → List UInt8 → List UInt8 → Bool
  | c, cur, [] => nameL cur && decide (c < 8)
  | c, cur, b :: l => if b = 47 then (nameL cur && decide (c < 8)) && pk (c + 1) [] l else pk c (cur ++ [b]) l

def pOk (s : ByteArray) : Bool := pk 0 [] s.data.toList

/-- All of an entry but its path. -/
def cOk (e : En) : Bool :=
  decide (e.data.size ≤ 20000) && (if e.kind = 1 then decide (e.data.size = 0) && !e.exec else if e.kind = 2 then true else decide (e.kind = 3) && !decide (e.data.size = 0) && !e.exec)

def eOk (e : En) : Bool := pOk e.path && cOk e

/-- Where the last stroke stands. -/
def lst : List UInt8 → Option Nat
  | [] => none
  | b :: l => match lst l with
    | some i => some (i + 1)
    | none => if b = 47 then some 0 else none

theorem lst_none : ∀ {l : List UInt8}, lst l = none → ∀ j : Nat, l[j]? ≠ some (47 : UInt8)
  | [], _, j => by simp
  | b :: l, h, j => by
    unfold lst at h
    cases e : lst l with
    | some k => rw [e] at h; simp at h
    | none =>
      rw [e] at h
      simp only at h
      split at h
      · cases h
      · next hb =>
        cases j with
        | zero => simpa using hb
        | succ j => simpa using lst_none e j

theorem lst_some : ∀ {l : List UInt8} {i : Nat}, lst l = some i → l[i]? = some (47 : UInt8) ∧ ∀ j : Nat, i < j → l[j]? ≠ some (47 : UInt8)
  | [], i, h => by simp [lst] at h
  | b :: l, i, h => by
    unfold lst at h
    cases e : lst l with
    | some k =>
      rw [e] at h
      obtain rfl := Option.some.inj h
      obtain ⟨h1, h2⟩ := lst_some e
      refine ⟨by simpa using h1, fun j hj => ?_⟩
      obtain ⟨m, rfl⟩ : ∃ m, j = m + 1 := ⟨j - 1, by omega⟩
      simpa using h2 m (by omega)
    | none =>
      rw [e] at h
      simp only at h
      split at h
      · next hb =>
        obtain rfl := Option.some.inj h
        subst hb
        refine ⟨rfl, fun j hj hq => ?_⟩
        obtain ⟨m, rfl⟩ : ∃ m, j = m + 1 := ⟨j - 1, by omega⟩
        exact lst_none e m (by simpa using hq)
      · cases h

theorem lst_of {l : List UInt8} {i : Nat} (h1 : l[i]? = some (47 : UInt8)) (h2 : ∀ j : Nat, i < j → l[j]? ≠ some (47 : UInt8)) : lst l = some i := by
  cases e : lst l with
  | none => exact absurd h1 (lst_none e i)
  | some k =>
    obtain ⟨k1, k2⟩ := lst_some e
    rcases Nat.lt_trichotomy i k with h | h | h
    · exact absurd k1 (h2 k h)
    · rw [h]
    · exact absurd h1 (k2 i h)

theorem lst_no {l : List UInt8} (h : ∀ j : Nat, l[j]? ≠ some (47 : UInt8)) : lst l = none := by
  cases e : lst l with
  | none => rfl
  | some k => exact absurd (lst_some e).1 (h k)

/-- What is ahead of the last stroke; empty: there is none. -/
def up (l : List UInt8) : List UInt8 := match lst l with
  | some i => l.take i
  | none => []

def pth (E : Nat → En) (i : Nat) : List UInt8 := (E i).path.data.toList

/-- Ascending, up to a number. -/
def Asc (E : Nat → En) (n : Nat) : Prop := ∀ i j, i < j → j < n → pth E i < pth E j

/-- A directory of that path among the first. -/
def Dir (E : Nat → En) (n : Nat) (p : List UInt8) : Prop := ∃ j, j < n ∧ pth E j = p ∧ (E j).kind = 1

/-- A tree, so far. -/
def Tr (E : Nat → En) (k : Nat) : Prop := (∀ i, i < k → eOk (E i) = true) ∧ (∀ i, i + 1 < k → pth E i < pth E (i + 1)) ∧ ∀ i, i < k → up (pth E i) ≠ [] → Dir E i (up (pth E i))

theorem Tr.asc {E : Nat → En} {k : Nat} (h : Tr E k) : Asc E k := by
  intro i j hij hj
  induction j with
  | zero => omega
  | succ j ih =>
    rcases Nat.lt_or_ge i j with h' | h'
    · exact List.lt_trans (ih h' (by omega)) (h.2.1 j hj)
    · obtain rfl : i = j := by omega
      exact h.2.1 i hj

theorem Tr.zero (E : Nat → En) : Tr E 0 := ⟨fun i h => by omega, fun i h => by omega, fun i h => by omega⟩
theorem Tr.mono {E : Nat → En} {k m : Nat} (h : Tr E k) (hm : m ≤ k) : Tr E m := ⟨fun i hi => h.1 i (by omega), fun i hi => h.2.1 i (by omega), fun i hi => h.2.2 i (by omega)⟩
theorem Tr.next {E : Nat → En} {k : Nat} (h : Tr E k) (h1 : eOk (E k) = true) (h2 : 0 < k → pth E (k - 1) < pth E k) (h3 : up (pth E k) ≠ [] → Dir E k (up (pth E k))) : Tr E (k + 1) := by
  refine ⟨fun i hi => ?_, fun i hi => ?_, fun i hi => ?_⟩
  · rcases Nat.lt_or_ge i k with h' | h'
    · exact h.1 i h'
    · obtain rfl : i = k := by omega
      exact h1
  · rcases Nat.lt_or_ge (i + 1) k with h' | h'
    · exact h.2.1 i h'
    · obtain rfl : k = i + 1 := by omega
      exact h2 (by omega)
  · rcases Nat.lt_or_ge i k with h' | h'
    · exact h.2.2 i h'
    · obtain rfl : i = k := by omega
      exact h3

end Go.Proofs.YtkmhaemcpakobaaGreatDoor.tt

namespace Go.Proofs.YtkmhaemcpakobaaGreatDoor.sv
open Go.ChangeShapes Go.WideShapes Go.ChangeAt Go.RowKit Go.Deep
set_option linter.unusedVariables false
set_option linter.unusedSimpArgs false

/-! ### Of SvA and SvG what a seat without sorted versions needs -/

theorem not_nil (a : Addr) (n c : Nat) : (Value.slice (some a) n c) ≠ .slice none 0 0 := by intro e; cases e

/-- An append of a text, and where the row lies then. -/
theorem app_text (w : World) {ops : Array Oper} {rest : List Oper} {o : Oper} {a : Act} {Q : Exit → Act → World → Prop} (hgd : o.guard = none) (s x : Operand)
    (ho : o.op = .call { callee := .builtin .append, args := #[s, x], argTypes := #[41, 41] })
    (base : Nat) (v : Value) (xs : List (List UInt8)) (hs : a.eval s = v) (hown : sr.OwnS base w v xs)
    (ad : Addr) (m c : Nat) (ys : List (List UInt8)) (hx : a.eval x = .slice (some ad) m c) (hm : ys.length = m) (hnews : ∀ j u, (ys.map sr.strL)[j]? = some u → w.cell? (ad.add j) = some u) (hlen : xs.length + m ≤ 1000000) (hbase : base ≤ w.heap.size)
    (h : ∀ v' w', sr.OwnS base w' v' (xs ++ ys) → w.grownBy w' v.ownBlock → (v'.ownBlock = v.ownBlock ∨ v'.ownBlock = some w.heap.size) → wpList Tryz.prog ops Q rest (a.put o.dst v') w') : wpList Tryz.prog ops Q (o :: rest) a w := by
  obtain ⟨i0, hi, hz0, hz1, hz2⟩ := sr.info_parts sr.info9
  refine wpList_append_own_at w hgd s x 41 ho base 9 i0 _ 1 16 Tryz.underlying41 hi hz0 hz1 hz2 rfl (by omega) v xs.length (xs.map sr.strL) hs hown.1 ad m c (ys.map sr.strL) hx (by simpa using hm) hnews (sr.strL_one _) (by unfold maxLen; omega) (by omega) hbase ?_
  intro v' w' h1 h2 h3 h4
  exact h _ _ ⟨by rw [List.length_append, List.map_append, hm]; exact h1, fun e => hown.2 (h3.1 e).1⟩ h2 h4

theorem one_str (w : World) {l : List UInt8} {u : ByteArray} (h : sr.strL l = .string u) : ∀ j v, ([l].map sr.strL)[j]? = some v → (w.alloc (.cells #[.string u] 9)).cell? ((⟨w.heap.size, 0, none⟩ : Addr).add j) = some v := by
  rw [List.map_singleton, h]
  exact one_new w _ 9

theorem own_zeroS (w : World) : sr.OwnS w.heap.size (w.alloc (.cells #[] 9)) (.slice (some ⟨w.heap.size, 0, none⟩) 0 0) [] := ⟨sr.own_zero w, not_nil _ _ _⟩

theorem OwnS.bel {B : Nat} {w w' : World} {v : Value} {xs : List (List UInt8)} (h : sr.OwnS B w v xs) (hb : Below w.heap.size w w') : sr.OwnS B w' v xs := ⟨own_below h.1 hb, h.2⟩

end Go.Proofs.YtkmhaemcpakobaaGreatDoor.sv

namespace Go.Proofs.YtkmhaemcpakobaaGreatDoor.tt
open Go.ChangeShapes Go.WideShapes Go.ChangeAt Go.RowKit Go.Deep
set_option linter.unusedVariables false
set_option linter.unusedSimpArgs false

/-! ### Trees of files: the specification, a path and an entry -/

theorem bytes_ext (s : ByteArray) (a b : Nat) : (s.extract a b).data.toList = (s.data.toList.drop a).take (b - a) := by
  simp [ByteArray.data_extract, List.take_drop]

theorem drop_one {s : ByteArray} {pos : Nat} (h : pos < s.size) : s.data.toList.drop pos = s[pos] :: s.data.toList.drop (pos + 1) := by
  rw [List.drop_eq_getElem_cons (by simpa using h)]
  rfl

theorem ext_more {s : ByteArray} {a i : Nat} (ha : a ≤ i) (hi : i < s.size) : (s.extract a (i + 1)).data.toList = (s.extract a i).data.toList ++ [s[i]] := by
  rw [bytes_ext, bytes_ext, show i + 1 - a = (i - a) + 1 by omega, List.take_add, List.drop_drop, show a + (i - a) = i by omega, drop_one hi]
  rfl

theorem name_ext (s : ByteArray) (a b : Nat) : nm.nameB (s.extract a b) = nameL (s.extract a b).data.toList := by
  unfold nameL
  congr 1

theorem strL_b (B : ByteArray) : sr.strL B.data.toList = .string B := sr.strL_of B

set_option maxHeartbeats 4000000 in
set_option maxRecDepth 100000 in
theorem names_any (s : ByteArray) (hs : s.size ≤ 1048576) (w : World) :
    Calls Tryz.prog 80 #[.string s] w fun e w' => (∃ v, e = .returned (.tuple #[v, .bool (pOk s)])) ∧ Below w.heap.size w w' := by
  have hz : s.data.toList.length = s.size := by simp
  have HO0 : Hid (sr.OwnS w.heap.size (w.alloc (.cells #[] 9)) (.slice (some ⟨w.heap.size, 0, none⟩) 0 0) []) := sv.own_zeroS w
  have HP0 : Hid (pOk s = pk 0 (s.extract 0 0).data.toList (s.data.toList.drop 0)) := by show _ = _; unfold pOk; rw [bytes_ext]; rfl
  obtain ⟨R, hR⟩ : ∃ R, pOk s = R := ⟨_, rfl⟩
  rw [hR] at HP0 ⊢
  clear hR
  go_enter Tryz.func80, Tryz.ntmps80
  go_wp2
  go_loopw [4, 5, 6] (fun r x y wr => ∃ (f i : Nat) (acc : List (List UInt8)), x = .int .i64 (f : Int) ∧ y = .int .i64 (i : Int) ∧ i ≤ s.size + 1 ∧ acc.length ≤ 8 ∧ sr.OwnS w.heap.size wr r acc ∧ (i ≤ s.size ∧ f ≤ i ∧ R = pk acc.length (s.extract f i).data.toList (s.data.toList.drop i) ∨ i = s.size + 1 ∧ R = true) ∧ Below w.heap.size w wr) (fun _ _ y _ => s.size + 1 - (intOf y).toNat)
  case atStart => exact ⟨0, 0, [], rfl, rfl, by omega, by simp, HO0.out, .inl ⟨by omega, Nat.le_refl _, HP0.out⟩, (Below.refl _ _).alloc (Nat.le_refl _) _⟩
  case round =>
    obtain ⟨f, i, acc, rfl, rfl, hi, hac, hown, hst, hbel⟩ := hrel
    have HOW : Hid (sr.OwnS w.heap.size wr u4 acc) := hown
    have HBE : Hid (Below w.heap.size w wr) := hbel
    obtain ⟨ra, rc, hu⟩ := own_shape hown.1
    clear hown hbel
    by_cases hend : i = s.size + 1
    · have HE : Hid (R = true) := by
        rcases hst with ⟨h, _⟩ | ⟨_, h⟩
        · omega
        · exact h
      have hc : ¬ (i : Int) ≤ (s.size : Int) := by omega
      clear hst
      go_wp2
      go_ret2
      have hRR := HE.out
      subst hRR
      exact ⟨⟨_, rfl⟩, HBE.out⟩
    have hle : i ≤ s.size := by omega
    have hle' : (i : Int) ≤ (s.size : Int) := by omega
    obtain ⟨hfi, hR⟩ : f ≤ i ∧ R = pk acc.length (s.extract f i).data.toList (s.data.toList.drop i) := by
      rcases hst with ⟨_, h1, h2⟩ | ⟨h, _⟩
      · exact ⟨h1, h2⟩
      · omega
    have HR : Hid (R = pk acc.length (s.extract f i).data.toList (s.data.toList.drop i)) := hR
    have f0 : (0 : Int) ≤ (f : Int) := by omega
    have f1 : (f : Int) ≤ (i : Int) := by omega
    have f2 : (f : Int) ≤ (s.size : Int) := by omega
    have HNM : Hid (∀ W, Calls Tryz.prog 58 #[.string (s.extract f i)] W fun e w' => e = .returned (.bool (nameL (s.extract f i).data.toList)) ∧ w' = W) := fun W => by
      have := nm.spec_any (s.extract f i) (by simp; omega) W
      rwa [name_ext] at this
    obtain ⟨X, hX⟩ : ∃ X, s.extract f i = X := ⟨_, rfl⟩
    have HX : Hid (s.extract f i = X) := hX
    rw [hX] at HNM
    clear hst hR
    -- a piece ends
    have HSTEP : Hid (∀ b, nameL X.data.toList = b → (b && decide (acc.length < 8)) = false → (i = s.size ∨ ∃ h : i < s.size, s[i] = 47) → R = false) := fun b hb h0 h1 => by
      rw [HR.out, hX]
      rcases h1 with rfl | ⟨h, h47⟩
      · rw [List.drop_of_length_le (by omega), pk, hb, h0]
      · rw [drop_one h, pk, if_pos h47, hb, h0]; rfl
    by_cases hsep : i = s.size ∨ ∃ h : i < s.size, s[i] = 47
    · cases hnb : nameL X.data.toList with
      | false =>
        rw [hnb] at HNM
        have HF : Hid (R = false) := HSTEP.out false hnb rfl hsep
        clear hnb HSTEP
        rcases hsep with rfl | ⟨hlt, h47⟩
        · go_wp2_with (go_at_call 58; refine (HNM.out _).mono ?_; rintro e w2 ⟨rfl, hw2⟩; obtain rfl := hw2.symm; clear hw2)
          go_ret2
          have hRR := HF.out
          subst hRR
          exact ⟨⟨_, rfl⟩, HBE.out⟩
        · have hlt' : (i : Int) < (s.size : Int) := by omega
          have hne : ¬ (i : Int) = (s.size : Int) := by omega
          have hbi : (s[i].toNat : Int) = 47 := by rw [h47]; rfl
          clear h47
          go_wp2_with (go_at_call 58; refine (HNM.out _).mono ?_; rintro e w2 ⟨rfl, hw2⟩; obtain rfl := hw2.symm; clear hw2)
          go_ret2
          have hRR := HF.out
          subst hRR
          exact ⟨⟨_, rfl⟩, HBE.out⟩
      | true =>
        rw [hnb] at HNM
        by_cases hc8 : acc.length = 8
        · have hc8' : (acc.length : Int) = 8 := by omega
          have HF : Hid (R = false) := HSTEP.out true hnb (by simp; omega) hsep
          subst hu
          clear hnb HSTEP
          rcases hsep with rfl | ⟨hlt, h47⟩
          · go_wp2_with (go_at_call 58; refine (HNM.out _).mono ?_; rintro e w2 ⟨rfl, hw2⟩; obtain rfl := hw2.symm; clear hw2)
            go_ret2
            have hRR := HF.out
            subst hRR
            exact ⟨⟨_, rfl⟩, HBE.out⟩
          · have hlt' : (i : Int) < (s.size : Int) := by omega
            have hne : ¬ (i : Int) = (s.size : Int) := by omega
            have hbi : (s[i].toNat : Int) = 47 := by rw [h47]; rfl
            clear h47
            go_wp2_with (go_at_call 58; refine (HNM.out _).mono ?_; rintro e w2 ⟨rfl, hw2⟩; obtain rfl := hw2.symm; clear hw2)
            go_ret2
            have hRR := HF.out
            subst hRR
            exact ⟨⟨_, rfl⟩, HBE.out⟩
        · have hc8' : ¬ (acc.length : Int) = 8 := by omega
          have hc7 : acc.length < 8 := by omega
          have HNX : Hid (nameL X.data.toList = true) := hnb
          subst hu
          clear hnb HSTEP hc8
          rcases hsep with rfl | ⟨hlt, h47⟩
          · have HN : Hid (R = true) := by
              show _ = _
              rw [HR.out, HX.out, List.drop_of_length_le (by omega), pk, HNX.out]
              simpa using hc7
            go_wp2_with (first
              | (go_at_call 58; refine (HNM.out _).mono ?_; rintro e w2 ⟨rfl, hw2⟩; obtain rfl := hw2.symm; clear hw2)
              | (at_builtin; refine sv.app_text _ rfl _ _ rfl w.heap.size _ acc rfl ⟨HOW.out.1.alloc _, HOW.out.2⟩ ⟨_, 0, none⟩ 1 1 [X.data.toList] rfl rfl (sv.one_str _ (strL_b X)) (by omega) (by have := HBE.out.size; simp; omega) ?_; intro v4 w4 hown4 hg4 hat4; have HB4 : Hid (Below w.heap.size w w4) := below_grown (HBE.out.alloc HBE.out.size _) (HOW.out.1.alloc _) hg4 (by have := HBE.out.size; simp; omega); clear hg4 hat4)
              | go_in)
            go_roundw
            case rel => exact ⟨s.size + 1, s.size + 1, acc ++ [X.data.toList], by go_num, by go_num, by omega, by simp; omega, hown4, .inr ⟨rfl, HN.out⟩, HB4.out⟩
            case measure => simp [intOf]
          · have hlt' : (i : Int) < (s.size : Int) := by omega
            have hne : ¬ (i : Int) = (s.size : Int) := by omega
            have hbi : (s[i].toNat : Int) = 47 := by rw [h47]; rfl
            have HN : Hid (R = pk (acc ++ [X.data.toList]).length (s.extract (i + 1) (i + 1)).data.toList (s.data.toList.drop (i + 1))) := by
              show _ = _
              rw [HR.out, HX.out, drop_one hlt, pk, if_pos h47, HNX.out, bytes_ext s (i + 1) (i + 1)]
              simp [hc7]
            clear h47
            go_wp2_with (first
              | (go_at_call 58; refine (HNM.out _).mono ?_; rintro e w2 ⟨rfl, hw2⟩; obtain rfl := hw2.symm; clear hw2)
              | (at_builtin; refine sv.app_text _ rfl _ _ rfl w.heap.size _ acc rfl ⟨HOW.out.1.alloc _, HOW.out.2⟩ ⟨_, 0, none⟩ 1 1 [X.data.toList] rfl rfl (sv.one_str _ (strL_b X)) (by omega) (by have := HBE.out.size; simp; omega) ?_; intro v4 w4 hown4 hg4 hat4; have HB4 : Hid (Below w.heap.size w w4) := below_grown (HBE.out.alloc HBE.out.size _) (HOW.out.1.alloc _) hg4 (by have := HBE.out.size; simp; omega); clear hg4 hat4)
              | go_in)
            go_roundw
            case rel => exact ⟨i + 1, i + 1, acc ++ [X.data.toList], by go_num, by go_num, by omega, by simp; omega, hown4, .inl ⟨by omega, Nat.le_refl _, HN.out⟩, HB4.out⟩
            case measure => simp [intOf]; omega
    · have hlt : i < s.size := by
        rcases Nat.lt_or_ge i s.size with h | h
        · exact h
        · exact absurd (.inl (by omega)) hsep
      have h47 : ¬ s[i] = 47 := fun e => hsep (.inr ⟨hlt, e⟩)
      have hlt' : (i : Int) < (s.size : Int) := by omega
      have hne : ¬ (i : Int) = (s.size : Int) := by omega
      have hbn : ¬ s[i].toNat = 47 := fun e => h47 (UInt8.toNat.inj e)
      have hbi : ¬ (s[i].toNat : Int) = 47 := by omega
      have hbb : ((s[i].toNat : Int) == 47) = false := by simpa using hbi
      have HN : Hid (R = pk acc.length (s.extract f (i + 1)).data.toList (s.data.toList.drop (i + 1))) := by
        show _ = _
        rw [HR.out, drop_one hlt, pk, if_neg h47, ext_more hfi hlt]
      subst hu
      clear h47 hbn hsep HSTEP hX
      go_wp2
      go_roundw
      case rel => exact ⟨f, i + 1, acc, by first | rfl | trivial, by go_num, by omega, hac, HOW.out, .inl ⟨by omega, by omega, HN.out⟩, HBE.out⟩
      case measure => simp [intOf]; omega

end Go.Proofs.YtkmhaemcpakobaaGreatDoor.tt
