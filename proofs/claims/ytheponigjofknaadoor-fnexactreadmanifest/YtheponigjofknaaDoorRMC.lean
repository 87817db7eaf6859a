import Derived.Test.YtheponigjofknaaDoorRMB
import Derived.Test.YtheponigjofknaaDoorMO
namespace Go.Proofs.YtheponigjofknaaDoor.mt
open Go.ChangeShapes Go.WideShapes Go.ChangeAt Go.RowKit Go.Deep
set_option linter.unusedVariables false
set_option linter.unusedSimpArgs false

/-! ### Where a reader stands -/

theorem rwX_rng (s : ByteArray) : (((wd.rwX s).toNat : Nat) : Int) = wd.rwX s ∧ (wd.rwX s).toNat < 18446744073709551616 := by
  cases h : wd.rwB s with
  | true =>
    obtain ⟨y, h1, h2, _⟩ := wd.rw_back h
    rw [h2]
    exact ⟨by simp, by simpa using h1⟩
  | false =>
    have h0 : wd.rwX s = 0 := by
      unfold wd.rwB at h
      unfold wd.rwX
      split
      · next h13 =>
        simp [h13] at h
        rw [h]
        rfl
      · rfl
    rw [h0]
    exact ⟨rfl, by decide⟩

structure SzF (S c : Nat) (M : Mf) : Prop where
  path : M.path.size ≤ S
  sum : M.sum.size ≤ S
  key : M.key.size ≤ S
  sig : M.sig < 18446744073709551616
  len : M.l.length ≤ c
  refs : ∀ i, i < M.l.length → (st.atS M.l i).size ≤ S
theorem cutR_len : ∀ x : List UInt8, (cutR x).length ≤ x.length
  | [] => Nat.le_refl _
  | b :: r => by
    have := cutR_len r
    unfold cutR
    split
    · simp
    · simp; omega
theorem BA_size (x : List UInt8) : (BA x).size = x.length := by simp [BA, ByteArray.size]
theorem SzF.tk {S c : Nat} {f : List UInt8 → Int} {M : Mf} {x : List UInt8} (h : SzF S c M) (hx : x.length ≤ S) : SzF S (c + 1) (tk f M x) := by
  have hr : (BA (cutR x)).size ≤ S := by rw [BA_size]; exact Nat.le_trans (cutR_len x) hx
  obtain ⟨h1, h2, h3, h4, h5, h6⟩ := h
  unfold mt.tk
  split
  · exact ⟨hr, h2, h3, h4, by show M.l.length ≤ _; omega, h6⟩
  split
  · exact ⟨h1, hr, h3, h4, by show M.l.length ≤ _; omega, h6⟩
  split
  · exact ⟨h1, h2, h3, h4, by show M.l.length ≤ _; omega, h6⟩
  split
  · refine ⟨h1, h2, h3, h4, by show (M.l ++ _).length ≤ _; simp; omega, fun i hi => ?_⟩
    have hi' : i < M.l.length + 1 := by simpa using hi
    rcases Nat.lt_or_ge i M.l.length with h | h
    · have e : st.atS (M.l ++ [BA (cutR x)]) i = st.atS M.l i := by unfold st.atS; rw [List.getElem?_append_left h]
      show (st.atS (M.l ++ [BA (cutR x)]) i).size ≤ S
      rw [e]
      exact h6 i h
    · obtain rfl : i = M.l.length := by omega
      have e : st.atS (M.l ++ [BA (cutR x)]) M.l.length = BA (cutR x) := by unfold st.atS; rw [List.getElem?_append_right (Nat.le_refl _)]; simp
      show (st.atS (M.l ++ [BA (cutR x)]) M.l.length).size ≤ S
      rw [e]
      exact hr
  split
  · exact ⟨h1, h2, hr, h4, by show M.l.length ≤ _; omega, h6⟩
  split
  · exact ⟨h1, h2, h3, (rwX_rng _).2, by show M.l.length ≤ _; omega, h6⟩
  · exact ⟨h1, h2, h3, h4, by show M.l.length ≤ _; omega, h6⟩
theorem SzF.fold {S : Nat} {f : List UInt8 → Int} : ∀ (L : List (List UInt8)) (c : Nat) (M : Mf), SzF S c M → (∀ x ∈ L, x.length ≤ S) → SzF S (c + L.length) (L.foldl (mt.tk f) M)
  | [], c, M, h, _ => h
  | x :: L, c, M, h, hx => by
    have := SzF.fold (f := f) L (c + 1) (mt.tk f M x) (h.tk (f := f) (hx x List.mem_cons_self)) (fun y hy => hx y (List.mem_cons_of_mem _ hy))
    rw [List.foldl_cons, List.length_cons, show c + (L.length + 1) = c + 1 + L.length by omega]
    exact this
theorem SzF.zero (S : Nat) : SzF S 0 M0 := ⟨Nat.zero_le _, Nat.zero_le _, Nat.zero_le _, by decide, Nat.le_refl _, fun i hi => by simp [M0] at hi⟩

theorem lnA_len : ∀ (l acc : List UInt8), (∀ x ∈ (lnA acc l).1, x.length ≤ acc.length + l.length) ∧ (lnA acc l).1.length ≤ l.length ∧ (lnA acc l).2.length ≤ acc.length + l.length
  | [], acc => ⟨fun x hx => by simp [lnA] at hx, by simp [lnA], by simp [lnA]⟩
  | b :: r, acc => by
    unfold lnA
    split
    · obtain ⟨h1, h2, h3⟩ := lnA_len r []
      refine ⟨fun x hx => ?_, by simp; omega, by simp at h3 ⊢; omega⟩
      rcases List.mem_cons.1 hx with rfl | hx
      · simp
      · have := h1 x hx
        simp at this ⊢
        omega
    · obtain ⟨h1, h2, h3⟩ := lnA_len r (acc ++ [b])
      refine ⟨fun x hx => ?_, by simp; omega, by simp at h3 ⊢; omega⟩
      have := h1 x hx
      simp at this ⊢
      omega

/-- What decides: the reader's manifest is the text's, or none is. -/
theorem decide_yes {s : ByteArray} {M : Mf} (hne : s ≠ ⟨#[]⟩) (hok : M.ok = true) (hsig : M.sig < 18446744073709551616) (hT : mtT M.path M.sum M.key M.z M.sig M.l M.l.length = s) : Good s.data.toList M := by
  unfold mtT at hT
  split at hT
  · next h =>
    simp only [Bool.and_eq_true] at h
    refine ⟨h.1, h.2, hsig, hok, ?_⟩
    rw [← hT]
    rfl
  · exact absurd hT.symm hne
theorem decide_no {f : List UInt8 → Int} (hf : ∀ z : Int, 0 ≤ z → z ≤ 1000000 → f (Lib.itoa z) = z) {s : ByteArray} (h : ¬ ((lnA [] s.data.toList).2 = [] ∧ ((lnA [] s.data.toList).1.foldl (tk f) M0).ok = true ∧ s ≠ ⟨#[]⟩ ∧ mtT ((lnA [] s.data.toList).1.foldl (tk f) M0).path ((lnA [] s.data.toList).1.foldl (tk f) M0).sum ((lnA [] s.data.toList).1.foldl (tk f) M0).key ((lnA [] s.data.toList).1.foldl (tk f) M0).z ((lnA [] s.data.toList).1.foldl (tk f) M0).sig ((lnA [] s.data.toList).1.foldl (tk f) M0).l ((lnA [] s.data.toList).1.foldl (tk f) M0).l.length = s)) : ¬ ∃ M, Good s.data.toList M := fun ⟨M, hg⟩ => h (by
  obtain ⟨e1, e2⟩ := good_read hf hg
  rw [e2]
  refine ⟨e1, hg.ok, fun e => ?_, ?_⟩
  · have := hg.text
    rw [e, txt_lines] at this
    have hl := congrArg List.length this
    simp [mLines, lin] at hl
  · unfold mtT
    rw [hg.hok, hg.name]
    show (⟨(txt M).toArray⟩ : ByteArray) = s
    rw [hg.text])

/-! ### The readers' memory -/
def KI (w : World) (B g n : Nat) (Ls : List ByteArray) (M : Mf) (wr : World) : Prop := ∃ vr, SixC wr (w.heap.size + 1) (.string M.path) (.string M.sum) (.int .i64 M.z) vr (.string M.key) (.int .u64 (M.sig : Int)) ∧ wr.ownsRow B 9 1 vr M.l.length (M.l.map Value.string) ∧ (∀ j, wr.frozen? ⟨w.heap.size + 1, j, none⟩ = false) ∧ SixC wr w.heap.size (.string ⟨#[]⟩) (.string ⟨#[]⟩) (.int .i64 0) (.slice none 0 0) (.string ⟨#[]⟩) (.int .u64 0) ∧ (∀ j, wr.frozen? ⟨w.heap.size, j, none⟩ = false) ∧ RwT wr g n Ls ∧ Below w.heap.size w wr ∧ B ≤ wr.heap.size

theorem SixC.belowM {w w' : World} {b : Nat} {v0 v1 v2 v3 v4 v5 : Value} (h : SixC w b v0 v1 v2 v3 v4 v5) (hb : Below w.heap.size w w') : SixC w' b v0 v1 v2 v3 v4 v5 := by
  have hl : b < w.heap.size := World.block_lt_of_cell? _ _ h.1
  obtain ⟨h0, h1, h2, h3, h4, h5⟩ := h
  exact ⟨(hb.cell (p := ⟨b, 0, none⟩) hl).trans h0, (hb.cell (p := ⟨b, 1, none⟩) hl).trans h1, (hb.cell (p := ⟨b, 2, none⟩) hl).trans h2, (hb.cell (p := ⟨b, 3, none⟩) hl).trans h3, (hb.cell (p := ⟨b, 4, none⟩) hl).trans h4, (hb.cell (p := ⟨b, 5, none⟩) hl).trans h5⟩

theorem own_kept {w w' : World} {B : Nat} {v : Value} {n : Nat} {xs : List Value} (h : w.ownsRow B 9 1 v n xs) (hk : ∀ k, B ≤ k → w'.heap[k]? = w.heap[k]?) : w'.ownsRow B 9 1 v n xs := by
  obtain ⟨e0, h'⟩ := h
  refine ⟨e0, ?_⟩
  rcases h' with h' | ⟨g, cap, cur, e, q1, q2, q3⟩
  · exact .inl h'
  · exact .inr ⟨g, cap, cur, e, q1, (hk g q1).trans q2, q3⟩

/-- A field of the manifest is written. -/
theorem KI.set {w wr : World} {B g n k : Nat} {Ls : List ByteArray} {M : Mf} {vr v : Value} (hg2 : w.heap.size + 2 ≤ g) (hgB : g < B) (h6 : SixC (wr.setCell ⟨w.heap.size + 1, k, none⟩ v) (w.heap.size + 1) (.string M.path) (.string M.sum) (.int .i64 M.z) vr (.string M.key) (.int .u64 (M.sig : Int))) (how : wr.ownsRow B 9 1 vr M.l.length (M.l.map Value.string)) (hf1 : ∀ j, wr.frozen? ⟨w.heap.size + 1, j, none⟩ = false) (hz : SixC wr w.heap.size (.string ⟨#[]⟩) (.string ⟨#[]⟩) (.int .i64 0) (.slice none 0 0) (.string ⟨#[]⟩) (.int .u64 0)) (hf0 : ∀ j, wr.frozen? ⟨w.heap.size, j, none⟩ = false) (hrw : RwT wr g n Ls) (hbel : Below w.heap.size w wr) (hB : B ≤ wr.heap.size) : KI w B g n Ls M (wr.setCell ⟨w.heap.size + 1, k, none⟩ v) := by
  refine ⟨vr, h6, own_kept how (fun q hq => blk_oth (by omega)), fun j => ?_, hz.far (by omega), fun j => ?_, hrw.kept (blk_oth (by omega)), hbel.setCell (p := ⟨w.heap.size + 1, k, none⟩) (by show w.heap.size ≤ w.heap.size + 1; omega) _, by rw [World.size_setCell]; exact hB⟩
  · rw [World.frozen?_setCell]; exact hf1 j
  · rw [World.frozen?_setCell]; exact hf0 j
theorem KI.below {w wr wr' : World} {B g n : Nat} {Ls : List ByteArray} {M : Mf} (h : KI w B g n Ls M wr) (hb : Below wr.heap.size wr wr') : KI w B g n Ls M wr' := by
  obtain ⟨vr, h6, how, hf1, hz, hf0, hrw, hbel, hB⟩ := h
  have hl1 : w.heap.size + 1 < wr.heap.size := World.block_lt_of_cell? _ _ h6.1
  exact ⟨vr, h6.belowM hb, own_below how hb, fun j => ((bcell hb).2 _ _ hl1).trans (hf1 j), hz.belowM hb, fun j => ((bcell hb).2 _ _ (by omega)).trans (hf0 j), hrw.below hb, hbel.trans (hb.mono hbel.size), Nat.le_trans hB hb.size⟩

end Go.Proofs.YtheponigjofknaaDoor.mt
