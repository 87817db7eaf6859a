import Derived.Test.YtheponigjofknaaDoorMK
import Derived.Test.YtheponigjofknaaDoorWM
import Derived.Test.YtheponigjofknaaDoorRE
import Derived.Lib.ItoaLen
namespace Go.Proofs.YtheponigjofknaaDoor.mt
set_option linter.unusedVariables false
set_option linter.unusedSimpArgs false

/-! ### What a manifest's text is read as: the plain model -/

/-- Lines that end, and what is left. -/
def lnA (acc : List UInt8) : List UInt8 → List (List UInt8) × List UInt8
  | [] => ([], acc)
  | b :: r => if b = 10 then (acc :: (lnA [] r).1, (lnA [] r).2) else lnA (acc ++ [b]) r
def cutW : List UInt8 → List UInt8
  | [] => []
  | b :: r => if b = 32 then [] else b :: cutW r
def cutR : List UInt8 → List UInt8
  | [] => []
  | b :: r => if b = 32 then r else cutR r
def BA (x : List UInt8) : ByteArray := ⟨x.toArray⟩
theorem BA_of (s : ByteArray) : BA s.data.toList = s := by cases s; simp [BA]

structure Mf where
  path : ByteArray
  sum : ByteArray
  key : ByteArray
  z : Int
  sig : Nat
  l : List ByteArray
  ok : Bool

def M0 : Mf := ⟨⟨#[]⟩, ⟨#[]⟩, ⟨#[]⟩, 0, 0, [], true⟩
def wPath : List UInt8 := [112, 97, 116, 104]
def wSum : List UInt8 := [115, 117, 109]
def wSize : List UInt8 := [115, 105, 122, 101]
def wRef : List UInt8 := [114, 101, 102]
def wKey : List UInt8 := [107, 101, 121]
def wSig : List UInt8 := [115, 105, 103]

/-- One line taken. -/
def tk (f : List UInt8 → Int) (M : Mf) (x : List UInt8) : Mf :=
  if cutW x = wPath then { M with path := BA (cutR x) }
  else if cutW x = wSum then { M with sum := BA (cutR x) }
  else if cutW x = wSize then { M with z := f (cutR x) }
  else if cutW x = wRef then { M with l := M.l ++ [BA (cutR x)] }
  else if cutW x = wKey then { M with key := BA (cutR x) }
  else if cutW x = wSig then { M with sig := (wd.rwX (BA (cutR x))).toNat, ok := M.ok && wd.rwB (BA (cutR x)) }
  else { M with ok := false }

def txt (M : Mf) : List UInt8 := mtL M.path M.sum M.key M.z M.sig M.l M.l.length
/-- This text is this manifest's. -/
structure Good (s : List UInt8) (M : Mf) : Prop where
  hok : hokB M.path M.sum M.z M.l M.l.length = true
  name : nm.nameB M.key = true
  sig : M.sig < 18446744073709551616
  ok : M.ok = true
  text : txt M = s

theorem lnA_line : ∀ (x acc r : List UInt8), (∀ b ∈ x, b ≠ 10) → lnA acc (x ++ 10 :: r) = ((acc ++ x) :: (lnA [] r).1, (lnA [] r).2)
  | [], acc, r, _ => by simp [lnA]
  | b :: x, acc, r, h => by
    have hb : b ≠ 10 := h b List.mem_cons_self
    rw [List.cons_append, lnA, if_neg hb, lnA_line x (acc ++ [b]) r (fun c hc => h c (List.mem_cons_of_mem _ hc))]
    simp
theorem lnA_all : ∀ (L : List (List UInt8)), (∀ x ∈ L, ∀ b ∈ x, b ≠ 10) → lnA [] ((L.map (· ++ [10])).flatten) = (L, [])
  | [], _ => rfl
  | x :: L, h => by
    have ih := lnA_all L (fun y hy => h y (List.mem_cons_of_mem _ hy))
    rw [List.map_cons, List.flatten_cons, List.append_assoc, List.singleton_append, lnA_line x [] _ (h x List.mem_cons_self), ih]
    simp

theorem cutW_at : ∀ (x y : List UInt8), (∀ b ∈ x, b ≠ 32) → cutW (x ++ 32 :: y) = x
  | [], y, _ => by simp [cutW]
  | b :: x, y, h => by
    rw [List.cons_append, cutW, if_neg (h b List.mem_cons_self), cutW_at x y (fun c hc => h c (List.mem_cons_of_mem _ hc))]
theorem cutR_at : ∀ (x y : List UInt8), (∀ b ∈ x, b ≠ 32) → cutR (x ++ 32 :: y) = y
  | [], y, _ => by simp [cutR]
  | b :: x, y, h => by
    rw [List.cons_append, cutR, if_neg (h b List.mem_cons_self), cutR_at x y (fun c hc => h c (List.mem_cons_of_mem _ hc))]

/-- The lines of a manifest. -/
def lin (w : List UInt8) (y : ByteArray) : List UInt8 := w ++ 32 :: y.data.toList
def mLines (M : Mf) : List (List UInt8) := [lin wPath M.path, lin wSum M.sum, lin wSize ⟨(Lib.itoa M.z).toArray⟩] ++ M.l.map (lin wRef) ++ [lin wKey M.key, lin wSig (wd.wordA M.sig)]

theorem refL_is (l : List ByteArray) (L : List UInt8) : ∀ k, k ≤ l.length → refL l L k = L ++ (((l.take k).map (lin wRef)).map (· ++ [10])).flatten
  | 0, _ => by simp [refL]
  | k + 1, h => by
    have ih := refL_is l L k (by omega)
    have e : l[k]? = some (st.atS l k) := by simp [st.atS, show k < l.length by omega]
    rw [refL, ih, List.take_add_one, e]
    simp [ln, lin, wRef]
theorem txt_lines (M : Mf) : txt M = ((mLines M).map (· ++ [10])).flatten := by
  unfold txt mtL headL
  rw [refL_is M.l _ M.l.length (Nat.le_refl _), List.take_length]
  simp [mLines, ln, lin, wPath, wSum, wSize, wKey, wSig]

/-! No line breaks in the parts. -/
theorem name_no {s : ByteArray} (h : nm.nameB s = true) : ∀ b ∈ s.data.toList, b ≠ 10 := fun b hb e => by
  subst e
  unfold nm.nameB at h
  simp only [Bool.and_eq_true] at h
  have ha := h.2
  unfold nm.allOk at ha
  rw [List.take_of_length_le (by simp), List.all_eq_true] at ha
  have := ha 10 hb
  revert this
  decide
theorem word_no (X : Nat) : ∀ b ∈ (wd.wordA X).data.toList, b ≠ 10 := fun b hb e => by
  subst e
  unfold wd.wordA at hb
  simp only [List.mem_map, List.mem_range] at hb
  obtain ⟨j, _, hj⟩ := hb
  unfold wd.digit wd.letU at hj
  have hlt : wd.dm X (12 - j) < wd.LET.length := Nat.mod_lt _ (by decide)
  rw [List.getElem?_eq_getElem hlt, Option.getD_some] at hj
  have hm := List.getElem_mem hlt
  rw [hj] at hm
  revert hm
  decide
theorem rw_no {s : ByteArray} (h : wd.rwB s = true) : ∀ b ∈ s.data.toList, b ≠ 10 := by
  obtain ⟨y, _, _, e⟩ := wd.rw_back h
  rw [← e]
  exact word_no y
theorem adr_no {s : ByteArray} (h : wd.aokB s = true) : ∀ b ∈ s.data.toList, b ≠ 10 := fun b hb => by
  unfold wd.aokB at h
  simp only [Bool.and_eq_true, decide_eq_true_eq] at h
  obtain ⟨h1, h2, h3, h4⟩ := h
  obtain ⟨i, hi⟩ := List.mem_iff_getElem?.1 hb
  have hil : i < s.data.toList.length := (List.getElem?_eq_some_iff.1 hi).1
  have hz : s.data.toList.length = s.size := by simp
  rcases Nat.lt_trichotomy i 13 with h | h | h
  · refine rw_no h3 b (List.mem_iff_getElem?.2 ⟨i, ?_⟩)
    have hsz : s.data.size = s.size := rfl
    rw [← hi]
    rw [ByteArray.data_extract, Array.getElem?_toList, Array.getElem?_toList, Array.getElem?_extract, if_pos (by omega)]
    simp
  · subst h
    rw [hi] at h2
    intro e
    subst e
    revert h2
    decide
  · refine name_no h4 b (List.mem_iff_getElem?.2 ⟨i - 14, ?_⟩)
    rw [← hi]
    have hsz : s.data.size = s.size := rfl
    rw [ByteArray.data_extract, Array.getElem?_toList, Array.getElem?_toList, Array.getElem?_extract, if_pos (by omega)]
    rw [show 14 + (i - 14) = i by omega]
theorem dec_no : ∀ (n : Nat), ∀ b ∈ Lib.decDigits n, b ≠ 10 := fun n => by
  induction n using Nat.strongRecOn with
  | _ n ih =>
    intro b hb
    rw [Lib.decDigits] at hb
    split at hb
    · simp at hb
      subst hb
      intro e
      have := congrArg UInt8.toNat e
      simp at this
      omega
    · rw [List.mem_append] at hb
      rcases hb with hb | hb
      · exact ih (n / 10) (by omega) b hb
      · simp at hb
        subst hb
        intro e
        have := congrArg UInt8.toNat e
        simp at this
        omega
theorem itoa_no {z : Int} (h0 : 0 ≤ z) : ∀ b ∈ Lib.itoa z, b ≠ 10 := by
  obtain ⟨k, rfl⟩ : ∃ k : Nat, z = (k : Int) := ⟨z.toNat, by omega⟩
  have : Lib.itoa (k : Int) = Lib.decDigits k := by simp [Lib.itoa]
  rw [this]
  exact dec_no k

theorem lines_no {M : Mf} (h : hokB M.path M.sum M.z M.l M.l.length = true) (hn : nm.nameB M.key = true) : ∀ x ∈ mLines M, ∀ b ∈ x, b ≠ 10 := by
  have hp := hok_parts h
  simp only [hokB, rfB, Bool.and_eq_true] at h
  obtain ⟨h1, h2, h3, h4, h5⟩ := h
  have hl : ∀ (w : List UInt8) (y : ByteArray), (∀ b ∈ w, b ≠ 10) → (∀ b ∈ y.data.toList, b ≠ 10) → ∀ b ∈ lin w y, b ≠ 10 := fun w y hw hy b hb => by
    unfold lin at hb
    rcases List.mem_append.1 hb with hb | hb
    · exact hw b hb
    · rcases List.mem_cons.1 hb with rfl | hb
      · decide
      · exact hy b hb
  intro x hx
  simp only [mLines, List.mem_append, List.mem_cons, List.not_mem_nil, or_false, List.mem_map] at hx
  rcases hx with ((rfl | rfl | rfl) | ⟨y, hy, rfl⟩) | rfl | rfl
  · exact hl _ _ (by decide) (adr_no h2)
  · exact hl _ _ (by decide) (rw_no h1)
  · exact hl _ _ (by decide) (itoa_no hp.2.1)
  · refine hl _ _ (by decide) (adr_no ?_)
    obtain ⟨i, hi⟩ := List.mem_iff_getElem?.1 hy
    have hil := (List.getElem?_eq_some_iff.1 hi).1
    have e : st.atS M.l i = y := by simp [st.atS, hi]
    have : adA M.l M.l.length = true := by first | exact h5 | exact h5.1 | exact h5.2
    unfold adA at this
    rw [List.all_eq_true] at this
    have := this i (List.mem_range.2 hil)
    rwa [e] at this
  · exact hl _ _ (by decide) (name_no hn)
  · exact hl _ _ (by decide) (word_no _)

theorem tk_path (f : List UInt8 → Int) (M : Mf) (y : ByteArray) : tk f M (lin wPath y) = { M with path := y } := by
  have e1 : cutW (lin wPath y) = wPath := cutW_at _ _ (by decide)
  have e2 : cutR (lin wPath y) = y.data.toList := cutR_at _ _ (by decide)
  unfold tk
  rw [e1, e2, if_pos rfl, BA_of]
theorem tk_sum (f : List UInt8 → Int) (M : Mf) (y : ByteArray) : tk f M (lin wSum y) = { M with sum := y } := by
  have e1 : cutW (lin wSum y) = wSum := cutW_at _ _ (by decide)
  have e2 : cutR (lin wSum y) = y.data.toList := cutR_at _ _ (by decide)
  unfold tk
  rw [e1, e2, if_neg (by decide), if_pos rfl, BA_of]
theorem tk_size (f : List UInt8 → Int) (M : Mf) (y : ByteArray) : tk f M (lin wSize y) = { M with z := f y.data.toList } := by
  have e1 : cutW (lin wSize y) = wSize := cutW_at _ _ (by decide)
  have e2 : cutR (lin wSize y) = y.data.toList := cutR_at _ _ (by decide)
  unfold tk
  rw [e1, e2, if_neg (by decide), if_neg (by decide), if_pos rfl]
theorem tk_ref (f : List UInt8 → Int) (M : Mf) (y : ByteArray) : tk f M (lin wRef y) = { M with l := M.l ++ [y] } := by
  have e1 : cutW (lin wRef y) = wRef := cutW_at _ _ (by decide)
  have e2 : cutR (lin wRef y) = y.data.toList := cutR_at _ _ (by decide)
  unfold tk
  rw [e1, e2, if_neg (by decide), if_neg (by decide), if_neg (by decide), if_pos rfl, BA_of]
theorem tk_key (f : List UInt8 → Int) (M : Mf) (y : ByteArray) : tk f M (lin wKey y) = { M with key := y } := by
  have e1 : cutW (lin wKey y) = wKey := cutW_at _ _ (by decide)
  have e2 : cutR (lin wKey y) = y.data.toList := cutR_at _ _ (by decide)
  unfold tk
  rw [e1, e2, if_neg (by decide), if_neg (by decide), if_neg (by decide), if_neg (by decide), if_pos rfl, BA_of]
theorem tk_sig (f : List UInt8 → Int) (M : Mf) (y : ByteArray) : tk f M (lin wSig y) = { M with sig := (wd.rwX y).toNat, ok := M.ok && wd.rwB y } := by
  have e1 : cutW (lin wSig y) = wSig := cutW_at _ _ (by decide)
  have e2 : cutR (lin wSig y) = y.data.toList := cutR_at _ _ (by decide)
  unfold tk
  rw [e1, e2, if_neg (by decide), if_neg (by decide), if_neg (by decide), if_neg (by decide), if_neg (by decide), if_pos rfl, BA_of]
theorem tk_refs (f : List UInt8 → Int) : ∀ (l : List ByteArray) (M : Mf), (l.map (lin wRef)).foldl (tk f) M = { M with l := M.l ++ l }
  | [], M => by simp
  | y :: l, M => by
    rw [List.map_cons, List.foldl_cons, tk_ref, tk_refs f l]
    simp

/-- What reads numbers as they are written reads a manifest's text as that manifest. -/
theorem good_read {f : List UInt8 → Int} (hf : ∀ z : Int, 0 ≤ z → z ≤ 1000000 → f (Lib.itoa z) = z) {s : List UInt8} {M : Mf} (h : Good s M) : (lnA [] s).2 = [] ∧ (lnA [] s).1.foldl (tk f) M0 = M := by
  have hp := hok_parts h.hok
  rw [← h.text, txt_lines, lnA_all _ (lines_no h.hok h.name)]
  refine ⟨rfl, ?_⟩
  unfold mLines
  rw [List.foldl_append, List.foldl_append]
  simp only [List.foldl_cons, List.foldl_nil]
  rw [tk_path, tk_sum, tk_size, tk_refs, tk_key, tk_sig]
  obtain ⟨h1, h2⟩ := wd.rw_word M.sig h.sig
  rw [h1, h2]
  have hz := hf M.z hp.2.1 hp.2.2
  have hok := h.ok
  cases M
  simp_all [M0]

/-- The specification's reader of numbers. -/
def sIg : Int → List UInt8 → Int
  | n, [] => n
  | n, b :: r => if ¬ (48 ≤ b.toNat ∧ b.toNat ≤ 57) ∨ 1000000 < n then -1 else sIg (n * 10 + ((b.toNat : Int) - 48)) r
def sI (l : List UInt8) : Int := sIg 0 l
theorem dgt_rng (k : Nat) : (sr.dgt k).toNat = 48 + k % 10 := by have := sr.dgt_nat k; omega
theorem sIg_dec : ∀ (k : Nat), k ≤ 1000000 → ∀ r, sIg 0 (Lib.decDigits k ++ r) = sIg (k : Int) r := fun k => by
  induction k using Nat.strongRecOn with
  | _ k ih =>
    intro hk r
    by_cases h9 : 9 < k
    · rw [sr.dec_step h9, List.append_assoc, ih (k / 10) (by omega) (by omega), List.singleton_append, sIg, dgt_rng, if_neg (by omega)]
      congr 1
      omega
    · rw [sr.dec_last h9, List.singleton_append, sIg, dgt_rng, if_neg (by omega)]
      congr 1
      omega
theorem sI_itoa : ∀ z : Int, 0 ≤ z → z ≤ 1000000 → sI (Lib.itoa z) = z := fun z h0 h1 => by
  obtain ⟨k, rfl⟩ : ∃ k : Nat, z = (k : Int) := ⟨z.toNat, by omega⟩
  have e : Lib.itoa (k : Int) = Lib.decDigits k := by simp [Lib.itoa]
  have := sIg_dec k (by omega) []
  rw [List.append_nil] at this
  rw [e]
  exact this

open Classical in
/-- What both answer. -/
noncomputable def rdM (s : List UInt8) : Mf := if h : ∃ M, Good s M then h.choose else M0
open Classical in
noncomputable def rdB (s : List UInt8) : Bool := decide (∃ M, Good s M)
theorem rd_yes {s : List UInt8} {M : Mf} (h : Good s M) : rdM s = M ∧ rdB s = true := by
  have hex : ∃ M, Good s M := ⟨M, h⟩
  unfold rdM rdB
  rw [dif_pos hex]
  refine ⟨?_, by simp [hex]⟩
  rw [← (good_read sI_itoa h).2, ← (good_read sI_itoa hex.choose_spec).2]
theorem rd_no {s : List UInt8} (h : ¬ ∃ M, Good s M) : rdM s = M0 ∧ rdB s = false := by
  unfold rdM rdB
  rw [dif_neg h]
  exact ⟨rfl, by simp [h]⟩

end Go.Proofs.YtheponigjofknaaDoor.mt
