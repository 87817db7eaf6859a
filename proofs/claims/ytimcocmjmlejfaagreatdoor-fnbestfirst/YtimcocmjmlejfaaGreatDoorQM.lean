import Derived.Test.YtimcocmjmlejfaaGreatDoorV1
import Derived.Lib.MapLaws
import Derived.Lib.FieldsP
import Derived.Lib.Split
import Derived.Shelf.GgClosure.StringsIndexFunc
namespace Go.Proofs.YtimcocmjmlejfaaGreatDoor.rc
open Go.ChangeShapes Go.WideShapes Go.ChangeAt Go.RowKit Go.Deep Go.Lib Go.Proofs.YtimcocmjmlejfaaGreatDoor.vr
set_option linter.unusedVariables false
set_option linter.unusedSimpArgs false

/-! ### Constraints: the plain model -/

/-- The alternatives of a text, parted by two strokes. -/
def al : List UInt8 → List UInt8 → List (List UInt8)
  | cur, [] => [cur]
  | cur, [b] => [cur ++ [b]]
  | cur, b :: c :: l => if b = 124 ∧ c = 124 then cur :: al [] l else al (cur ++ [b]) (c :: l)
termination_by _ l => l.length

/-- The words of a text, parted by blanks. -/
def wds : List UInt8 → List UInt8 → List (List UInt8)
  | cur, [] => if cur = [] then [] else [cur]
  | cur, b :: l => if b = 32 then (if cur = [] then wds [] l else cur :: wds [] l) else wds (cur ++ [b]) l

def opL (w : List UInt8) : List UInt8 := w.takeWhile fun b => !dig b
def vL (w : List UInt8) : List UInt8 := w.dropWhile fun b => !dig b
def ops : List (List UInt8) := [[61], [33, 61], [62], [62, 61], [60], [60, 61], [94], [126]]
def isOp (o : List UInt8) : Bool := ops.contains o
def termOk (w : List UInt8) : Bool := isOp (opL w) && (ver (vL w)).isSome
def altOk (ws : List (List UInt8)) : Bool := decide (ws = [[42]]) || (!ws.isEmpty && ws.all termOk)
def trm (w : List UInt8) : List UInt8 × List UInt8 := (opL w, vL w)

/-- What a text is read as. -/
def rd (s : List UInt8) : Option (List (List (List UInt8 × List UInt8))) :=
  if 200 < s.length then none else if ((al [] s).map (wds [])).all altOk = true then some ((al [] s).map fun a => (wds [] a).map trm) else none

abbrev sep : List UInt8 := [124, 124]

theorem pre_no {b c : UInt8} {l : List UInt8} (h : ¬ (b = 124 ∧ c = 124)) : sep.isPrefixOf (b :: c :: l) = false := by
  simp [sep, List.isPrefixOf]
  intro h1 h2
  exact h ⟨h1.symm, h2.symm⟩
theorem pre_one (b : UInt8) : sep.isPrefixOf [b] = false := by simp [sep, List.isPrefixOf]

theorem al_miss : ∀ (l cur : List UInt8), index l sep = -1 → al cur l = [cur ++ l]
  | [], cur, _ => by simp [al]
  | [b], cur, _ => by simp [al]
  | b :: c :: l, cur, h => by
    unfold index at h
    by_cases hp : b = 124 ∧ c = 124
    · obtain ⟨rfl, rfl⟩ := hp
      simp [sep, List.isPrefixOf] at h
    · rw [pre_no hp] at h
      simp only [Bool.false_eq_true, if_false] at h
      have hi : index (c :: l) sep = -1 := by
        split at h
        · next e => exact beq_iff_eq.1 e
        · next e =>
          have := index_ge (c :: l) sep
          have : index (c :: l) sep ≠ -1 := fun e' => e (beq_iff_eq.2 e')
          omega
      rw [al, if_neg hp, al_miss (c :: l) (cur ++ [b]) hi]
      simp

theorem al_hit : ∀ (l cur : List UInt8) (i : Nat), index l sep = (i : Int) → al cur l = (cur ++ l.take i) :: al [] (l.drop (i + 2))
  | [], cur, i, h => by simp [index] at h
  | [b], cur, i, h => by
    unfold index at h
    rw [pre_one] at h
    simp [index] at h
  | b :: c :: l, cur, i, h => by
    unfold index at h
    by_cases hp : b = 124 ∧ c = 124
    · obtain ⟨rfl, rfl⟩ := hp
      have hi : i = 0 := by simp [sep, List.isPrefixOf] at h; omega
      subst hi
      rw [al, if_pos ⟨rfl, rfl⟩]
      simp
    · rw [pre_no hp] at h
      simp only [Bool.false_eq_true, if_false] at h
      split at h
      · omega
      · next e =>
        have hge := index_ge (c :: l) sep
        have hne : index (c :: l) sep ≠ -1 := fun e' => e (beq_iff_eq.2 e')
        obtain ⟨j, rfl⟩ : ∃ j, i = j + 1 := ⟨i - 1, by omega⟩
        rw [al, if_neg hp, al_hit (c :: l) (cur ++ [b]) j (by omega)]
        simp

theorem split_al : ∀ (n : Nat) (l : List UInt8), l.length ≤ n → splitK sep 0 (count l sep) l = al [] l := by
  intro n
  induction n with
  | zero =>
    intro l h
    have : l = [] := List.eq_nil_of_length_eq_zero (by omega)
    subst this
    rw [count_miss (by simp [index])]
    simp [splitK, al]
  | succ n ih =>
    intro l h
    by_cases hm : index l sep = -1
    · rw [count_miss hm, al_miss l [] hm]
      simp [splitK]
    · have hge := index_ge l sep
      obtain ⟨i, hi⟩ : ∃ i : Nat, index l sep = (i : Int) := ⟨(index l sep).toNat, by omega⟩
      have hlt := drop_shorter (s := l) (sub := sep) (by simp) (by simpa using hm)
      rw [hi] at hlt
      simp only [Int.toNat_natCast] at hlt
      rw [count_hit (by simp) hi, Nat.add_comm 1, splitK, if_neg (by simpa using hm), hi, al_hit l [] i hi]
      simp only [Int.toNat_natCast, Nat.add_zero, List.nil_append]
      rw [ih _ (by omega)]
      rfl

theorem splitB_al (s : ByteArray) (sp : ByteArray) (hsp : sp.data.toList = sep) : (splitB sp 0 (countB s sp) s).map (·.data.toList) = al [] s.data.toList := by
  rw [splitB_data, hsp]
  have : countB s sp = count s.data.toList sep := by unfold countB; rw [hsp]
  rw [this]
  exact split_al _ _ (Nat.le_refl _)

/-! ### Runes and bytes: a sign below 128 is a byte -/

/-- What stands at a place: a byte below 128 that is the rune, or a rune of bytes all from 128 on. -/
theorem rune_at (s : ByteArray) (pos : Nat) (h : pos < s.size) : ((s[pos]).toNat < 128 ∧ Utf8.decode s pos = ((s[pos]).toNat, 1)) ∨ (128 ≤ (Utf8.decode s pos).1 ∧ 1 ≤ (Utf8.decode s pos).2 ∧ pos + (Utf8.decode s pos).2 ≤ s.size ∧ ∀ j, pos ≤ j → (hj : j < pos + (Utf8.decode s pos).2) → (hs : j < s.size) → 128 ≤ (s[j]).toNat) := by
  have hg : ∀ j, (hj : j < s.size) → s.get! j = s[j] := fun j hj => by simp [ByteArray.get!, hj]; rfl
  rw [decode_at]
  by_cases hb : (s[pos]).toNat < 128
  · left
    refine ⟨hb, ?_⟩
    unfold decodeN
    rw [hg pos h, if_pos hb]
  · right
    rcases decodeN_shape (s.size - pos) (s.get! pos).toNat (s.get! (pos + 1)).toNat (s.get! (pos + 2)).toNat (s.get! (pos + 3)).toNat with ⟨h1, h2⟩ | ⟨h1, h2, h3, h4, h5⟩ | ⟨h1, h2, h3, h4, h5, h6, h7⟩ | ⟨h1, h2, h3, h4, h5, h6, h7, h8⟩ | h1
    · rw [hg pos h] at h1; omega
    · rw [h5]
      refine ⟨h4, by simp, by simp; omega, fun j hj1 hj2 hs => ?_⟩
      simp only at hj2
      rcases (show j = pos ∨ j = pos + 1 by omega) with rfl | rfl
      · omega
      · rw [hg _ hs] at h3; omega
    · rw [h7]
      refine ⟨by simp only; omega, by simp, by simp; omega, fun j hj1 hj2 hs => ?_⟩
      simp only at hj2
      rcases (show j = pos ∨ j = pos + 1 ∨ j = pos + 2 by omega) with rfl | rfl | rfl
      · omega
      · rw [hg _ hs] at h3; omega
      · rw [hg _ hs] at h4; omega
    · rw [h8]
      refine ⟨by simp only; omega, by simp, by simp; omega, fun j hj1 hj2 hs => ?_⟩
      simp only at hj2
      rcases (show j = pos ∨ j = pos + 1 ∨ j = pos + 2 ∨ j = pos + 3 by omega) with rfl | rfl | rfl | rfl
      · omega
      · rw [hg _ hs] at h3; omega
      · rw [hg _ hs] at h4; omega
      · rw [hg _ hs] at h5; omega
    · rw [h1]
      refine ⟨by simp, by simp, by simp; omega, fun j hj1 hj2 hs => ?_⟩
      simp only at hj2
      obtain rfl : j = pos := by omega
      omega

theorem drop_cons {s : ByteArray} {pos : Nat} (h : pos < s.size) : s.data.toList.drop pos = s[pos] :: s.data.toList.drop (pos + 1) := by
  rw [List.drop_eq_getElem_cons (by simpa using h)]
  rfl

/-- Bytes that do not fit are passed over. -/
theorem tw_skip {f : UInt8 → Bool} (s : ByteArray) : ∀ (k pos : Nat), pos + k ≤ s.size → (∀ j, pos ≤ j → j < pos + k → (hs : j < s.size) → f (s[j]) = true) → (s.data.toList.drop pos).takeWhile f = (s.data.toList.drop pos).take k ++ (s.data.toList.drop (pos + k)).takeWhile f
  | 0, pos, _, _ => by simp
  | k + 1, pos, h, hf => by
    have h0 := hf pos (Nat.le_refl _) (by omega) (by omega)
    have ih := tw_skip s k (pos + 1) (by omega) (fun j h1 h2 hs => hf j (by omega) (by omega) hs)
    rw [drop_cons (by omega), List.takeWhile_cons, h0, if_pos rfl, ih, List.take_succ_cons, List.cons_append, show pos + 1 + k = pos + (k + 1) by omega]

theorem idx_from (p : Nat → Bool) (hp : ∀ r, p r = true → r < 128) (s : ByteArray) : ∀ (f pos : Nat), s.size - pos ≤ f → pos ≤ s.size → idxFuncFrom p true s f pos = if pos + ((s.data.toList.drop pos).takeWhile fun b => !p b.toNat).length < s.size then ((pos + ((s.data.toList.drop pos).takeWhile fun b => !p b.toNat).length : Nat) : Int) else -1
  | 0, pos, hf, hpos => by
    have e : pos = s.size := by omega
    subst e
    rw [if_neg (by omega)]
    rfl
  | f + 1, pos, hf, hpos => by
    unfold idxFuncFrom
    by_cases hlt : pos < s.size
    · rw [if_pos hlt]
      rcases rune_at s pos hlt with ⟨h1, h2⟩ | ⟨h1, h2, h3, h4⟩
      · rw [h2]
        simp only
        by_cases hpp : p (s[pos]).toNat = true
        · rw [if_pos hpp, drop_cons hlt, List.takeWhile_cons]
          simp [hpp, hlt]
        · rw [if_neg hpp, idx_from p hp s f (pos + 1) (by omega) (by omega)]
          rw [drop_cons hlt, List.takeWhile_cons]
          have hpp' : p (s[pos]).toNat = false := by simpa using hpp
          simp only [hpp', Bool.not_false, if_true, List.length_cons]
          rw [show pos + (((s.data.toList.drop (pos + 1)).takeWhile fun b => !p b.toNat).length + 1) = pos + 1 + ((s.data.toList.drop (pos + 1)).takeWhile fun b => !p b.toNat).length by omega]
      · generalize hd : Utf8.decode s pos = d at h1 h2 h3 h4
        have hpp : ¬ p d.1 = true := fun e => by have := hp _ e; omega
        rw [if_neg hpp, idx_from p hp s f (pos + d.2) (by omega) h3]
        have hsk := tw_skip (f := fun b => !p b.toNat) s d.2 pos h3 (fun j j1 j2 hs => by
          have := h4 j j1 j2 hs
          cases e : p (s[j]).toNat with
          | false => rfl
          | true => have := hp _ e; omega)
        rw [hsk]
        have hl : ((s.data.toList.drop pos).take d.2).length = d.2 := by
          have hz : s.data.toList.length = s.size := by simp
          rw [List.length_take, List.length_drop, hz]; omega
        rw [List.length_append, hl, show pos + (d.2 + ((s.data.toList.drop (pos + d.2)).takeWhile fun b => !p b.toNat).length) = pos + d.2 + ((s.data.toList.drop (pos + d.2)).takeWhile fun b => !p b.toNat).length by omega]
    · have e : pos = s.size := by omega
      subst e
      rw [if_neg (by omega), if_neg (by omega)]

/-- Where the first byte of a kind stands. -/
theorem idx_bytes (p : Nat → Bool) (hp : ∀ r, p r = true → r < 128) (s : ByteArray) : idxFunc p true s = if (s.data.toList.takeWhile fun b => !p b.toNat).length < s.size then (((s.data.toList.takeWhile fun b => !p b.toNat).length : Nat) : Int) else -1 := by
  have := idx_from p hp s s.size 0 (by omega) (by omega)
  simpa [idxFunc] using this

/-! ### Words -/

def blank (r : Nat) : Bool := decide (r = 32)

theorem wds_skip : ∀ (m cur l : List UInt8), (∀ b ∈ m, b ≠ 32) → wds cur (m ++ l) = wds (cur ++ m) l
  | [], cur, l, _ => by simp
  | b :: m, cur, l, h => by
    have hb : b ≠ 32 := h b (by simp)
    rw [List.cons_append, wds, if_neg hb, wds_skip m (cur ++ [b]) l (fun x hx => h x (by simp [hx]))]
    simp

/-- What is open at a place. -/
def curA (s : ByteArray) (pos : Nat) : Option Nat → List UInt8
  | none => []
  | some a => (s.data.toList.drop a).take (pos - a)

def stOk (pos : Nat) : Option Nat → Prop
  | none => True
  | some a => a < pos

theorem ext_bytes (s : ByteArray) (a b : Nat) : (s.extract a b).data.toList = (s.data.toList.drop a).take (b - a) := by
  simp [ByteArray.data_extract, List.take_drop]

theorem cur_ne {s : ByteArray} {pos : Nat} {a : Nat} (h : a < pos) (hp : pos ≤ s.size) : (s.data.toList.drop a).take (pos - a) ≠ [] := by
  intro e
  have := congrArg List.length e
  have hz : s.data.toList.length = s.size := by simp
  rw [List.length_take, List.length_drop, hz] at this
  simp at this
  omega

theorem cur_more {s : ByteArray} {pos a k : Nat} (h : a ≤ pos) (hk : pos + k ≤ s.size) : (s.data.toList.drop a).take (pos + k - a) = (s.data.toList.drop a).take (pos - a) ++ (s.data.toList.drop pos).take k := by
  rw [show pos + k - a = (pos - a) + k by omega, List.take_add, List.drop_drop, show a + (pos - a) = pos by omega]

theorem spans_wds (s : ByteArray) : ∀ (f pos : Nat) (st : Option Nat) (acc : List (Nat × Nat)), s.size - pos ≤ f → pos ≤ s.size → stOk pos st →
    ((closeSpans s (spansFromP blank s f pos st acc)).map fun x => (s.extract x.1 x.2).data.toList) = (acc.map fun x => (s.extract x.1 x.2).data.toList) ++ wds (curA s pos st) (s.data.toList.drop pos)
  | 0, pos, st, acc, hf, hp, ho => by
    have e : pos = s.size := by omega
    subst e
    have hz : s.data.toList.length = s.size := by simp
    rw [List.drop_of_length_le (by omega)]
    cases st with
    | none => simp [spansFromP, closeSpans, curA, wds]
    | some a =>
      have hne : curA s s.size (some a) ≠ [] := cur_ne (s := s) ho (Nat.le_refl _)
      rw [wds, if_neg hne]
      simp only [spansFromP, closeSpans, curA, List.map_append, List.map_singleton, ext_bytes]
  | f + 1, pos, st, acc, hf, hp, ho => by
    by_cases hlt : pos < s.size
    · rcases rune_at s pos hlt with ⟨h1, h2⟩ | ⟨h1, h2, h3, h4⟩
      · unfold spansFromP
        rw [if_pos hlt, h2, drop_cons hlt]
        simp only
        by_cases hb : (s[pos]).toNat = 32
        · have hb' : s[pos] = 32 := by apply UInt8.toNat.inj; exact hb
          have hbl : blank (s[pos]).toNat = true := by simp [blank, hb]
          rw [if_pos hbl]
          cases st with
          | none =>
            rw [spans_wds s f (pos + 1) none acc (by omega) (by omega) trivial]
            simp [curA, wds, hb']
          | some a =>
            have hne : curA s pos (some a) ≠ [] := cur_ne (s := s) ho hp
            simp only
            rw [spans_wds s f (pos + 1) none (acc ++ [(a, pos)]) (by omega) (by omega) trivial, wds, if_pos hb', if_neg hne]
            simp only [curA, List.map_append, List.map_singleton, ext_bytes, List.append_assoc, List.singleton_append]
        · have hb' : s[pos] ≠ 32 := fun e => hb (by rw [e]; rfl)
          have hbl : ¬ blank (s[pos]).toNat = true := by simp [blank, hb]
          rw [if_neg hbl]
          cases st with
          | none =>
            simp only
            rw [spans_wds s f (pos + 1) (some pos) acc (by omega) (by omega) (Nat.lt_succ_self _)]
            rw [wds, if_neg hb']
            congr 2
            simp only [curA, List.nil_append]
            rw [show pos + 1 - pos = 1 by omega, drop_cons hlt]
            rfl
          | some a =>
            simp only
            have ho' : a < pos := ho
            rw [spans_wds s f (pos + 1) (some a) acc (by omega) (by omega) (Nat.lt_succ_of_lt ho')]
            rw [wds, if_neg hb']
            congr 2
            simp only [curA]
            rw [cur_more (k := 1) (by omega) (by omega), drop_cons hlt]
            rfl
      · generalize hd : Utf8.decode s pos = d at h1 h2 h3 h4
        have hbl : ¬ blank d.1 = true := by simp [blank]; omega
        have hall : ∀ b ∈ (s.data.toList.drop pos).take d.2, b ≠ 32 := fun b hb => by
          obtain ⟨j, hj, rfl⟩ := List.getElem_of_mem hb
          have hz : s.data.toList.length = s.size := by simp
          have hj1 : j < d.2 := by rw [List.length_take] at hj; omega
          have hj2 : pos + j < s.size := by omega
          have := h4 (pos + j) (by omega) (by omega) hj2
          intro e
          rw [List.getElem_take, List.getElem_drop] at e
          have e' : s[pos + j] = 32 := e
          rw [e'] at this
          simp at this
        have hsp : s.data.toList.drop pos = (s.data.toList.drop pos).take d.2 ++ s.data.toList.drop (pos + d.2) := by
          rw [← List.drop_drop, List.take_append_drop]
        unfold spansFromP
        rw [if_pos hlt, hd, if_neg hbl]
        cases st with
        | none =>
          simp only
          rw [spans_wds s f (pos + d.2) (some pos) acc (by omega) h3 (by show pos < _; omega)]
          conv => rhs; rw [hsp]
          rw [wds_skip _ _ _ hall]
          congr 2
          simp only [curA, List.nil_append]
          rw [show pos + d.2 - pos = d.2 by omega]
        | some a =>
          simp only
          have ho' : a < pos := ho
          rw [spans_wds s f (pos + d.2) (some a) acc (by omega) h3 (by show a < _; omega)]
          conv => rhs; rw [hsp]
          rw [wds_skip _ _ _ hall]
          congr 2
          simp only [curA]
          rw [cur_more (by omega) h3]
    · have e : pos = s.size := by omega
      rw [spansFromP_end _ _ _ _ _ _ hlt]
      have hz : s.data.toList.length = s.size := by simp
      rw [List.drop_of_length_le (by omega)]
      cases st with
      | none => simp [closeSpans, curA, wds]
      | some a =>
        have hne : curA s pos (some a) ≠ [] := cur_ne (s := s) ho hp
        rw [wds, if_neg hne]
        simp only [closeSpans, curA, List.map_append, List.map_singleton, ext_bytes, e]

theorem fields_wds (s : ByteArray) : (goFieldsP blank s).map (·.data.toList) = wds [] s.data.toList := by
  have := spans_wds s s.size 0 none [] (by omega) (by omega) trivial
  unfold goFieldsP spansOfP
  rw [List.map_map]
  exact this.trans (by simp [curA])

end Go.Proofs.YtimcocmjmlejfaaGreatDoor.rc
