import Derived.Test.YthklplfpnciodaaGreatDoorRows
import Derived.Test.YthklplfpnciodaaGreatDoorL
namespace Go.Proofs.YthklplfpnciodaaGreatDoor.lx
open Go.RowKit
set_option linter.unusedVariables false
set_option linter.unusedSimpArgs false

/-! The plain side of chapter 2: what a text's lexemes are. A place's lexeme hangs on the bytes from there on alone. -/

def isLet (b : UInt8) : Bool := decide (97 ≤ (b.toNat : Int) ∧ (b.toNat : Int) ≤ 122 ∨ 65 ≤ (b.toNat : Int) ∧ (b.toNat : Int) ≤ 90)
def isDig (b : UInt8) : Bool := decide (48 ≤ (b.toNat : Int) ∧ (b.toNat : Int) ≤ 57)
def isB (n : Int) (b : UInt8) : Bool := (b.toNat : Int) == n
def isWord (b : UInt8) : Bool := isLet b || isDig b || isB 95 b || isB 45 b || isB 39 b
def isFirst (b : UInt8) : Bool := isLet b || isB 95 b
def isBlank (b : UInt8) : Bool := isB 32 b || isB 9 b || isB 10 b

def suf (s : ByteArray) (p : Nat) : List UInt8 := s.data.toList.drop p

theorem suf_len (s : ByteArray) (p : Nat) : (suf s p).length = s.size - p := by simp [suf]

theorem suf_get {s : ByteArray} {p k : Nat} (h : p + k < s.size) : (suf s p)[k]? = some s[p + k] := by
  unfold suf
  rw [List.getElem?_drop, List.getElem?_eq_getElem (by simpa using h)]
  rfl

theorem suf_drop (s : ByteArray) (p k : Nat) : (suf s p).drop k = suf s (p + k) := by
  simp [suf, List.drop_drop]

theorem suf_cons {s : ByteArray} {p : Nat} (h : p < s.size) : suf s p = s[p] :: suf s (p + 1) := by
  unfold suf
  rw [List.drop_eq_getElem_cons (by simpa using h)]
  rfl

theorem suf_end {s : ByteArray} {p : Nat} (h : s.size ≤ p) : suf s p = [] := by
  unfold suf
  exact List.drop_of_length_le (by simpa using h)

/-- How many bytes from the first on are of a kind. -/
def run (f : UInt8 → Bool) (l : List UInt8) : Nat := (l.takeWhile f).length

theorem run_le (f : UInt8 → Bool) : ∀ l, run f l ≤ l.length
  | [] => by simp [run]
  | b :: r => by
    have := run_le f r
    unfold run at *
    by_cases h : f b = true <;> simp [List.takeWhile_cons, h]
    omega

theorem run_in (f : UInt8 → Bool) : ∀ (l : List UInt8) (k : Nat) (b : UInt8), k < run f l → l[k]? = some b → f b = true
  | [], k, b, h, _ => by simp [run] at h
  | c :: r, k, b, h, hb => by
    unfold run at h
    by_cases hc : f c = true
    · simp only [List.takeWhile_cons, hc, if_true, List.length_cons] at h
      cases k with
      | zero =>
        obtain rfl : c = b := by simpa using hb
        exact hc
      | succ k => exact run_in f r k b (by unfold run; omega) (by simpa using hb)
    · simp [List.takeWhile_cons, hc] at h

theorem run_end (f : UInt8 → Bool) : ∀ (l : List UInt8) (b : UInt8), l[run f l]? = some b → f b = false
  | [], b, h => by simp at h
  | c :: r, b, h => by
    unfold run at h
    by_cases hc : f c = true
    · simp only [List.takeWhile_cons, hc, if_true, List.length_cons, List.getElem?_cons_succ] at h
      exact run_end f r b h
    · simp only [List.takeWhile_cons, hc, if_false, List.length_nil, List.getElem?_cons_zero] at h
      simp at h
      subst h
      simpa using hc

/-- The place k is inside the run just if its byte is of the kind, where all ahead of it are. -/
theorem run_lt {f : UInt8 → Bool} {l : List UInt8} {k : Nat} {b : UInt8} (hk : k ≤ run f l) (hb : l[k]? = some b) (hf : f b = true) : k < run f l := by
  rcases Nat.lt_or_ge k (run f l) with h | h
  · exact h
  · obtain rfl : k = run f l := by omega
    have := run_end f l b hb
    rw [hf] at this
    cases this

theorem run_stop {f : UInt8 → Bool} {l : List UInt8} {k : Nat} {b : UInt8} (hk : k ≤ run f l) (hb : l[k]? = some b) (hf : f b = false) : k = run f l := by
  rcases Nat.lt_or_ge k (run f l) with h | h
  · have := run_in f l k b h hb
    rw [hf] at this
    cases this
  · omega

theorem run_all {f : UInt8 → Bool} {l : List UInt8} {k : Nat} (hk : k ≤ run f l) (hl : l.length ≤ k) : k = run f l := by
  have := run_le f l
  omega

/-- The number that the first k bytes are. -/
def val (l : List UInt8) : Nat → Nat
  | 0 => 0
  | k + 1 => val l k * 10 + ((l[k]?.getD 48).toNat - 48)

theorem val_mono (l : List UInt8) (k : Nat) : ∀ m, val l k ≤ val l (k + m) := by
  intro m
  induction m with
  | zero => exact Nat.le_refl _
  | succ m ih => rw [← Nat.add_assoc]; simp only [val]; omega

/-- What stands for one byte inside of a text, and how many bytes it takes. -/
def esc (c : UInt8) : Option (UInt8 × Nat) := if c = 110 then some (10, 2) else if c = 116 then some (9, 2) else if c = 34 then some (34, 2) else if c = 92 then some (92, 2) else none
def pc : List UInt8 → Option (UInt8 × Nat)
  | [] => none
  | b :: r => if b.toNat < 32 then none else if b = 92 then (match r with | c :: _ => esc c | [] => none) else some (b, 1)

theorem esc_two {c b : UInt8} {n : Nat} (h : esc c = some (b, n)) : n = 2 := by
  unfold esc at h
  repeat' split at h
  all_goals first | (simp at h; omega) | cases h

theorem pc_pos {l : List UInt8} {b : UInt8} {n : Nat} (h : pc l = some (b, n)) : 1 ≤ n ∧ n ≤ l.length := by
  cases l with
  | nil => cases h
  | cons c r =>
    by_cases h1 : c.toNat < 32
    · simp [pc, h1] at h
    · by_cases h2 : c = 92
      · cases r with
        | nil => simp [pc, h1, h2] at h
        | cons d t =>
          have h' : esc d = some (b, n) := by simpa [pc, h1, h2] using h
          have := esc_two h'
          subst this
          simp
      · have h' : c = b ∧ 1 = n := by simpa [pc, h1, h2] using h
        obtain ⟨_, rfl⟩ := h'
        simp

/-- Behind j pieces: the place, and what is meant so far. -/
def stTo (l : List UInt8) : Nat → Option (Nat × List UInt8)
  | 0 => some (1, [])
  | j + 1 => match stTo l j with
    | some (o, acc) => match l[o]? with
      | some c => if c = 34 then some (o, acc) else match pc (l.drop o) with
        | some (b, n) => if acc.length = 4000 then none else some (o + n, acc ++ [b])
        | none => none
      | none => some (o, acc)
    | none => none
def txt (l : List UInt8) : Option (List UInt8 × Nat) := match stTo l l.length with
  | some (o, acc) => if o < l.length then some (acc, o + 1) else none
  | none => none

theorem st_none {l : List UInt8} {j : Nat} (h : stTo l j = none) : ∀ m, stTo l (j + m) = none := by
  intro m
  induction m with
  | zero => exact h
  | succ m ih => rw [← Nat.add_assoc]; unfold stTo; rw [ih]

theorem st_stay {l : List UInt8} {j o : Nat} {acc : List UInt8} (h : stTo l j = some (o, acc)) (hs : l[o]? = none ∨ l[o]? = some 34) : ∀ m, stTo l (j + m) = some (o, acc) := by
  intro m
  induction m with
  | zero => exact h
  | succ m ih =>
    rw [← Nat.add_assoc]
    unfold stTo
    rw [ih]
    rcases hs with hs | hs <;> simp [hs]

theorem st_step {l : List UInt8} {j o : Nat} {acc : List UInt8} {c : UInt8} (h : stTo l j = some (o, acc)) (hc : l[o]? = some c) (hq : ¬ c = 34) :
    stTo l (j + 1) = match pc (l.drop o) with | some (b, n) => if acc.length = 4000 then none else some (o + n, acc ++ [b]) | none => none := by
  unfold stTo
  rw [h]
  simp only [hc, hq, if_false]

theorem txt_fail {l : List UInt8} {j : Nat} (hj : j ≤ l.length) (h : stTo l j = none) : txt l = none := by
  have := st_none h (l.length - j)
  rw [show j + (l.length - j) = l.length by omega] at this
  simp [txt, this]

theorem txt_end {l : List UInt8} {j o : Nat} {acc : List UInt8} (hj : j ≤ l.length) (h : stTo l j = some (o, acc)) (hs : l[o]? = some 34) : txt l = some (acc, o + 1) := by
  have := st_stay h (.inr hs) (l.length - j)
  rw [show j + (l.length - j) = l.length by omega] at this
  have ho : o < l.length := (List.getElem?_eq_some_iff.1 hs).1
  simp [txt, this, ho]

theorem txt_open {l : List UInt8} {j o : Nat} {acc : List UInt8} (hj : j ≤ l.length) (h : stTo l j = some (o, acc)) (ho : l.length ≤ o) : txt l = none := by
  have := st_stay h (.inl (List.getElem?_eq_none ho)) (l.length - j)
  rw [show j + (l.length - j) = l.length by omega] at this
  have : ¬ o < l.length := by omega
  simp [txt, *]

/-- The signs, the longest first. -/
def SIG : List (List UInt8) := [[46, 46, 46], [45, 62], [47, 47], [43, 43], [38, 38], [124, 124], [61, 61], [33, 61], [60, 61], [62, 61], [123], [125], [91], [93], [40], [41], [59], [58], [44], [46], [63], [61], [60], [62], [43], [45], [42], [47], [33]]
def sigL (k : Nat) : List UInt8 := SIG[k]?.getD []
def sgAt (l : List UInt8) (k : Nat) : Bool := (sigL k).isPrefixOf l
def sgn (l : List UInt8) (n : Nat) : Option Nat := (List.range n).find? fun k => sgAt l k

theorem sgn_succ (l : List UInt8) (k : Nat) : sgn l (k + 1) = match sgn l k with | some j => some j | none => if sgAt l k then some k else none := by
  unfold sgn
  rw [List.range_succ, List.find?_append]
  cases (List.range k).find? fun j => sgAt l j with
  | some j => rfl
  | none => simp [List.find?_cons]; split <;> simp_all

theorem sgn_grow {l : List UInt8} {k j : Nat} (h : sgn l k = some j) : ∀ m, sgn l (k + m) = some j := by
  intro m
  induction m with
  | zero => exact h
  | succ m ih => rw [← Nat.add_assoc, sgn_succ, ih]

theorem sgn_hit {l : List UInt8} {k n : Nat} (hk : k < n) (h0 : sgn l k = none) (hd : sgAt l k = true) : sgn l n = some k := by
  have h1 : sgn l (k + 1) = some k := by rw [sgn_succ, h0]; simp [hd]
  have := sgn_grow h1 (n - (k + 1))
  rwa [show k + 1 + (n - (k + 1)) = n by omega] at this

theorem sgn_miss {l : List UInt8} {k : Nat} (h0 : sgn l k = none) (hd : sgAt l k = false) : sgn l (k + 1) = none := by
  rw [sgn_succ, h0]; simp [hd]

/-- A lexeme: its kind, its text, its number, and how many bytes it takes. -/
structure Lx where
  kind : Int
  text : List UInt8
  num : Int
  size : Nat

def word (l : List UInt8) : Option Lx := if 60 < run isWord l then none else some ⟨1, l.take (run isWord l), 0, run isWord l⟩
def int (l : List UInt8) : Option Lx := if 9007199254740992 < val l (run isDig l) then none else some ⟨2, [], (val l (run isDig l) : Int), run isDig l⟩
def text (l : List UInt8) : Option Lx := match txt l with | some (acc, n) => some ⟨3, acc, 0, n⟩ | none => none
def sign (l : List UInt8) : Option Lx := match sgn l 29 with | some k => some ⟨4, sigL k, 0, (sigL k).length⟩ | none => none
def one (l : List UInt8) : Option Lx := match l with
  | [] => none
  | b :: _ => if isFirst b then word l else if isDig b then int l else if isB 34 b then text l else sign l

end Go.Proofs.YthklplfpnciodaaGreatDoor.lx
