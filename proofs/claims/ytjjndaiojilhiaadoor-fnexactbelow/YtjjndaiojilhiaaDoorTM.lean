import Derived.Test.YtjjndaiojilhiaaDoorNA
import Derived.Test.YtjjndaiojilhiaaDoorL
import Derived.Sort.Walk0
namespace Go.Proofs.YtjjndaiojilhiaaDoor.tt
open Go.ChangeShapes Go.WideShapes Go.ChangeAt Go.RowKit Go.Deep
set_option linter.unusedVariables false
set_option linter.unusedSimpArgs false

/-! ### Trees of files: the plain model -/

structure En where
  path : ByteArray
  kind : Int
  data : ByteArray
  exec : Bool

instance : Inhabited En := ⟨⟨⟨#[]⟩, 0, ⟨#[]⟩, false⟩⟩

def nameL (l : List UInt8) : Bool := nm.nameB ⟨l.toArray⟩

/-- Are these the names of a path: so many stand behind, this one is open, that is left. -/
def pk : Nat → List UInt8 → List UInt8 → Bool
  | c, cur, [] => nameL cur && decide (c < 8)
  | c, cur, b :: l => if b = 47 then (nameL cur && decide (c < 8)) && pk (c + 1) [] l else pk c (cur ++ [b]) l

def pOk (s : ByteArray) : Bool := pk 0 [] s.data.toList

/-- All of an entry but its path. -/
def cOk (e : En) : Bool :=
  decide (e.data.size ≤ 20000) && (if e.kind = 1 then decide (e.data.size = 0) && !e.exec else if e.kind = 2 then true else decide (e.kind = 3) && !decide (e.data.size = 0) && !e.exec)

def eOk (e : En) : Bool := pOk e.path && cOk e

/-- Where the last stroke stands. -/
def lst : List UInt8 → Option Nat
  | [] => none
  | b :: l => match lst l with
    | some i => some (i + 1)
    | none => if b = 47 then some 0 else none

theorem lst_none : ∀ {l : List UInt8}, lst l = none → ∀ j : Nat, l[j]? ≠ some (47 : UInt8)
  | [], _, j => by simp
  | b :: l, h, j => by
    unfold lst at h
    cases e : lst l with
    | some k => rw [e] at h; simp at h
    | none =>
      rw [e] at h
      simp only at h
      split at h
      · cases h
      · next hb =>
        cases j with
        | zero => simpa using hb
        | succ j => simpa using lst_none e j

theorem lst_some : ∀ {l : List UInt8} {i : Nat}, lst l = some i → l[i]? = some (47 : UInt8) ∧ ∀ j : Nat, i < j → l[j]? ≠ some (47 : UInt8)
  | [], i, h => by simp [lst] at h
  | b :: l, i, h => by
    unfold lst at h
    cases e : lst l with
    | some k =>
      rw [e] at h
      obtain rfl := Option.some.inj h
      obtain ⟨h1, h2⟩ := lst_some e
      refine ⟨by simpa using h1, fun j hj => ?_⟩
      obtain ⟨m, rfl⟩ : ∃ m, j = m + 1 := ⟨j - 1, by omega⟩
      simpa using h2 m (by omega)
    | none =>
      rw [e] at h
      simp only at h
      split at h
      · next hb =>
        obtain rfl := Option.some.inj h
        subst hb
        refine ⟨rfl, fun j hj hq => ?_⟩
        obtain ⟨m, rfl⟩ : ∃ m, j = m + 1 := ⟨j - 1, by omega⟩
        exact lst_none e m (by simpa using hq)
      · cases h

theorem lst_of {l : List UInt8} {i : Nat} (h1 : l[i]? = some (47 : UInt8)) (h2 : ∀ j : Nat, i < j → l[j]? ≠ some (47 : UInt8)) : lst l = some i := by
  cases e : lst l with
  | none => exact absurd h1 (lst_none e i)
  | some k =>
    obtain ⟨k1, k2⟩ := lst_some e
    rcases Nat.lt_trichotomy i k with h | h | h
    · exact absurd k1 (h2 k h)
    · rw [h]
    · exact absurd h1 (k2 i h)

theorem lst_no {l : List UInt8} (h : ∀ j : Nat, l[j]? ≠ some (47 : UInt8)) : lst l = none := by
  cases e : lst l with
  | none => rfl
  | some k => exact absurd (lst_some e).1 (h k)

/-- What is ahead of the last stroke; empty: there is none. -/
def up (l : List UInt8) : List UInt8 := match lst l with
  | some i => l.take i
  | none => []

def pth (E : Nat → En) (i : Nat) : List UInt8 := (E i).path.data.toList

/-- Ascending, up to a number. -/
def Asc (E : Nat → En) (n : Nat) : Prop := ∀ i j, i < j → j < n → pth E i < pth E j

/-- A directory of that path among the first. -/
def Dir (E : Nat → En) (n : Nat) (p : List UInt8) : Prop := ∃ j, j < n ∧ pth E j = p ∧ (E j).kind = 1

/-- A tree, so far. -/
def Tr (E : Nat → En) (k : Nat) : Prop := (∀ i, i < k → eOk (E i) = true) ∧ (∀ i, i + 1 < k → pth E i < pth E (i + 1)) ∧ ∀ i, i < k → up (pth E i) ≠ [] → Dir E i (up (pth E i))

theorem Tr.asc {E : Nat → En} {k : Nat} (h : Tr E k) : Asc E k := by
  intro i j hij hj
  induction j with
  | zero => omega
  | succ j ih =>
    rcases Nat.lt_or_ge i j with h' | h'
    · exact List.lt_trans (ih h' (by omega)) (h.2.1 j hj)
    · obtain rfl : i = j := by omega
      exact h.2.1 i hj

theorem Tr.zero (E : Nat → En) : Tr E 0 := ⟨fun i h => by omega, fun i h => by omega, fun i h => by omega⟩
theorem Tr.mono {E : Nat → En} {k m : Nat} (h : Tr E k) (hm : m ≤ k) : Tr E m := ⟨fun i hi => h.1 i (by omega), fun i hi => h.2.1 i (by omega), fun i hi => h.2.2 i (by omega)⟩
theorem Tr.next {E : Nat → En} {k : Nat} (h : Tr E k) (h1 : eOk (E k) = true) (h2 : 0 < k → pth E (k - 1) < pth E k) (h3 : up (pth E k) ≠ [] → Dir E k (up (pth E k))) : Tr E (k + 1) := by
  refine ⟨fun i hi => ?_, fun i hi => ?_, fun i hi => ?_⟩
  · rcases Nat.lt_or_ge i k with h' | h'
    · exact h.1 i h'
    · obtain rfl : i = k := by omega
      exact h1
  · rcases Nat.lt_or_ge (i + 1) k with h' | h'
    · exact h.2.1 i h'
    · obtain rfl : k = i + 1 := by omega
      exact h2 (by omega)
  · rcases Nat.lt_or_ge i k with h' | h'
    · exact h.2.2 i h'
    · obtain rfl : i = k := by omega
      exact h3

end Go.Proofs.YtjjndaiojilhiaaDoor.tt
