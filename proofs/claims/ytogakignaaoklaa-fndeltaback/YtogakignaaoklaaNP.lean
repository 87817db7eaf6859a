import Derived.Test.YtogakignaaoklaaNS
namespace Go.Proofs.Ytogakignaaoklaa.dl
set_option linter.unusedVariables false
set_option linter.unusedSimpArgs false

/-! ### What MakeDelta makes: the plain model -/

/-- The same among the places alone from which on six bytes or more are the same. -/
def fdP (old rest : List UInt8) : Nat → Nat × Nat
  | 0 => (0, 0)
  | k + 1 => if 6 ≤ ml old rest k ∧ (fdP old rest k).2 < ml old rest k then (k, ml old rest k) else fdP old rest k
theorem fdP_eq (old rest : List UInt8) : ∀ k, fdP old rest k = if 6 ≤ (fd old rest k).2 then fd old rest k else (0, 0)
  | 0 => rfl
  | k + 1 => by
    have ih := fdP_eq old rest k
    unfold fdP fd
    rw [ih]
    generalize ml old rest k = m
    generalize fd old rest k = q
    by_cases h6 : 6 ≤ q.2
    · rw [if_pos h6]
      by_cases hq : q.2 < m
      · rw [if_pos ⟨by omega, hq⟩, if_pos hq, if_pos (show 6 ≤ m by omega)]
      · rw [if_neg (fun h => hq h.2), if_neg hq, if_pos h6]
    · rw [if_neg h6]
      by_cases hm : 6 ≤ m
      · rw [if_pos ⟨hm, show 0 < m by omega⟩, if_pos (show q.2 < m by omega), if_pos hm]
      · rw [if_neg (fun h => hm h.1)]
        by_cases hq : q.2 < m
        · rw [if_pos hq, if_neg hm]
        · rw [if_neg hq, if_neg h6]

/-- Six bytes that are the same: a place in the program's map. -/
def at6 (old rest : List UInt8) (i : Nat) : Prop := 6 ≤ rest.length ∧ i + 6 ≤ old.length ∧ (old.drop i).take 6 = rest.take 6
theorem cp_take : ∀ (a b : List UInt8) (n : Nat), n ≤ cp a b ↔ n ≤ a.length ∧ n ≤ b.length ∧ a.take n = b.take n
  | a, b, 0 => by simp
  | [], b, n + 1 => by simp [cp]
  | x :: a, [], n + 1 => by simp [cp]
  | x :: a, y :: b, n + 1 => by
    have ih := cp_take a b n
    by_cases h : x = y
    · have e : cp (x :: a) (y :: b) = cp a b + 1 := by simp [cp, h]
      rw [e]
      simp only [List.length_cons, List.take_succ_cons, List.cons.injEq, h, true_and, Nat.add_le_add_iff_right]
      exact ih
    · have e : cp (x :: a) (y :: b) = 0 := by simp [cp, h]
      rw [e]
      simp only [List.take_succ_cons, List.cons.injEq, h, false_and, and_false, iff_false]
      omega
theorem at6_iff {old rest : List UInt8} {i : Nat} : 6 ≤ ml old rest i ↔ at6 old rest i := by
  unfold ml at6
  have := cp_take (old.drop i) rest 6
  rw [List.length_drop] at this
  constructor
  · intro h
    obtain ⟨h1, h2, h3⟩ := this.1 (by omega)
    exact ⟨h2, by omega, h3⟩
  · intro ⟨h1, h2, h3⟩
    have := this.2 ⟨by omega, h1, h3⟩
    omega
/-- What the program's cut of rest does not change. -/
theorem ml_cut (old rest : List UInt8) (i : Nat) : cp (old.drop i) (rest.take 1000) = ml old rest i := by
  unfold ml
  apply Nat.le_antisymm
  · have h := (cp_take (old.drop i) (rest.take 1000) _).1 (Nat.le_refl _)
    have h2 : cp (old.drop i) (rest.take 1000) ≤ cp (old.drop i) rest := (cp_take _ _ _).2 ⟨h.1, by have := h.2.1; rw [List.length_take] at this; omega, by rw [h.2.2, List.take_take]; congr 1; have := h.2.1; rw [List.length_take] at this; omega⟩
    have h3 := h.2.1
    rw [List.length_take] at h3
    omega
  · have h := (cp_take (old.drop i) rest (min 1000 (cp (old.drop i) rest))).1 (Nat.min_le_right _ _)
    exact (cp_take _ _ _).2 ⟨h.1, by rw [List.length_take]; omega, by rw [h.2.2, List.take_take]; congr 1; omega⟩

/-- A byte more of an addition. -/
def addB (ds : List Sp) (y : UInt8) : List Sp :=
  match ds.getLast? with
  | some x => if x.k = 2 then ds.dropLast ++ [⟨x.k, x.p, x.n, x.d ++ [y]⟩] else ds ++ [⟨2, 0, 0, [y]⟩]
  | none => [⟨2, 0, 0, [y]⟩]
def mkA (old : List UInt8) : Nat → List UInt8 → List Sp → List Sp
  | 0, _, ds => ds
  | _ + 1, [], ds => ds
  | f + 1, y :: r, ds => if 6 ≤ (fd old (y :: r) old.length).2 then mkA old f ((y :: r).drop (fd old (y :: r) old.length).2) (ds ++ [⟨1, ((fd old (y :: r) old.length).1 : Int), ((fd old (y :: r) old.length).2 : Int), []⟩]) else mkA old f r (addB ds y)
def mkB' (old fresh : List UInt8) : List Sp := if old.length ≤ 3000 ∧ fresh.length ≤ 3000 then mkA old fresh.length fresh [] else []

end Go.Proofs.Ytogakignaaoklaa.dl
