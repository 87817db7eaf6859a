import Derived.Test.YtabhgmpbokkjlaaDoorGA
namespace Go.Proofs.YtabhgmpbokkjlaaDoor.tt
open Go.ChangeShapes Go.WideShapes Go.ChangeAt Go.RowKit Go.Deep
set_option linter.unusedVariables false
set_option linter.unusedSimpArgs false

/-! ### PutEntry: plain -/

/-- One text stands below another. -/
def Und (x d : List UInt8) : Prop := (d ++ [47]) <+: x
instance (x d : List UInt8) : Decidable (Und x d) := inferInstanceAs (Decidable ((d ++ [47]) <+: x))
def Full (E : Nat → En) (n : Nat) (p : List UInt8) : Prop := ∃ j, j < n ∧ Und (pth E j) p

theorem und_at {x d : List UInt8} (h : Und x d) : x[d.length]? = some 47 ∧ x.take d.length = d ∧ d.length < x.length := by
  obtain ⟨t, rfl⟩ := h
  refine ⟨by simp, by simp, by simp⟩
theorem up_of {x : List UInt8} {k : Nat} (h : lst x = some k) : up x = x.take k := by unfold up; rw [h]
theorem lst_lt {x : List UInt8} {k : Nat} (h : lst x = some k) : k < x.length := (List.getElem?_eq_some_iff.1 (lst_some h).1).1

theorem up_ne {x : List UInt8} {k : Nat} (h : lst x = some k) (hk : 0 < k) : up x ≠ [] := fun e => by
  rw [up_of h] at e
  have h1 := congrArg List.length e
  rw [List.length_take, List.length_nil] at h1
  have := lst_lt h
  omega

theorem full_dir {E : Nat → En} {n : Nat} {p : List UInt8} (hT : Tr E n) (hp : p ≠ []) : ∀ (m j : Nat), j ≤ m → j < n → Und (pth E j) p → Dir E n p := by
  intro m
  induction m with
  | zero =>
    intro j hj hjn hu
    obtain rfl : j = 0 := by omega
    obtain ⟨h1, h2, h3⟩ := und_at hu
    cases hl : lst (pth E 0) with
    | none => exact absurd h1 (lst_none hl _)
    | some k =>
      have hk : p.length ≤ k := Nat.le_of_not_lt fun h => (lst_some hl).2 _ h h1
      have hpl : 0 < p.length := List.length_pos_iff.2 hp
      have hne : up (pth E 0) ≠ [] := up_ne hl (by omega)
      obtain ⟨i, hi, _⟩ := hT.2.2 0 hjn hne
      omega
  | succ m ih =>
    intro j hj hjn hu
    obtain ⟨h1, h2, h3⟩ := und_at hu
    cases hl : lst (pth E j) with
    | none => exact absurd h1 (lst_none hl _)
    | some k =>
      have hk : p.length ≤ k := Nat.le_of_not_lt fun h => (lst_some hl).2 _ h h1
      have hkl := lst_lt hl
      have hpl : 0 < p.length := List.length_pos_iff.2 hp
      have hne : up (pth E j) ≠ [] := up_ne hl (by omega)
      obtain ⟨i, hi, hpi, hki⟩ := hT.2.2 j hjn hne
      rw [up_of hl] at hpi
      by_cases hkp : k = p.length
      · rw [hkp, h2] at hpi
        exact ⟨i, by omega, hpi, hki⟩
      · refine ih i (by omega) (by omega) ?_
        rw [hpi]
        obtain ⟨t, ht⟩ := hu
        refine ⟨t.take (k - (p.length + 1)), ?_⟩
        rw [← ht]
        have hlen : (p ++ [47]).length = p.length + 1 := by simp
        have htk : (p ++ [47]).take k = p ++ [47] := List.take_of_length_le (by omega)
        rw [List.take_append, htk, hlen]

theorem full_is {E : Nat → En} {n : Nat} {p : List UInt8} (hT : Tr E n) (hp : p ≠ []) (h : Full E n p) : Dir E n p := by
  obtain ⟨j, hj, hu⟩ := h
  exact full_dir hT hp j j (Nat.le_refl _) hj hu

theorem path_ne {e : En} (h : eOk e = true) : e.path.data.toList ≠ [] := fun hl => by
  unfold eOk pOk at h
  rw [hl, pk, name_nil] at h
  simp at h

/-- Would it be a tree with this entry. -/
def Tk (E : Nat → En) (n : Nat) (e : En) (a : Nat) : Prop := eOk e = true ∧ (up e.path.data.toList ≠ [] → Dir E n (up e.path.data.toList)) ∧ (e.kind = 1 ∨ ¬ Full E n e.path.data.toList) ∧ (Is E n e.path.data.toList a ∨ n < 500)
noncomputable def tkB (E : Nat → En) (n : Nat) (e : En) (a : Nat) : Bool := @decide (Tk E n e a) (Classical.propDecidable _)
theorem tkB_yes {E : Nat → En} {n a : Nat} {e : En} (h : Tk E n e a) : tkB E n e a = true := by unfold tkB; exact @decide_eq_true _ (Classical.propDecidable _) h
theorem tkB_no {E : Nat → En} {n a : Nat} {e : En} (h : ¬ Tk E n e a) : tkB E n e a = false := by unfold tkB; exact @decide_eq_false _ (Classical.propDecidable _) h
theorem tkB_iff {E : Nat → En} {n a : Nat} {e : En} : tkB E n e a = true ↔ Tk E n e a := by unfold tkB; exact @decide_eq_true_iff _ (Classical.propDecidable _)

/-- The tree with it: how many, and which. -/
noncomputable def ptN (E : Nat → En) (n : Nat) (e : En) (a : Nat) : Nat := if isB E n e.path.data.toList a = true then n else n + 1
noncomputable def ptF (E : Nat → En) (n : Nat) (e : En) (a : Nat) : Nat → En := fun k => if k < a then E k else if k = a then e else if isB E n e.path.data.toList a = true then E k else E (k - 1)

/-- What a takes' last question says. -/
theorem tk_there {E : Nat → En} {n a : Nat} {e : En} (hT : Tr E n) (h1 : eOk e = true) (h2 : up e.path.data.toList ≠ [] → Dir E n (up e.path.data.toList)) (hi : Is E n e.path.data.toList a) : Tk E n e a ↔ (e.kind = 1 ∨ (E a).kind ≠ 1 ∨ ¬ Full E n e.path.data.toList) := by
  constructor
  · rintro ⟨_, _, h | h, _⟩
    · exact .inl h
    · exact .inr (.inr h)
  · intro h
    refine ⟨h1, h2, ?_, .inl hi⟩
    rcases h with h | h | h
    · exact .inl h
    · refine .inr fun hf => ?_
      obtain ⟨j, hj, hpj, hk⟩ := full_is hT (path_ne h1) hf
      have : j = a := by
        have hA := hT.asc
        rcases Nat.lt_trichotomy j a with h' | h' | h'
        · exact absurd (hA j a h' hi.1) (by rw [hpj, hi.2]; exact List.lt_irrefl _)
        · exact h'
        · exact absurd (hA a j h' hj) (by rw [hpj, hi.2]; exact List.lt_irrefl _)
      subst this
      exact h hk
    · exact .inr h
theorem tk_new {E : Nat → En} {n a : Nat} {e : En} (hT : Tr E n) (h1 : eOk e = true) (h2 : up e.path.data.toList ≠ [] → Dir E n (up e.path.data.toList)) (hr : Rk E n e.path.data.toList a) (hi : ¬ Is E n e.path.data.toList a) : Tk E n e a ↔ n < 500 := by
  constructor
  · rintro ⟨_, _, _, h | h⟩
    · exact absurd h hi
    · exact h
  · intro h
    refine ⟨h1, h2, .inr fun hf => ?_, .inr h⟩
    obtain ⟨j, hj, hpj, hk⟩ := full_is hT (path_ne h1) hf
    rcases Nat.lt_or_ge j a with h' | h'
    · exact absurd (hr.lo j h') (by rw [hpj]; exact List.lt_irrefl _)
    · rcases Nat.lt_or_ge a j with h'' | h''
      · exact absurd (hT.asc a j h'' hj) (by rw [hpj]; exact hr.hi a (Nat.le_refl _) (by omega))
      · obtain rfl : j = a := by omega
        exact hi ⟨hj, hpj⟩

end Go.Proofs.YtabhgmpbokkjlaaDoor.tt
