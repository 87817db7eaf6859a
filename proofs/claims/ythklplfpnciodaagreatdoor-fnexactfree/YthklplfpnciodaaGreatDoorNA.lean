import Derived.Test.YthklplfpnciodaaGreatDoorTC
import Derived.Test.YthklplfpnciodaaGreatDoorXH
import Derived.Test.YthklplfpnciodaaGreatDoorXI
namespace Go.Proofs.YthklplfpnciodaaGreatDoor.ex
open Go.ChangeShapes Go.WideShapes Go.ChangeAt Go.RowKit Go.Deep
set_option linter.unusedVariables false
set_option linter.unusedSimpArgs false

def kidOk (k : Int) (m i : Nat) (y : Int) : Prop :=
  if k = 5 ∨ (k = 8 ∧ i + 1 < m) then y = 6 ∨ y = 7 else if k = 14 ∧ i + 1 < m then y = 15 else exprK y = true

theorem kids_of {k : Int} : ∀ (l : List Ex), kindsL k l = true → ∀ (i : Nat) (x : Ex), l[i]? = some x → kidOk k l.length i x.kind
  | [], _, i, x, h => by simp at h
  | y :: r, h, i, x, hx => by
    rw [kindsL, Bool.and_eq_true] at h
    cases i with
    | zero =>
      obtain rfl : y = x := by simpa using hx
      have h1 := h.1
      unfold kindP special at h1
      unfold kidOk
      cases r with
      | nil =>
        simp at h1 ⊢
        by_cases h5 : k = 5
        · simpa [h5] using h1
        · simpa [h5] using h1
      | cons z r =>
        simp at h1 ⊢
        by_cases h5 : k = 5
        · simpa [h5] using h1
        · by_cases h8 : k = 8
          · simpa [h8] using h1
          · by_cases h14 : k = 14
            · simpa [h14] using h1
            · simpa [h5, h8, h14] using h1
    | succ i =>
      have hx' : r[i]? = some x := by simpa using hx
      have := kids_of r h.2 i x hx'
      unfold kidOk at this ⊢
      simp only [List.length_cons, Nat.add_lt_add_iff_right]
      exact this

/-! ### The parts of a node: what the specification reads of them -/

def pAt (ps : List Nat) (j : Nat) : Nat := ps[j]?.getD 0

theorem pAt_mem {ps : List Nat} {j : Nat} (h : j < ps.length) : pAt ps j ∈ ps ∧ ps[j]? = some (pAt ps j) := by
  have e : ps[j]? = some ps[j] := by simp [h]
  have e2 : pAt ps j = ps[j] := by simp [pAt, h]
  exact ⟨by rw [e2]; exact List.getElem_mem h, by rw [e2]; exact e⟩

theorem tr_kind (E : Nat → Ex) (r q : Nat) : (treeP E r q).kind = (E q).kind := by cases r <;> rfl

/-- A node that is right, taken apart. -/
structure Node (E : Nat → Ex) (r p len : Nat) (ps : List Nat) : Prop where
  size : (E p).size = (len : Int) - 1
  head : headB (E p) = true
  cut : cutP E (p + 1) (len - 1) = some ps
  parts : partsOk (E p).kind ps.length
  kid : ∀ i, i < ps.length → kidOk (E p).kind ps.length i (E (pAt ps i)).kind
  tree : treeP E (r + 1) p = .mk (E p).kind (E p).text (E p).n (ps.map (treeP E r))
  at_ : ∀ i, i < ps.length → ∃ (d z : Nat), pAt ps i = p + d ∧ 1 ≤ d ∧ (E (p + d)).size = z ∧ d + (z + 1) ≤ len ∧ ok E r (p + d) (z + 1) = true
  few : ps.length ≤ len

theorem node_of {E : Nat → Ex} {r p len : Nat} (hl : 0 < len) (hl2 : len ≤ 3000) (hok : ok E (r + 1) p len = true) : ∃ ps, Node E r p len ps := by
  obtain ⟨hsz, hh, ps, hcp, hpo, hspt, hall⟩ := parts_of_ok hl2 hok
  obtain ⟨hfits, hpl⟩ := cut_fits _ _ _ hcp
  refine ⟨ps, hsz, hh, hcp, hpo, fun i hi => ?_, ?_, fun i hi => ?_, by omega⟩
  · unfold sp at hspt
    rw [Bool.and_eq_true, Bool.and_eq_true] at hspt
    have := kids_of _ hspt.2.1 i (E (pAt ps i)) (by rw [List.getElem?_map, (pAt_mem hi).2]; rfl)
    simpa using this
  · rw [treeP, show (E p).size.toNat = len - 1 by omega, hcp]
    rfl
  · obtain ⟨hm, _⟩ := pAt_mem hi
    obtain ⟨f1, f2, f3⟩ := hfits _ hm
    have e : p + (pAt ps i - p) = pAt ps i := by omega
    refine ⟨pAt ps i - p, (E (pAt ps i)).size.toNat, e.symm, by omega, by rw [e]; omega, by omega, by rw [e]; exact hall _ hm⟩

/-- A node's only part. -/
theorem node_one {E : Nat → Ex} {r p len : Nat} {ps : List Nat} (h : Node E r p len ps) (hps : ps.length = 1) : ∃ z, len = z + 2 ∧ (E (p + 1)).size = z ∧ ok E r (p + 1) (z + 1) = true ∧ pAt ps 0 = p + 1 := by
  have hl : 0 < len - 1 := by
    rcases Nat.eq_zero_or_pos (len - 1) with h0 | h0
    · have := h.cut
      rw [h0, cut_zero] at this
      cases this
      simp at hps
    · exact h0
  obtain ⟨z, rest, hz, hzl, hrest, hcr⟩ := cut_head hl h.cut
  obtain ⟨d, z2, e1, e2, e3, e4, e5⟩ := h.at_ 0 (by omega)
  have hp0 : pAt ps 0 = p + 1 := by rw [hrest]; rfl
  obtain rfl : d = 1 := by omega
  have hr : rest = [] := by
    rw [hrest] at hps
    simpa using hps
  rw [hr] at hcr
  have hlast : len - 1 - (z + 1) = 0 := by
    rcases Nat.eq_zero_or_pos (len - 1 - (z + 1)) with h0 | h0
    · exact h0
    · obtain ⟨_, _, _, _, hc, _⟩ := cut_head h0 hcr
      cases hc
  have : z2 = z := by
    have : ((z2 : Nat) : Int) = (z : Nat) := by rw [← e3, hz]
    omega
  subst this
  exact ⟨z2, by omega, e3, e5, hp0⟩

theorem kid_not {E : Nat → Ex} {r p len : Nat} {ps : List Nat} (N : Node E r p len ps) (i : Nat) (hi : i < ps.length) : okKind (E (pAt ps i)).kind = true := by
  obtain ⟨d, z, e1, _, _, _, e5⟩ := N.at_ i hi
  rw [e1]
  exact ok_kind e5

end Go.Proofs.YthklplfpnciodaaGreatDoor.ex
