import Derived.Test.YtlnagmdoepldmaaDoorPB
namespace Go.Proofs.YtlnagmdoepldmaaDoor.ex
open Go.ChangeShapes Go.WideShapes Go.ChangeAt Go.RowKit Go.Deep
set_option linter.unusedVariables false
set_option linter.unusedSimpArgs false

/-! ### The parts of a node: what the specification reads of them -/

def pAt (ps : List Nat) (j : Nat) : Nat := ps[j]?.getD 0

theorem pAt_mem {ps : List Nat} {j : Nat} (h : j < ps.length) : pAt ps j ∈ ps ∧ ps[j]? = some (pAt ps j) := by
  have e : ps[j]? = some ps[j] := by simp [h]
  have e2 : pAt ps j = ps[j] := by simp [pAt, h]
  exact ⟨by rw [e2]; exact List.getElem_mem h, by rw [e2]; exact e⟩

theorem tr_kind (E : Nat → Ex) (r q : Nat) : (treeP E r q).kind = (E q).kind := by cases r <;> rfl

theorem trP_at {E : Nat → Ex} {r : Nat} {ps : List Nat} {j : Nat} (h : j < ps.length) : Tr.at (ps.map (treeP E r)) j = treeP E r (pAt ps j) := by
  simp [Tr.at, pAt, h]

/-- A node that is right, taken apart. -/
structure Node (E : Nat → Ex) (r p len : Nat) (ps : List Nat) : Prop where
  size : (E p).size = (len : Int) - 1
  head : headB (E p) = true
  cut : cutP E (p + 1) (len - 1) = some ps
  parts : partsOk (E p).kind ps.length
  kid : ∀ i, i < ps.length → kidOk (E p).kind ps.length i (E (pAt ps i)).kind
  tree : treeP E (r + 1) p = .mk (E p).kind (E p).text (E p).n (ps.map (treeP E r))
  at_ : ∀ i, i < ps.length → ∃ (d z : Nat), pAt ps i = p + d ∧ 1 ≤ d ∧ (E (p + d)).size = z ∧ d + (z + 1) ≤ len ∧ ok E r (p + d) (z + 1) = true
  few : ps.length ≤ len

theorem node_of {E : Nat → Ex} {r p len : Nat} (hl : 0 < len) (hl2 : len ≤ 3000) (hok : ok E (r + 1) p len = true) : ∃ ps, Node E r p len ps := by
  obtain ⟨hsz, hh, ps, hcp, hpo, hspt, hall⟩ := parts_of_ok hl2 hok
  obtain ⟨hfits, hpl⟩ := cut_fits _ _ _ hcp
  refine ⟨ps, hsz, hh, hcp, hpo, fun i hi => ?_, ?_, fun i hi => ?_, by omega⟩
  · unfold sp at hspt
    rw [Bool.and_eq_true, Bool.and_eq_true] at hspt
    have := kids_of _ hspt.2.1 i (E (pAt ps i)) (by rw [List.getElem?_map, (pAt_mem hi).2]; rfl)
    simpa using this
  · rw [treeP, show (E p).size.toNat = len - 1 by omega, hcp]
    rfl
  · obtain ⟨hm, _⟩ := pAt_mem hi
    obtain ⟨f1, f2, f3⟩ := hfits _ hm
    have e : p + (pAt ps i - p) = pAt ps i := by omega
    refine ⟨pAt ps i - p, (E (pAt ps i)).size.toNat, e.symm, by omega, by rw [e]; omega, by omega, by rw [e]; exact hall _ hm⟩

/-- A node's only part. -/
theorem node_one {E : Nat → Ex} {r p len : Nat} {ps : List Nat} (h : Node E r p len ps) (hps : ps.length = 1) : ∃ z, len = z + 2 ∧ (E (p + 1)).size = z ∧ ok E r (p + 1) (z + 1) = true ∧ pAt ps 0 = p + 1 := by
  have hl : 0 < len - 1 := by
    rcases Nat.eq_zero_or_pos (len - 1) with h0 | h0
    · have := h.cut
      rw [h0, cut_zero] at this
      cases this
      simp at hps
    · exact h0
  obtain ⟨z, rest, hz, hzl, hrest, hcr⟩ := cut_head hl h.cut
  obtain ⟨d, z2, e1, e2, e3, e4, e5⟩ := h.at_ 0 (by omega)
  have hp0 : pAt ps 0 = p + 1 := by rw [hrest]; rfl
  obtain rfl : d = 1 := by omega
  have hr : rest = [] := by
    rw [hrest] at hps
    simpa using hps
  rw [hr] at hcr
  have hlast : len - 1 - (z + 1) = 0 := by
    rcases Nat.eq_zero_or_pos (len - 1 - (z + 1)) with h0 | h0
    · exact h0
    · obtain ⟨_, _, _, _, hc, _⟩ := cut_head h0 hcr
      cases hc
  have : z2 = z := by
    have : ((z2 : Nat) : Int) = (z : Nat) := by rw [← e3, hz]
    omega
  subst this
  exact ⟨z2, by omega, e3, e5, hp0⟩

theorem seq_len {f : Nat → List UInt8} {m : Nat} {c : Nat} (h : ∀ j, j < m → (f j).length ≤ c) : ∀ i, i ≤ m → (seqTo f i).length ≤ i * c
  | 0, _ => by simp [seqTo]
  | i + 1, hi => by
    have ih := seq_len h i (by omega)
    have h1 := h i (by omega)
    rw [seqTo, List.length_append, Nat.add_mul]
    omega

theorem seq_cong {f g : Nat → List UInt8} {m : Nat} (h : ∀ j, j < m → f j = g j) : ∀ i, i ≤ m → seqTo f i = seqTo g i
  | 0, _ => rfl
  | i + 1, hi => by rw [seqTo, seqTo, seq_cong h i (by omega), h i (by omega)]

/-- What l3Binds says of a part. -/
def bindL (E : Nat → Ex) (r : Nat) (ps : List Nat) (j : Nat) : List UInt8 := if (E (pAt ps j)).kind = 6 ∨ (E (pAt ps j)).kind = 7 then txt r (treeP E r (pAt ps j)) else []

/-- An ExInherit. -/
theorem txt_inherit {E : Nat → Ex} {r q len : Nat} (hk : (E q).kind = 7) (hok : ok E r q len = true) : txt r (treeP E r q) = [105, 110, 104, 101, 114, 105, 116, 32] ++ (E q).text.data.toList ++ [59, 32] := by
  cases r with
  | zero => cases hok
  | succ r => rw [treeP, txt]; simp [hk]

/-- An ExBind: its only part begins behind it. -/
theorem txt_bind {E : Nat → Ex} {r q len : Nat} (hl : 0 < len) (hl2 : len ≤ 3000) (hk : (E q).kind = 6) (hok : ok E r q len = true) : ∃ (r' z : Nat), r = r' + 1 ∧ len = z + 2 ∧ ok E r' (q + 1) (z + 1) = true ∧ exprK (E (q + 1)).kind = true ∧ txt r (treeP E r q) = (E q).text.data.toList ++ [32, 61, 32] ++ brak (E (q + 1)).kind (txt r' (treeP E r' (q + 1))) ++ [59, 32] := by
  cases r with
  | zero => cases hok
  | succ r =>
    obtain ⟨ps, N⟩ := node_of hl hl2 hok
    have hps : ps.length = 1 := N.parts.2.1 (by omega)
    obtain ⟨z, e1, e2, e3, e4⟩ := node_one N hps
    have hx := N.kid 0 (by omega)
    rw [hk, e4] at hx
    refine ⟨r, z, rfl, e1, e3, by simpa [kidOk] using hx, ?_⟩
    rw [N.tree, txt, hk]
    simp [trP_at (E := E) (r := r) (ps := ps) (j := 0) (by omega), e4, tr_kind]

/-- An ExParam. -/
theorem txt_param {E : Nat → Ex} {r q len : Nat} (hl : 0 < len) (hl2 : len ≤ 3000) (hk : (E q).kind = 15) (hok : ok E r q len = true) :
    (len = 1 ∧ txt r (treeP E r q) = (E q).text.data.toList) ∨ ∃ (r' z : Nat), r = r' + 1 ∧ len = z + 2 ∧ ok E r' (q + 1) (z + 1) = true ∧ exprK (E (q + 1)).kind = true ∧ txt r (treeP E r q) = (E q).text.data.toList ++ [32, 63, 32] ++ brak (E (q + 1)).kind (txt r' (treeP E r' (q + 1))) := by
  cases r with
  | zero => cases hok
  | succ r =>
    obtain ⟨ps, N⟩ := node_of hl hl2 hok
    have hps : ps.length ≤ 1 := N.parts.2.2.2.2.1 hk
    rcases Nat.lt_or_ge 0 ps.length with h0 | h0
    · have hps1 : ps.length = 1 := by omega
      obtain ⟨z, e1, e2, e3, e4⟩ := node_one N hps1
      have hx := N.kid 0 (by omega)
      rw [hk, e4] at hx
      refine .inr ⟨r, z, rfl, e1, e3, by simpa [kidOk] using hx, ?_⟩
      rw [N.tree, txt, hk]
      simp [trP_at (E := E) (r := r) (ps := ps) (j := 0) (by omega), e4, tr_kind, hps1]
    · have hp0 : ps = [] := List.length_eq_zero_iff.1 (by omega)
      have hlen : len = 1 := by
        have := N.cut
        rcases Nat.eq_zero_or_pos (len - 1) with h1 | h1
        · omega
        · rw [hp0] at this
          obtain ⟨_, _, _, _, hc, _⟩ := cut_head h1 this
          cases hc
      refine .inl ⟨hlen, ?_⟩
      rw [N.tree, txt, hk, hp0]
      simp

end Go.Proofs.YtlnagmdoepldmaaDoor.ex
