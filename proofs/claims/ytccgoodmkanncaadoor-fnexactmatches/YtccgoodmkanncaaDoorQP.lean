import Derived.Test.YtccgoodmkanncaaDoorQO
namespace Go.Proofs.YtccgoodmkanncaaDoor.rc
open Go.ChangeShapes Go.WideShapes Go.ChangeAt Go.RowKit Go.Deep Go.Lib Go.Shelf Go.Proofs.YtccgoodmkanncaaDoor.vr
set_option linter.unusedVariables false
set_option linter.unusedSimpArgs false

theorem ml_of {W : World} (h : W.ShapedOpen Tryd.prog) : ML W := laysSP.s1_3 W h

/-- The two answers are of one kind. -/
theorem one_kind {l : List UInt8} {ls ls' : List (List Tm)} {b b' : Bool} (h : rd l = none ∧ ls = [] ∧ b = false ∨ rd l = some ls ∧ b = true) (h' : rd l = none ∧ ls' = [] ∧ b' = false ∨ rd l = some ls' ∧ b' = true) : ls' = ls ∧ b' = b := by
  rcases h with ⟨h1, rfl, rfl⟩ | ⟨h1, rfl⟩
  · rcases h' with ⟨_, rfl, rfl⟩ | ⟨h2, _⟩
    · exact ⟨rfl, rfl⟩
    · rw [h1] at h2; cases h2
  · rcases h' with ⟨h2, _⟩ | ⟨h2, rfl⟩
    · rw [h1] at h2; cases h2
    · rw [h1] at h2
      exact ⟨(Option.some.inj h2).symm, rfl⟩

theorem sum_le (n : Nat) : ∀ ls : List (List Tm), (∀ l ∈ ls, l.length ≤ n) → (ls.map fun l => l.length * 2).sum ≤ ls.length * (n * 2)
  | [], _ => by simp
  | a :: r, h => by
    have h1 := h a (by simp)
    have h2 := sum_le n r (fun l hl => h l (by simp [hl]))
    rw [List.map_cons, List.sum_cons, List.length_cons, Nat.add_mul]
    omega

theorem rd_small {l : List UInt8} {ls : List (List Tm)} {b : Bool} (h : rd l = none ∧ ls = [] ∧ b = false ∨ rd l = some ls ∧ b = true) : ls.length ≤ 201 ∧ (∀ x ∈ ls, x.length ≤ 201) ∧ offT ls ls.length ≤ 100000 := by
  rcases h with ⟨_, rfl, _⟩ | ⟨h, _⟩
  · refine ⟨by simp, fun x hx => by simp at hx, by simp [offT]⟩
  · unfold rd at h
    split at h
    · cases h
    · next hl =>
      split at h
      · obtain rfl := Option.some.inj h
        have ha := al_len _ l [] (Nat.le_refl _)
        have hlen : ((al [] l).map fun a => (wds [] a).map trm).length ≤ 201 := by rw [List.length_map]; omega
        have hx : ∀ x ∈ (al [] l).map fun a => (wds [] a).map trm, x.length ≤ 201 := fun x hx => by
          obtain ⟨a, ha', rfl⟩ := List.mem_map.1 hx
          have h1 := ha.2 a ha'
          have h2 := (wds_len a []).1
          rw [List.length_map]
          simp at h1
          omega
        refine ⟨hlen, hx, ?_⟩
        unfold offT
        rw [List.take_length]
        have := sum_le 201 _ hx
        have h3 : ((al [] l).map fun a => (wds [] a).map trm).length * (201 * 2) ≤ 201 * (201 * 2) := Nat.mul_le_mul_right _ hlen
        omega
      · cases h

theorem RdS.nst {B : Nat} {w : World} {r : Value} {vs : List Value} {ls : List (List Tm)} {K : Nat → Prop} (h : RdS B w r vs ls K) : ∃ G cap gs, r = .slice (some ⟨G, 0, none⟩) ls.length cap ∧ gs.length = ls.length ∧ gs.Nodup ∧ G ∉ gs ∧ G < w.heap.size ∧ (∀ g ∈ gs, B ≤ g) ∧ ∀ k0, Nst w G ls gs k0 0 := by
  have h0 := h.own
  obtain ⟨hl, ho⟩ := h.own
  obtain ⟨gs, g1, g2, g3, g4⟩ := h.blk
  rcases ho with ⟨e, _⟩ | ⟨G, cap, cur, rfl, hb, hg, hcs⟩
  · exact absurd e h.nn
  · refine ⟨G, cap, gs, by rw [h.len], g1, g2, fun hm => (h.ks G (g3 G hm).1).2 rfl, (Array.getElem?_eq_some_iff.1 hg).1, fun g hm => (g3 g hm).2, fun k0 i l hi => ?_⟩
    obtain ⟨g, c, a1, a2, cs, a3, a4⟩ := g4 i l hi
    have := h0.cells (g := G) rfl i _ a2
    rw [addr_add, Nat.zero_add] at this
    exact ⟨g, c, a1, this, ⟨cs, a3, a4⟩, fun j hj => by simp at hj⟩

end Go.Proofs.YtccgoodmkanncaaDoor.rc
