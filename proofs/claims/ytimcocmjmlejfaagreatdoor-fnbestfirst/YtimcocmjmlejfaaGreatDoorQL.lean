import Derived.Test.YtimcocmjmlejfaaGreatDoorQJ
namespace Go.Proofs.YtimcocmjmlejfaaGreatDoor.rc
open Go.ChangeShapes Go.WideShapes Go.ChangeAt Go.RowKit Go.Deep Go.Lib Go.Shelf Go.Proofs.YtimcocmjmlejfaaGreatDoor.vr
set_option linter.unusedVariables false
set_option linter.unusedSimpArgs false

/-! ### The law's helpers over rows of rows of terms -/

/-- What can be read of rows of rows. -/
def RdR (w : World) (r : Value) (ls : List (List Tm)) : Prop := ∃ G cap, r = .slice (some ⟨G, 0, none⟩) ls.length cap ∧ G < w.heap.size ∧ ∀ (i : Nat) (l : List Tm), ls[i]? = some l → ∃ g c, w.cell? ⟨G, i, none⟩ = some (.slice (some ⟨g, 0, none⟩) l.length c) ∧ TmR w (.slice (some ⟨g, 0, none⟩) l.length c) l

theorem RdS.read {B : Nat} {w : World} {r : Value} {vs : List Value} {ls : List (List Tm)} {K : Nat → Prop} (h : RdS B w r vs ls K) : RdR w r ls := by
  have h0 := h.own
  obtain ⟨hl, ho⟩ := h.own
  rcases ho with ⟨e, _⟩ | ⟨G, cap, cur, rfl, hb, hg, hcs⟩
  · exact absurd e h.nn
  · refine ⟨G, cap, by rw [h.len], (Array.getElem?_eq_some_iff.1 hg).1, fun i l hi => ?_⟩
    obtain ⟨v, hv, g, c, rfl, ht, _⟩ := h.inn i l hi
    have := h0.cells (g := G) rfl i _ hv
    rw [addr_add, Nat.zero_add] at this
    exact ⟨g, c, this, ht⟩

theorem RdR.below {w w' : World} {r : Value} {ls : List (List Tm)} (h : RdR w r ls) (hb : Below w.heap.size w w') : RdR w' r ls := by
  obtain ⟨G, cap, e, hg, h⟩ := h
  refine ⟨G, cap, e, Nat.lt_of_lt_of_le hg hb.size, fun i l hi => ?_⟩
  obtain ⟨g, c, h1, h2⟩ := h i l hi
  exact ⟨g, c, (hb.cell (p := ⟨G, i, none⟩) hg).trans h1, h2.below hb⟩

end Go.Proofs.YtimcocmjmlejfaaGreatDoor.rc
