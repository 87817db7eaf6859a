import Derived.Test.YtfcbneknikopkaaGreatDoorRE
namespace Go.Proofs.YtfcbneknikopkaaGreatDoor.sr
open Go.ChangeShapes Go.WideShapes Go.ChangeAt Go.RowKit Go.Deep
set_option linter.unusedVariables false
set_option linter.unusedSimpArgs false

def NMA : List ByteArray := NMS.map fun x => ⟨x.toArray⟩

theorem StrR.ss {w : World} {v : Value} (h : StrR w v NMS) : ∃ a c, v = .slice a 26 c ∧ st.Ss w a 26 NMA := by
  obtain ⟨bb, off, cap, rfl, _, _, hc⟩ := h
  refine ⟨_, cap, rfl, .inr ⟨bb, off, rfl, fun i hi => ?_⟩⟩
  have hlt : i < NMS.length := hi
  rw [hc i _ (xAt_some hlt), strL]
  congr 2
  simp [st.atS, NMA, xAt, hlt]

theorem OwnS.marks {base : Nat} {w : World} {v : Value} (h : OwnS base w v NMS) : ∃ g c, v = .slice (some ⟨g, 0, none⟩) 26 c ∧ base ≤ g ∧ g < w.heap.size ∧ MkR w g 0 26 1 0 ∧ st.Ss w (some ⟨g, 0, none⟩) 26 NMA := by
  obtain ⟨a, c, e, hs⟩ := h.row.ss
  rcases h.1.2 with ⟨e2, _⟩ | ⟨g, cap, cur, e2, hb, hg, hc, hm, hz, ht⟩
  · exact absurd e2 h.2
  · rw [e] at e2
    have e3 : a = some ⟨g, 0, none⟩ := by injection e2
    subst e3
    have h26 : NMS.length = 26 := rfl
    refine ⟨g, c, e, hb, (Array.getElem?_eq_some_iff.1 hg).1, ⟨⟨cur, hg, by omega⟩, fun j hj => by omega⟩, hs⟩

end Go.Proofs.YtfcbneknikopkaaGreatDoor.sr
