import Derived.Test.YtdddplhfhpghkaaRE
import Derived.Test.YtdddplhfhpghkaaRA
namespace Go.Proofs.Ytdddplhfhpghkaa.lw
open Go.ChangeShapes Go.WideShapes Go.ChangeAt Go.RowKit Go.Deep
set_option linter.unusedVariables false
set_option linter.unusedSimpArgs false

/-! ### For the laws' walks: answers that are rows of texts -/

def fma (xs : List (List UInt8)) : List ByteArray := xs.map fun x => ⟨x.toArray⟩
theorem fma_at {xs : List (List UInt8)} {i : Nat} {x : List UInt8} (h : xs[i]? = some x) : st.atS (fma xs) i = ⟨x.toArray⟩ := by
  have : (fma xs)[i]? = some ⟨x.toArray⟩ := by unfold fma; rw [List.getElem?_map, h]; rfl
  simp [st.atS, this]
theorem ss_row {w : World} {v : Value} {xs : List (List UInt8)} (h : sr.StrR w v xs) : ∃ a c, v = .slice a xs.length c ∧ st.Ss w a xs.length (fma xs) := by
  obtain ⟨bb, off, cap, rfl, _, _, hc⟩ := h
  refine ⟨_, cap, rfl, .inr ⟨bb, off, rfl, fun i hi => ?_⟩⟩
  have hx : xs[i]? = some xs[i] := List.getElem?_eq_getElem hi
  rw [fma_at hx]
  exact hc i _ hx
/-- A row of texts in a block of its own. -/
def GB (w : World) (g : Nat) (xs : List (List UInt8)) : Prop := ∃ cs : Array Value, w.heap[g]? = some (.cells cs 9 (0, 0)) ∧ ∀ (i : Nat) (x : List UInt8), xs[i]? = some x → cs[i]? = some (sr.strL x)
theorem GB.of {w w' : World} {g : Nat} {xs : List (List UInt8)} (h : GB w g xs) (e : w'.heap[g]? = w.heap[g]?) : GB w' g xs := by
  obtain ⟨cs, h1, h2⟩ := h
  exact ⟨cs, e.trans h1, h2⟩
theorem GB.lt {w : World} {g : Nat} {xs : List (List UInt8)} (h : GB w g xs) : g < w.heap.size := by
  obtain ⟨cs, h1, _⟩ := h
  exact (Array.getElem?_eq_some_iff.1 h1).1
theorem GB.below {w w' : World} {g : Nat} {xs : List (List UInt8)} (h : GB w g xs) (k : Below w.heap.size w w') : GB w' g xs := h.of (k.block g h.lt)
theorem GB.ss {w : World} {g : Nat} {xs : List (List UInt8)} (h : GB w g xs) : st.Ss w (some ⟨g, 0, none⟩) xs.length (fma xs) := by
  obtain ⟨cs, h1, h2⟩ := h
  refine .inr ⟨g, 0, rfl, fun i hi => ?_⟩
  have hx : xs[i]? = some xs[i] := List.getElem?_eq_getElem hi
  rw [fma_at hx, Nat.zero_add]
  simp only [World.cell?, h1]
  exact h2 i _ hx
theorem GB.mk {w : World} {g : Nat} {xs : List (List UInt8)} (h : GB w g xs) : sr.MkR w g 0 xs.length 1 0 := by
  obtain ⟨cs, h1, h2⟩ := h
  refine ⟨⟨cs, h1, ?_⟩, fun j hj => by omega⟩
  rw [Nat.zero_add]
  rcases Nat.eq_zero_or_pos xs.length with h0 | h0
  · omega
  · have hx : xs[xs.length - 1]? = some xs[xs.length - 1] := List.getElem?_eq_getElem (by omega)
    have := (Array.getElem?_eq_some_iff.1 (h2 _ _ hx)).1
    omega
theorem GB.own {w : World} {B : Nat} {v : Value} {xs : List (List UInt8)} (h : sr.OwnS B w v xs) : ∃ g c, v = .slice (some ⟨g, 0, none⟩) xs.length c ∧ B ≤ g ∧ GB w g xs := by
  obtain ⟨⟨hl, h'⟩, hv⟩ := h
  rcases h' with ⟨e, _⟩ | ⟨g, cap, cur, e, hb, hg, hc, hm, hz, ht⟩
  · exact absurd e hv
  · refine ⟨g, cap, e, hb, cur, hg, fun i x hx => ?_⟩
    have hi := (List.getElem?_eq_some_iff.1 hx).1
    have h1 : (cur.toList.take xs.length)[i]? = (xs.map sr.strL)[i]? := by first | rw [ht] | (rw [← ht]; simp)
    rw [List.getElem?_take_of_lt hi, List.getElem?_map, hx] at h1
    simpa using h1

end Go.Proofs.Ytdddplhfhpghkaa.lw
