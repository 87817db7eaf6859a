import Derived.Test.YtakkmkeipfjapaaGreatDoorRA
import Derived.Test.YtakkmkeipfjapaaGreatDoorRE
namespace Go.Proofs.YtakkmkeipfjapaaGreatDoor.sr
open Go.ChangeShapes Go.WideShapes Go.ChangeAt Go.RowKit Go.Deep
set_option linter.unusedVariables false
set_option linter.unusedSimpArgs false

/-! ### The specification's l3Has -/

set_option maxRecDepth 100000 in
theorem l3has_any (xs : List (List UInt8)) (v : Value) (s : ByteArray) (w : World) (hR : StrR w v xs) :
    Calls Tryz.prog 50 #[v, .string s] w fun e w' => e = .returned (.bool (decide (s.data.toList ∈ xs))) ∧ w' = w := by
  obtain ⟨bb, off, cap, rfl, h1, h2, hc⟩ := hR
  have HC : Hid (∀ i, i < xs.length → w.cell? ⟨bb, off + i, none⟩ = some (strL (xAt xs i))) := fun i hi => hc i _ (xAt_some hi)
  unfold maxLen at h2
  clear hc
  go_enter Tryz.func50, Tryz.ntmps50
  go_wp2
  go_loopw [5] (fun x wr => ∃ (i : Nat), i ≤ xs.length ∧ x = .int .i64 (i : Int) ∧ (∀ j, j < i → xAt xs j ≠ s.data.toList) ∧ wr = w) (fun x _ => xs.length - (intOf x).toNat)
  case atStart => exact ⟨0, Nat.zero_le _, rfl, fun j h => by omega, rfl⟩
  case round =>
    obtain ⟨i, hi, rfl, hno, rfl⟩ := hrel
    have HNO : Hid (∀ j, j < i → xAt xs j ≠ s.data.toList) := hno
    clear hno
    by_cases h : i < xs.length
    · have h' : (i : Int) < (xs.length : Int) := by omega
      have ce := HC.out i h
      rw [strL] at ce
      obtain ⟨u, hu⟩ : ∃ u : ByteArray, (⟨(xAt xs i).toArray⟩ : ByteArray) = u := ⟨_, rfl⟩
      rw [hu] at ce
      have HU : Hid (u.toList = xAt xs i) := by show _ = _; rw [← hu, ByteArray.toList_eq]
      clear hu
      cases he : (u.toList == s.toList) with
      | true =>
        have HY : Hid (decide (s.data.toList ∈ xs) = true) := by
          show _ = _
          rw [decide_eq_true_eq]
          have e : xAt xs i = s.data.toList := by rw [← HU.out, ← ByteArray.toList_eq]; simpa using he
          rw [← e]
          exact List.mem_of_getElem? (xAt_some h)
        go_wp2
        go_ret
        exact ⟨ret_bool HY.out.symm, rfl⟩
      | false =>
        have HX : Hid (xAt xs i ≠ s.data.toList) := by
          intro e
          rw [← HU.out, ← ByteArray.toList_eq] at e
          simp [e] at he
        go_wp2
        go_roundw
        case rel => exact ⟨i + 1, by omega, by go_num, fun j hj => by
          rcases Nat.lt_or_ge j i with h | h
          · exact HNO.out j h
          · obtain rfl : j = i := by omega
            exact HX.out, by first | rfl | trivial⟩
        case measure => simp [intOf]; omega
    · have h' : ¬ (i : Int) < (xs.length : Int) := by omega
      obtain rfl : i = xs.length := by omega
      have HY : Hid (decide (s.data.toList ∈ xs) = false) := by
        show _ = _
        rw [decide_eq_false_iff_not]
        intro hm
        obtain ⟨j, hj, e⟩ := List.mem_iff_getElem.1 hm
        exact HNO.out j hj (by simp [xAt, hj, e])
      go_wp2
      go_ret
      exact ⟨ret_bool HY.out.symm, rfl⟩

end Go.Proofs.YtakkmkeipfjapaaGreatDoor.sr

namespace Go.Proofs.YtakkmkeipfjapaaGreatDoor.lw
open Go.ChangeShapes Go.WideShapes Go.ChangeAt Go.RowKit Go.Deep
set_option linter.unusedVariables false
set_option linter.unusedSimpArgs false

/-! ### For the laws' walks: answers that are rows of texts -/

def fma (xs : List (List UInt8)) : List ByteArray := xs.map fun x => ⟨x.toArray⟩
theorem fma_at {xs : List (List UInt8)} {i : Nat} {x : List UInt8} (h : xs[i]? = some x) : st.atS (fma xs) i = ⟨x.toArray⟩ := by
  have : (fma xs)[i]? = some ⟨x.toArray⟩ := by unfold fma; rw [List.getElem?_map, h]; rfl
  simp [st.atS, this]
theorem ss_row {w : World} {v : Value} {xs : List (List UInt8)} (h : sr.StrR w v xs) : ∃ a c, v = .slice a xs.length c ∧ st.Ss w a xs.length (fma xs) := by
  obtain ⟨bb, off, cap, rfl, _, _, hc⟩ := h
  refine ⟨_, cap, rfl, .inr ⟨bb, off, rfl, fun i hi => ?_⟩⟩
  have hx : xs[i]? = some xs[i] := List.getElem?_eq_getElem hi
  rw [fma_at hx]
  exact hc i _ hx
/-- A row of texts in a block of its own. -/
def GB (w : World) (g : Nat) (xs : List (List UInt8)) : Prop := ∃ cs : Array Value, w.heap[g]? = some (.cells cs 9 (0, 0)) ∧ ∀ (i : Nat) (x : List UInt8), xs[i]? = some x → cs[i]? = some (sr.strL x)
theorem GB.of {w w' : World} {g : Nat} {xs : List (List UInt8)} (h : GB w g xs) (e : w'.heap[g]? = w.heap[g]?) : GB w' g xs := by
  obtain ⟨cs, h1, h2⟩ := h
  exact ⟨cs, e.trans h1, h2⟩
theorem GB.lt {w : World} {g : Nat} {xs : List (List UInt8)} (h : GB w g xs) : g < w.heap.size := by
  obtain ⟨cs, h1, _⟩ := h
  exact (Array.getElem?_eq_some_iff.1 h1).1
theorem GB.below {w w' : World} {g : Nat} {xs : List (List UInt8)} (h : GB w g xs) (k : Below w.heap.size w w') : GB w' g xs := h.of (k.block g h.lt)
theorem GB.ss {w : World} {g : Nat} {xs : List (List UInt8)} (h : GB w g xs) : st.Ss w (some ⟨g, 0, none⟩) xs.length (fma xs) := by
  obtain ⟨cs, h1, h2⟩ := h
  refine .inr ⟨g, 0, rfl, fun i hi => ?_⟩
  have hx : xs[i]? = some xs[i] := List.getElem?_eq_getElem hi
  rw [fma_at hx, Nat.zero_add]
  simp only [World.cell?, h1]
  exact h2 i _ hx
theorem GB.mk {w : World} {g : Nat} {xs : List (List UInt8)} (h : GB w g xs) : sr.MkR w g 0 xs.length 1 0 := by
  obtain ⟨cs, h1, h2⟩ := h
  refine ⟨⟨cs, h1, ?_⟩, fun j hj => by omega⟩
  rw [Nat.zero_add]
  rcases Nat.eq_zero_or_pos xs.length with h0 | h0
  · omega
  · have hx : xs[xs.length - 1]? = some xs[xs.length - 1] := List.getElem?_eq_getElem (by omega)
    have := (Array.getElem?_eq_some_iff.1 (h2 _ _ hx)).1
    omega
theorem GB.own {w : World} {B : Nat} {v : Value} {xs : List (List UInt8)} (h : sr.OwnS B w v xs) : ∃ g c, v = .slice (some ⟨g, 0, none⟩) xs.length c ∧ B ≤ g ∧ GB w g xs := by
  obtain ⟨⟨hl, h'⟩, hv⟩ := h
  rcases h' with ⟨e, _⟩ | ⟨g, cap, cur, e, hb, hg, hc, hm, hz, ht⟩
  · exact absurd e hv
  · refine ⟨g, cap, e, hb, cur, hg, fun i x hx => ?_⟩
    have hi := (List.getElem?_eq_some_iff.1 hx).1
    have h1 : (cur.toList.take xs.length)[i]? = (xs.map sr.strL)[i]? := by first | rw [ht] | (rw [← ht]; simp)
    rw [List.getElem?_take_of_lt hi, List.getElem?_map, hx] at h1
    simpa using h1

end Go.Proofs.YtakkmkeipfjapaaGreatDoor.lw

