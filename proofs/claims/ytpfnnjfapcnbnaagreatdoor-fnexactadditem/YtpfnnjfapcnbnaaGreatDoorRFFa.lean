import Derived.Test.YtpfnnjfapcnbnaaGreatDoorRF1a
import Derived.Test.YtpfnnjfapcnbnaaGreatDoorTT2a
import Derived.Test.YtpfnnjfapcnbnaaGreatDoorTX1a
namespace Go.Proofs.YtpfnnjfapcnbnaaGreatDoor.rf
open Go.ChangeShapes Go.WideShapes Go.ChangeAt Go.RowKit Go.Deep Go.Shelf Go.Sort Go.Maps
set_option linter.unusedVariables false
set_option linter.unusedSimpArgs false
theorem tree_is {E : Nat → tt.En} {n : Nat} (h : tt.treeB E n = true) : n ≤ 500 ∧ tt.Tr E n := by unfold tt.treeB at h; exact (@decide_eq_true_iff _ (Classical.propDecidable _)).1 h
theorem PW_len {E : Nat → tt.En} {B : Nat} : ∀ {N : Nat}, (∀ i, i < N → (E i).data.size ≤ B) → (PW E N).length ≤ N * B
 | 0, _ => by simp [PW]
 | N + 1, h => by
  have h1 := PW_len (E := E) (B := B) (N := N) (fun i hi => h i (by omega))
  have h2 := h N (by omega)
  rw [PW, List.length_append, pcs_len, Nat.add_mul]
  omega
theorem eOk_data {e : tt.En} (h : tt.eOk e = true) : e.data.size ≤ 20000 := by
 unfold tt.eOk tt.cOk at h
 simp only [Bool.and_eq_true, decide_eq_true_eq] at h
 exact h.2.1
theorem nil_row (w : World) : sr.OwnS w.heap.size (w.alloc (.cells #[] 9)) (.slice (some ⟨w.heap.size, 0, none⟩) 0 0) [] := ⟨sr.own_zero w, sr.not_nil _ _ _⟩
end Go.Proofs.YtpfnnjfapcnbnaaGreatDoor.rf
