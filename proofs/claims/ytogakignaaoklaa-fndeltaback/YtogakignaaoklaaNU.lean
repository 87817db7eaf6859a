import Derived.Test.YtogakignaaoklaaNV
namespace Go.Proofs.Ytogakignaaoklaa.dl
open Go.ChangeShapes Go.WideShapes Go.ChangeAt Go.RowKit Go.Deep
open bf (Bf Ap)
set_option linter.unusedVariables false
set_option linter.unusedSimpArgs false

theorem wt_appM (ss : List Sp) (x : Sp) : wt (ss ++ [x]) = wt ss + 1 + x.d.length := by
  unfold wt wtS
  rw [List.take_length, List.take_length]
  simp
  omega
theorem wt_addB (X : List Sp) (y : UInt8) : wt (addB X y) ≤ wt X + 2 := by
  unfold addB
  cases hl : X.getLast? with
  | none =>
    have : X = [] := List.getLast?_eq_none_iff.1 hl
    subst this
    simp [wt, wtS]
  | some x =>
    obtain ⟨X', rfl⟩ := List.getLast?_eq_some_iff.1 hl
    simp only
    split
    · rw [List.dropLast_concat, wt_appM, wt_appM]
      simp
      omega
    · rw [wt_appM]
      simp
theorem wt_mkA (old : List UInt8) : ∀ (f : Nat) (rest : List UInt8) (X : List Sp), wt (mkA old f rest X) ≤ wt X + 2 * rest.length
  | 0, rest, X => by unfold mkA; omega
  | f + 1, [], X => by unfold mkA; omega
  | f + 1, y :: r, X => by
    rw [mkA]
    split
    · next h =>
      have ih := wt_mkA old f ((y :: r).drop (fd old (y :: r) old.length).2) (X ++ [⟨1, ((fd old (y :: r) old.length).1 : Int), ((fd old (y :: r) old.length).2 : Int), []⟩])
      rw [wt_appM, List.length_drop] at ih
      have h2 := fd_rest old (y :: r) old.length
      simp at ih h2 ⊢
      omega
    · have ih := wt_mkA old f r (addB X y)
      have h2 := wt_addB X y
      simp
      omega
theorem wt_mkB (old fresh : List UInt8) : wt (mkB' old fresh) ≤ 6000 := by
  unfold mkB'
  split
  · have := wt_mkA old fresh.length fresh []
    have h0 : wt [] = 0 := rfl
    omega
  · have h0 : wt [] = 0 := rfl
    omega

theorem res_ow {w w' : World} {X : List Sp} {e : Ending} (h : MkRes w w' X e) : (∃ G cap gs base, e = .returned (.slice (some ⟨G, 0, none⟩) X.length cap) ∧ w.heap.size ≤ base ∧ OwS base w'.heap.size w' G gs X) ∧ Below w.heap.size w w' := by
  obtain ⟨v, zs, base, rfl, hx, hb, hrow, hbl⟩ := h
  obtain ⟨G, cap, gs, rfl, ho⟩ := hrow.ow
  rw [hx] at ho ⊢
  exact ⟨⟨G, cap, gs, base, rfl, hb, ho⟩, hbl⟩

end Go.Proofs.Ytogakignaaoklaa.dl
