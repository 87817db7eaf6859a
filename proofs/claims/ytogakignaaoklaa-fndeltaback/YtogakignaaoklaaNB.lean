import Derived.Test.YtogakignaaoklaaNP
import Derived.Test.YtogakignaaoklaaDP
namespace Go.Proofs.Ytogakignaaoklaa.dl
set_option linter.unusedVariables false
set_option linter.unusedSimpArgs false

/-! ### What MakeDelta made, applied: the new bytes (plain) -/

def pcA (old : List UInt8) (ss : List Sp) : List UInt8 := (ss.map (pc old)).flatten
theorem pcL_all (old : List UInt8) (ss : List Sp) : pcL old ss ss.length = pcA old ss := by unfold pcL pcA; rw [List.take_length]
theorem pcA_app (old : List UInt8) (a b : List Sp) : pcA old (a ++ b) = pcA old a ++ pcA old b := by unfold pcA; rw [List.map_append, List.flatten_append]

/-- Steps that can be applied. -/
def Fit (old : List UInt8) (ss : List Sp) : Prop := ∀ x ∈ ss, okS x = true ∧ fits old x = true
theorem Fit.app {old : List UInt8} {a b : List Sp} (h : Fit old a) (k : Fit old b) : Fit old (a ++ b) := fun x hx => by
  rcases List.mem_append.1 hx with hx | hx
  · exact h x hx
  · exact k x hx
theorem add_one (y : UInt8) (old : List UInt8) : okS ⟨2, 0, 0, [y]⟩ = true ∧ fits old ⟨2, 0, 0, [y]⟩ = true := by
  constructor
  · simp [okS, ok3]
  · simp [fits]
theorem addB_back {old : List UInt8} {ds : List Sp} (h : Fit old ds) (y : UInt8) : Fit old (addB ds y) ∧ pcA old (addB ds y) = pcA old ds ++ [y] ∧ (addB ds y).length ≤ ds.length + 1 ∧ addB ds y ≠ [] := by
  unfold addB
  cases hl : ds.getLast? with
  | none =>
    have : ds = [] := by simpa using hl
    subst this
    refine ⟨fun x hx => ?_, by simp [pcA, pc], by simp, by simp⟩
    rw [List.mem_singleton] at hx
    subst hx
    exact add_one y old
  | some x =>
    have hd : ds = ds.dropLast ++ [x] := by obtain ⟨ys, rfl⟩ := List.getLast?_eq_some_iff.1 hl; simp
    have hx : x ∈ ds := by rw [hd]; simp
    simp only
    split
    · next hk =>
      have hf : Fit old ds.dropLast := fun z hz => h z (by rw [hd]; exact List.mem_append_left _ hz)
      obtain ⟨o1, o2⟩ := h x hx
      refine ⟨hf.app (fun z hz => ?_), ?_, ?_, by simp⟩
      · rw [List.mem_singleton] at hz
        subst hz
        refine ⟨?_, ?_⟩
        · have hk1 : x.k ≠ 1 := by omega
          unfold okS at o1 ⊢
          rw [ok3_two hk1] at o1 ⊢
          exact ⟨o1.1, o1.2.1, o1.2.2.1, by simp⟩
        · unfold fits
          rw [if_neg (by show ¬ x.k = 1; omega)]
      · rw [pcA_app]
        conv => rhs; rw [hd, pcA_app]
        have e1 : pcA old [⟨x.k, x.p, x.n, x.d ++ [y]⟩] = x.d ++ [y] := by simp [pcA, pc, hk]
        have e2 : pcA old [x] = x.d := by simp [pcA, pc, hk]
        rw [e1, e2, List.append_assoc]
      · rw [List.length_append, List.length_dropLast]
        simp only [List.length_cons, List.length_nil]
        omega
    · refine ⟨h.app (fun z hz => ?_), by rw [pcA_app]; simp [pcA, pc], by simp, by simp⟩
      rw [List.mem_singleton] at hz
      subst hz
      exact add_one y old

theorem fd_is (old rest : List UInt8) : ∀ k, (fd old rest k).2 = 0 ∨ ((fd old rest k).1 < k ∧ (fd old rest k).2 = ml old rest (fd old rest k).1)
  | 0 => .inl rfl
  | k + 1 => by
    unfold fd
    split
    · exact .inr ⟨Nat.lt_succ_self _, rfl⟩
    · rcases fd_is old rest k with h | ⟨h1, h2⟩
      · exact .inl h
      · exact .inr ⟨Nat.lt_succ_of_lt h1, h2⟩
/-- A copy that MakeDelta takes. -/
theorem fd_copy {old rest : List UInt8} (h : 6 ≤ (fd old rest old.length).2) : (fd old rest old.length).1 + (fd old rest old.length).2 ≤ old.length ∧ (fd old rest old.length).2 ≤ rest.length ∧ (old.drop (fd old rest old.length).1).take (fd old rest old.length).2 = rest.take (fd old rest old.length).2 := by
  rcases fd_is old rest old.length with h0 | ⟨h1, h2⟩
  · omega
  · have hle : (fd old rest old.length).2 ≤ cp (old.drop (fd old rest old.length).1) rest := by
      rw [h2]
      unfold ml
      omega
    obtain ⟨q1, q2, q3⟩ := (cp_take _ _ _).1 hle
    rw [List.length_drop] at q1
    exact ⟨by omega, q2, q3⟩

theorem mkA_back (old : List UInt8) : ∀ (f : Nat) (rest : List UInt8) (ds : List Sp), rest.length ≤ f → Fit old ds → Fit old (mkA old f rest ds) ∧ pcA old (mkA old f rest ds) = pcA old ds ++ rest ∧ (mkA old f rest ds).length ≤ ds.length + rest.length ∧ (rest ≠ [] ∨ ds ≠ [] → mkA old f rest ds ≠ [])
  | 0, rest, ds, hf, h => by
    have : rest = [] := List.eq_nil_of_length_eq_zero (by omega)
    subst this
    exact ⟨h, by simp [mkA], by simp [mkA], fun h => by simpa [mkA] using h⟩
  | f + 1, [], ds, hf, h => ⟨h, by simp [mkA], by simp [mkA], fun h => by simpa [mkA] using h⟩
  | f + 1, y :: r, ds, hf, h => by
    unfold mkA
    split
    · next h6 =>
      obtain ⟨q1, q2, q3⟩ := fd_copy h6
      generalize hat : (fd old (y :: r) old.length).1 = p at *
      generalize hn : (fd old (y :: r) old.length).2 = n at *
      have hfit : Fit old (ds ++ [⟨1, (p : Int), (n : Int), []⟩]) := h.app (fun z hz => by
        rw [List.mem_singleton] at hz
        subst hz
        refine ⟨?_, ?_⟩
        · unfold okS
          rw [ok3_one]
          exact ⟨by show (0 : Int) ≤ (p : Int); omega, by show (1 : Int) ≤ (n : Int); omega, rfl⟩
        · unfold fits
          rw [if_pos rfl, decide_eq_true_eq]
          show (p : Int) + (n : Int) ≤ _
          omega)
      obtain ⟨a1, a2, a3, a4⟩ := mkA_back old f ((y :: r).drop n) (ds ++ [⟨1, (p : Int), (n : Int), []⟩]) (by rw [List.length_drop]; omega) hfit
      refine ⟨a1, ?_, ?_, fun _ => a4 (.inr (by simp))⟩
      · rw [a2, pcA_app]
        have e : pcA old [⟨1, (p : Int), (n : Int), []⟩] = (y :: r).take n := by simp [pcA, pc, q3]
        rw [e, List.append_assoc, List.take_append_drop]
      · rw [List.length_drop, List.length_append] at a3
        simp only [List.length_cons, List.length_nil] at a3 ⊢
        simp only [List.length_cons] at q2
        omega
    · obtain ⟨b1, b2, b3, b4⟩ := addB_back h y
      obtain ⟨a1, a2, a3, a4⟩ := mkA_back old f r (addB ds y) (by simp at hf; omega) b1
      refine ⟨a1, by rw [a2, b2]; simp, by simp at a3 ⊢; omega, fun _ => a4 (.inr b4)⟩

/-- What MakeDelta made is applied: the new bytes; and it is no list of nothing where there is something to make. -/
theorem mk_back {old fresh : List UInt8} (h1 : old.length ≤ 3000) (h2 : fresh.length ≤ 3000) : adOk old (mkB' old fresh) = true ∧ adB old (mkB' old fresh) = fresh ∧ (fresh ≠ [] → mkB' old fresh ≠ []) := by
  unfold mkB'
  rw [if_pos ⟨h1, h2⟩]
  obtain ⟨a1, a2, a3, a4⟩ := mkA_back old fresh.length fresh [] (Nat.le_refl _) (fun x hx => by simp at hx)
  have e : pcA old (mkA old fresh.length fresh []) = fresh := by rw [a2]; rfl
  have hok : adOk old (mkA old fresh.length fresh []) = true := adOk_iff.2 ⟨by simp at a3; omega, a1, by rw [pcL_all, e]; omega⟩
  exact ⟨hok, by rw [adB_yes hok, pcL_all, e], fun h => a4 (.inl h)⟩
theorem mk_none {old fresh : List UInt8} (h : mkB' old fresh = []) : fresh = [] ∨ 3000 < fresh.length ∨ 3000 < old.length := by
  by_cases h1 : old.length ≤ 3000
  · by_cases h2 : fresh.length ≤ 3000
    · left
      have := (mk_back h1 h2).2.2
      by_cases hf : fresh = []
      · exact hf
      · exact absurd h (this hf)
    · exact .inr (.inl (by omega))
  · exact .inr (.inr (by omega))

end Go.Proofs.Ytogakignaaoklaa.dl
