import Derived.Test.YtjjndaiojilhiaaDoorNBF
namespace Go.Proofs.YtjjndaiojilhiaaDoor.tt
open Go.ChangeShapes Go.WideShapes Go.ChangeAt Go.RowKit Go.Deep
set_option linter.unusedVariables false
set_option linter.unusedSimpArgs false

/-! ### CutEntry: the program's side, plainly: the numbers that go, one behind the other -/

theorem und_blw {x d : List UInt8} : Und x d ↔ Blw x d := by
  constructor
  · rintro ⟨t, rfl⟩
    exact ⟨t, by simp⟩
  · rintro ⟨r, rfl⟩
    exact ⟨r, by simp⟩
theorem stay_iff {E : Nat → En} {n i j : Nat} {q : List UInt8} (hA : Asc E n) (hi : i < n) (hj : j < n) (hq : pth E j = q) : stayB E q i = true ↔ ¬ InS E j i := by
  unfold stayB InS
  rw [Bool.and_eq_true, Bool.not_eq_true', Bool.not_eq_true', decide_eq_false_iff_not, decide_eq_false_iff_not, und_blw, ← hq, not_or]
  exact and_congr_left fun _ => ⟨fun h e => h (by rw [e]), fun h e => h (asc_one hA hi hj e)⟩
/-- How many have gone. -/
noncomputable def goL (E : Nat → En) (j i : Nat) : List Nat := (List.range i).filter fun k => @decide (InS E j k) (Classical.propDecidable _)
theorem go_all (E : Nat → En) (n j : Nat) : goL E j n = subL E n j := rfl
theorem go_succ (E : Nat → En) (j i : Nat) : (InS E j i → goL E j (i + 1) = goL E j i ++ [i]) ∧ (¬ InS E j i → goL E j (i + 1) = goL E j i) := by
  unfold goL
  rw [List.range_succ, List.filter_append]
  exact ⟨fun h => by rw [List.filter_cons_of_pos (by simpa using h), List.filter_nil], fun h => by rw [List.filter_cons_of_neg (by simpa using h), List.filter_nil, List.append_nil]⟩
theorem go_pre (E : Nat → En) (j : Nat) {i n : Nat} (h : i ≤ n) : goL E j i <+: goL E j n := by
  unfold goL
  obtain ⟨d, rfl⟩ := Nat.le.dest h
  rw [List.range_add, List.filter_append]
  exact List.prefix_append _ _
theorem go_at {E : Nat → En} {j i n : Nat} (hi : i < n) (h : InS E j i) : (subL E n j)[(goL E j i).length]? = some i := by
  obtain ⟨t, ht⟩ := go_pre E j (show i + 1 ≤ n by omega)
  rw [go_all E n j, (go_succ E j i).1 h] at ht
  rw [← ht, List.append_assoc, List.getElem?_append_right (Nat.le_refl _), Nat.sub_self]
  rfl
theorem go_lt {E : Nat → En} {j i n : Nat} (hi : i < n) (h : InS E j i) : (goL E j i).length < (subL E n j).length := (List.getElem?_eq_some_iff.1 (go_at hi h)).1
theorem go_not {E : Nat → En} {j i n x : Nat} (hi : i < n) (h : ¬ InS E j i) (hx : (subL E n j)[(goL E j i).length]? = some x) : x ≠ i := by
  rintro rfl
  exact h (mem_sub.1 (List.mem_of_getElem? hx)).2
theorem sub_le (E : Nat → En) (n j : Nat) : (subL E n j).length ≤ n := by
  have := List.length_filter_le (fun k => @decide (InS E j k) (Classical.propDecidable _)) (List.range n)
  rwa [List.length_range] at this
theorem sel_sm {E : Nat → En} {n : Nat} (hS : SmE n E) (q : List UInt8) : SmE (stL E q n).length (selE E (stL E q n)) := fun k hk => by
  have hm : (stL E q n).getD k 0 ∈ stL E q n := by rw [List.getD_eq_getElem?_getD, List.getElem?_eq_getElem hk]; exact List.getElem_mem hk
  exact hS _ (List.mem_range.1 (List.mem_filter.1 hm).1)

end Go.Proofs.YtjjndaiojilhiaaDoor.tt
