import Derived.Test.YtlnagmdoepldmaaDoorSM
namespace Go.Proofs.YtlnagmdoepldmaaDoor.ex
open Go.ChangeShapes Go.WideShapes Go.ChangeAt Go.RowKit Go.Deep
set_option linter.unusedVariables false
set_option linter.unusedSimpArgs false

theorem kids_of {k : Int} : ∀ (l : List Ex), kindsL k l = true → ∀ (i : Nat) (x : Ex), l[i]? = some x → kidOk k l.length i x.kind
  | [], _, i, x, h => by simp at h
  | y :: r, h, i, x, hx => by
    rw [kindsL, Bool.and_eq_true] at h
    cases i with
    | zero =>
      obtain rfl : y = x := by simpa using hx
      have h1 := h.1
      unfold kindP special at h1
      unfold kidOk
      cases r with
      | nil =>
        simp at h1 ⊢
        by_cases h5 : k = 5
        · simpa [h5] using h1
        · simpa [h5] using h1
      | cons z r =>
        simp at h1 ⊢
        by_cases h5 : k = 5
        · simpa [h5] using h1
        · by_cases h8 : k = 8
          · simpa [h8] using h1
          · by_cases h14 : k = 14
            · simpa [h14] using h1
            · simpa [h5, h8, h14] using h1
    | succ i =>
      have hx' : r[i]? = some x := by simpa using hx
      have := kids_of r h.2 i x hx'
      unfold kidOk at this ⊢
      simp only [List.length_cons, Nat.add_lt_add_iff_right]
      exact this

theorem wf_tree {E : Nat → Ex} {n : Nat} (hn : n ≤ 3000) : ∀ (r p len : Nat), ok E r p len = true → 0 < len → p + len ≤ n → WfT r (treeP E r p) := by
  intro r
  induction r with
  | zero => intro p len h; cases h
  | succ r ih =>
    intro p len hok hl hp
    obtain ⟨hsz, hh, ps, hcp, hpo, hspt, hall⟩ := parts_of_ok (by omega) hok
    obtain ⟨hfits, hpl⟩ := cut_fits _ _ _ hcp
    have hT : treeP E (r + 1) p = .mk (E p).kind (E p).text (E p).n (ps.map (treeP E r)) := by
      rw [treeP, show (E p).size.toNat = len - 1 by omega, hcp]
      rfl
    rw [hT]
    unfold headB at hh
    rw [Bool.and_eq_true, Bool.and_eq_true] at hh
    obtain ⟨hk, hnb, htb⟩ := hh
    refine ⟨hk, by simpa using hpo, fun h2 => ?_, fun h1 => ?_, by simp; omega, fun i y hy => ?_⟩
    · rw [h2] at htb
      simp only [textB, useOf, if_true, Bool.not_eq_true', List.isEmpty_eq_false_iff] at htb
      by_cases hbig : 4000 < (E p).text.size
      · exact absurd (by rw [es.showA, if_pos hbig]; simp [ByteArray.toList_eq]) htb
      · omega
    · simp only [nB, mostN, h1, if_true, decide_eq_true_eq] at hnb
      omega
    · rw [List.getElem?_map, Option.map_eq_some_iff] at hy
      obtain ⟨q, hq, rfl⟩ := hy
      have hm := List.mem_of_getElem? hq
      obtain ⟨f1, f2, f3⟩ := hfits q hm
      refine ⟨ih q _ (hall q hm) (by omega) (by omega), ?_⟩
      unfold sp at hspt
      rw [Bool.and_eq_true, Bool.and_eq_true] at hspt
      have := kids_of _ hspt.2.1 i (E q) (by rw [List.getElem?_map, hq]; rfl)
      have e : (treeP E r q).kind = (E q).kind := by cases r <;> rfl
      rw [e]
      simpa using this

end Go.Proofs.YtlnagmdoepldmaaDoor.ex
