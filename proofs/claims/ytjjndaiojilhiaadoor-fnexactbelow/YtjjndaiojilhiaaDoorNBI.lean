import Derived.Test.YtjjndaiojilhiaaDoorNBH
namespace Go.Proofs.YtjjndaiojilhiaaDoor.tt
open Go.ChangeShapes Go.WideShapes Go.ChangeAt Go.RowKit Go.Deep
set_option linter.unusedVariables false
set_option linter.unusedSimpArgs false

/-! ### Below: plainly, and the specification -/

/-- An entry with its path cut short. -/
def shE (c : Nat) (e : En) : En := ⟨e.path.extract c e.path.size, e.kind, e.data, e.exec⟩
def selS (E : Nat → En) (c : Nat) (ks : List Nat) : Nat → En := fun k => shE c (E (ks.getD k 0))
theorem selS_snoc (E : Nat → En) (c : Nat) (ks : List Nat) (i : Nat) : enC (selS E c (ks ++ [i])) (ks.length + 1) = enC (selS E c ks) ks.length ++ [.string ((E i).path.extract c (E i).path.size), .int .i64 (E i).kind, .string (E i).data, .bool (E i).exec] := by
  rw [enC_succ]
  have h1 : selS E c (ks ++ [i]) ks.length = shE c (E i) := by unfold selS; simp
  have h2 : enC (selS E c (ks ++ [i])) ks.length = enC (selS E c ks) ks.length := enC_congr fun k hk => by unfold selS; simp only [List.getD_eq_getElem?_getD]; rw [List.getElem?_append_left hk]
  rw [h1, h2]
  rfl
/-- What stands below. -/
def unL (E : Nat → En) (q : List UInt8) (i : Nat) : List Nat := (List.range i).filter fun k => decide (Und (pth E k) q)
theorem unL_succ (E : Nat → En) (q : List UInt8) (i : Nat) : (Und (pth E i) q → unL E q (i + 1) = unL E q i ++ [i]) ∧ (¬ Und (pth E i) q → unL E q (i + 1) = unL E q i) := by
  unfold unL
  rw [List.range_succ, List.filter_append]
  exact ⟨fun h => by rw [List.filter_cons_of_pos (by simpa using h), List.filter_nil], fun h => by rw [List.filter_cons_of_neg (by simpa using h), List.filter_nil, List.append_nil]⟩
theorem unL_le (E : Nat → En) (q : List UInt8) (i : Nat) : (unL E q i).length ≤ i := by
  have := List.length_filter_le (fun k => decide (Und (pth E k) q)) (List.range i)
  rwa [List.length_range] at this
theorem mem_un {E : Nat → En} {q : List UInt8} {n i : Nat} : i ∈ unL E q n ↔ i < n ∧ Und (pth E i) q := by
  unfold unL
  rw [List.mem_filter, List.mem_range, decide_eq_true_iff]
theorem ext_lt (l : List UInt8) (a : UInt8) (r : List UInt8) : l < l ++ a :: r := by
  induction l with
  | nil => exact List.nil_lt_cons _ _
  | cons b l ih => exact List.cons_lt_cons_iff.2 (.inr ⟨rfl, ih⟩)
theorem blw_gt {E : Nat → En} {n i j : Nat} (hA : Asc E n) (hi : i < n) (hj : j < n) (h : Blw (pth E i) (pth E j)) : j < i := by
  obtain ⟨r, hr⟩ := h
  have hlt : pth E j < pth E i := by rw [hr]; exact ext_lt _ _ _
  rcases Nat.lt_trichotomy j i with h' | h' | h'
  · exact h'
  · subst h'; exact absurd hlt (List.lt_irrefl _)
  · exact absurd (hA i j h' hj) (fun h2 => absurd (List.lt_trans h2 hlt) (List.lt_irrefl _))
/-- The numbers at and below are the entry's, and those below. -/
theorem sub_cons {E : Nat → En} {n j : Nat} (hA : Asc E n) (hj : j < n) : subL E n j = j :: unL E (pth E j) n := by
  have hu : (unL E (pth E j) n).Pairwise (· < ·) := List.Pairwise.sublist List.filter_sublist List.pairwise_lt_range
  have hc : (j :: unL E (pth E j) n).Pairwise (· < ·) := List.pairwise_cons.2 ⟨fun i hi => by
    obtain ⟨h1, h2⟩ := mem_un.1 hi
    exact blw_gt hA h1 hj (und_blw.1 h2), hu⟩
  have hp : (subL E n j).Perm (j :: unL E (pth E j) n) := (List.perm_ext_iff_of_nodup (sub_nodup j) (hc.imp fun h => Nat.ne_of_lt h)).2 fun i => by
    rw [mem_sub, List.mem_cons, mem_un, und_blw]
    unfold InS
    constructor
    · rintro ⟨h1, h2 | h2⟩
      · exact .inl h2
      · exact .inr ⟨h1, h2⟩
    · rintro (rfl | ⟨h1, h2⟩)
      · exact ⟨hj, .inl rfl⟩
      · exact ⟨h1, .inr h2⟩
  exact List.Perm.eq_of_pairwise (le := (· < ·)) (fun a b _ _ h1 h2 => by omega) (sub_asc j) hc hp
theorem un_leaf {E : Nat → En} {n j : Nat} (hT : Tr E n) (hj : j < n) (hk : ¬ (E j).kind = 1) : unL E (pth E j) n = [] := by
  refine List.eq_nil_iff_forall_not_mem.2 fun i hi => ?_
  obtain ⟨h1, h2⟩ := mem_un.1 hi
  obtain ⟨c, hc, _⟩ := blw_kid hT hj i h1 (und_blw.1 h2)
  exact nb.no_kid hT hj hk c hc
noncomputable def blN (E : Nat → En) (n : Nat) (q : List UInt8) : Nat := if treeB E n = true ∧ dirB E n q = true then (unL E q n).length else 0
def blF (E : Nat → En) (n : Nat) (q : List UInt8) : Nat → En := selS E (q.length + 1) (unL E q n)
theorem blN_le (E : Nat → En) (n : Nat) (q : List UInt8) : blN E n q ≤ n := by
  have := unL_le E q n
  unfold blN
  split <;> omega
theorem und_size {M P : ByteArray} (h : Und M.data.toList P.data.toList) : P.size + 1 ≤ M.size := by
  have := (und_at h).2.2
  simp at this; omega

end Go.Proofs.YtjjndaiojilhiaaDoor.tt
