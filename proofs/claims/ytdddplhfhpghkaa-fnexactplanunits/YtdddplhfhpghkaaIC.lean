import Derived.Test.YtdddplhfhpghkaaIB
namespace Go.Proofs.Ytdddplhfhpghkaa.sri
open Go.ChangeShapes Go.WideShapes Go.ChangeAt Go.RowKit Go.Deep
set_option linter.unusedVariables false
set_option linter.unusedSimpArgs false

/-- What the program's sort does, by depth. -/
def SoC (f : Nat) : Prop := ∀ (xs : List Nat) (v : Value) (w : World), StrR w v xs → xs.length ≤ 2 ^ f → xs.length ≤ 1000 →
  Calls Try.prog 58 #[v, FV] w fun e w' => ∃ v', e = .returned v' ∧ OwnS w.heap.size w' v' (srt f xs) ∧ Below w.heap.size w w'

theorem srt_small {f : Nat} {xs : List Nat} (h : xs.length < 2) : srt f xs = xs := by
  cases f with
  | zero => rfl
  | succ f => rw [srt, if_pos h]

theorem StrR.take {w : World} {bb off cap k : Nat} {xs : List Nat} (h1 : xs.length ≤ cap) (h2 : cap ≤ maxLen) (hc : ∀ i x, xs[i]? = some x → w.cell? ⟨bb, off + i, none⟩ = some (iV x)) (hk : k ≤ xs.length) : StrR w (.slice (some ⟨bb, off, none⟩) k cap) (xs.take k) := by
  refine ⟨bb, off, cap, by rw [List.length_take, Nat.min_eq_left hk], by rw [List.length_take]; omega, h2, fun i x hx => ?_⟩
  rw [List.getElem?_take] at hx
  split at hx
  · exact hc i x hx
  · cases hx

theorem StrR.drop {w : World} {bb off o1 cap k : Nat} {xs : List Nat} (h1 : xs.length ≤ cap) (h2 : cap ≤ maxLen) (hc : ∀ i x, xs[i]? = some x → w.cell? ⟨bb, off + i, none⟩ = some (iV x)) (hk : k ≤ xs.length) (ho : (if cap = k then some (⟨bb, off, none⟩ : Addr) else some ⟨bb, off + k, none⟩) = some ⟨bb, o1, none⟩) : StrR w (.slice (some ⟨bb, o1, none⟩) (xs.length - k) (cap - k)) (xs.drop k) := by
  refine ⟨bb, o1, cap - k, by rw [List.length_drop], by rw [List.length_drop]; omega, by omega, fun i x hx => ?_⟩
  rw [List.getElem?_drop] at hx
  have hlt := (List.getElem?_eq_some_iff.1 hx).1
  rw [if_neg (by omega)] at ho
  have e : off + k = o1 := by simpa using ho
  rw [← e, Nat.add_assoc]
  exact hc _ x hx

set_option maxRecDepth 100000 in
set_option maxHeartbeats 1000000 in
theorem sorted_small {f : Nat} (xs : List Nat) (v : Value) (w : World) (hR : StrR w v xs) (h : xs.length < 2) :
    Calls Try.prog 58 #[v, FV] w fun e w' => ∃ v', e = .returned v' ∧ OwnS w.heap.size w' v' (srt f xs) ∧ Below w.heap.size w w' := by
  rw [srt_small h]
  have HCL : Hid (Calls Try.prog 82 #[v] w fun e w' => ∃ v', e = .returned v' ∧ OwnS w.heap.size w' v' xs ∧ Below w.heap.size w w') := clone_any xs v w hR (by omega)
  obtain ⟨bb, off, cap, rfl, h1, h2, hc⟩ := hR
  have h' : (xs.length : Int) < 2 := by omega
  clear hc
  go_enter Try.func58, Try.ntmps58
  go_wp2_with (go_at_call 82; refine HCL.out.mono ?_; rintro e w1 ⟨v1, rfl, hs1, hb1⟩)
  go_ret
  exact ⟨_, rfl, hs1, hb1⟩

set_option maxRecDepth 100000 in
set_option maxHeartbeats 1000000 in
theorem sorted_all : ∀ f, SoC f := by
  intro f
  induction f with
  | zero => intro xs v w hR h _; exact sorted_small xs v w hR (by simp at h; omega)
  | succ f ih =>
    intro xs v w hR hp hn
    by_cases h : xs.length < 2
    · exact sorted_small xs v w hR h
    have hsr : srt (f + 1) xs = mrg xs.length (srt f (xs.take (xs.length / 2))) (srt f (xs.drop (xs.length / 2))) := by rw [srt, if_neg h]
    obtain ⟨bb, off, cap, rfl, h1, h2, hc⟩ := hR
    obtain ⟨k, hk⟩ : ∃ k, xs.length / 2 = k := ⟨_, rfl⟩
    rw [hk] at hsr
    have hkl : k ≤ xs.length := by omega
    have hpw : 2 ^ (f + 1) = 2 ^ f + 2 ^ f := by rw [Nat.pow_succ]; omega
    obtain ⟨o1, ho1⟩ : ∃ o1, (if cap = k then some (⟨bb, off, none⟩ : Addr) else some ⟨bb, off + k, none⟩) = some ⟨bb, o1, none⟩ := by split <;> exact ⟨_, rfl⟩
    have HA : Hid (StrR w.drew (.slice (some ⟨bb, off, none⟩) k cap) (xs.take k)) := StrR.take h1 h2 hc hkl
    have HB : Hid (StrR w.drew (.slice (some ⟨bb, o1, none⟩) (xs.length - k) (cap - k)) (xs.drop k)) := StrR.drop h1 h2 hc hkl ho1
    have HI1 : Hid (∀ w1 : World, StrR w1 (.slice (some ⟨bb, off, none⟩) k cap) (xs.take k) → Calls Try.prog 58 #[.slice (some ⟨bb, off, none⟩) k cap, FV] w1 fun e w' => ∃ v', e = .returned v' ∧ OwnS w1.heap.size w' v' (srt f (xs.take k)) ∧ Below w1.heap.size w1 w') := fun w1 hr => ih _ _ w1 hr (by rw [List.length_take]; omega) (by rw [List.length_take]; omega)
    have HI2 : Hid (∀ w1 : World, StrR w1 (.slice (some ⟨bb, o1, none⟩) (xs.length - k) (cap - k)) (xs.drop k) → Calls Try.prog 58 #[.slice (some ⟨bb, o1, none⟩) (xs.length - k) (cap - k), FV] w1 fun e w' => ∃ v', e = .returned v' ∧ OwnS w1.heap.size w' v' (srt f (xs.drop k)) ∧ Below w1.heap.size w1 w') := fun w1 hr => ih _ _ w1 hr (by rw [List.length_drop]; omega) (by rw [List.length_drop]; omega)
    have HMG : Hid (∀ (w1 : World) (v1 v2 : Value), StrR w1 v1 (srt f (xs.take k)) → StrR w1 v2 (srt f (xs.drop k)) → Calls Try.prog 83 #[v1, v2, FV] w1 fun e w' => ∃ v', e = .returned v' ∧ OwnS w1.heap.size w' v' (srt (f + 1) xs) ∧ Below w1.heap.size w1 w') := fun w1 v1 v2 s1 s2 => by
      have := merged_any _ _ v1 v2 w1 s1 s2 (by rw [srt_len, srt_len, List.length_take, List.length_drop]; omega)
      rw [srt_len, srt_len, List.length_take, List.length_drop, show min k xs.length + (xs.length - k) = xs.length by omega, ← hsr] at this
      exact this
    have h' : ¬ (xs.length : Int) < 2 := by omega
    have hdv : ((xs.length : Int) / 2) = (k : Int) := by omega
    have hdt : (Int.tdiv (xs.length : Int) 2) = (k : Int) := by rw [Int.tdiv_eq_ediv_of_nonneg (by omega)]; exact hdv
    have k1 : (k : Int) ≤ (cap : Int) := by omega
    have k2 : (k : Int) ≤ (xs.length : Int) := by omega
    have k0 : (0 : Int) ≤ (k : Int) := by omega
    have HF : Hid True := trivial
    clear ih hc hsr hp hpw hk
    go_enter Try.func58, Try.ntmps58
    go_wp2_with fail
    go_region_held3 (fun _ => True)
      (trivial)
      (first
        | ((go_at_call 58; have := HF.out; refine (HI1.out _ HA.out).mono ?_; rintro e w1 ⟨v1, rfl, hs1, hb1⟩; have HB1 := HB.out.below hb1; clear HF))
        | ((go_at_call 58; refine (HI2.out _ HB1).mono ?_; rintro e w2 ⟨v2, rfl, hs2, hb2⟩))
        | ((go_at_call 83; refine (HMG.out _ _ _ (hs1.row.below hb2) hs2.row).mono ?_; rintro e w3 ⟨v3, rfl, hs3, hb3⟩)))
    go_wp2_with fail
    go_ret
    have hb01 : Below w.heap.size w w1 := (show Below w.heap.size w w.drew from (Below.refl _ _).drew).trans hb1
    have hb02 := hb01.trans (hb2.mono hb01.size)
    exact ⟨_, rfl, hs3.mono hb02.size, hb02.trans (hb3.mono hb02.size)⟩

theorem mrg_perm : ∀ (f : Nat) (l r : List Nat), (mrg f l r).Perm (l ++ r)
  | 0, l, r => List.Perm.refl _
  | f + 1, l, [] => by cases l <;> simp [mrg]
  | f + 1, [], x :: r => by rw [mrg]; exact (mrg_perm f [] r).cons x
  | f + 1, y :: l, x :: r => by
    rw [mrg]
    split
    · exact ((mrg_perm f (y :: l) r).cons x).trans (List.perm_middle.symm)
    · exact (mrg_perm f l (x :: r)).cons y
theorem mrg_asc : ∀ (f : Nat) (l r : List Nat), l.length + r.length ≤ f → l.Pairwise (· ≤ ·) → r.Pairwise (· ≤ ·) → (mrg f l r).Pairwise (· ≤ ·)
  | 0, l, r, h, hl, hr => by
    have h1 : l = [] := List.length_eq_zero_iff.1 (by omega)
    have h2 : r = [] := List.length_eq_zero_iff.1 (by omega)
    subst h1 h2
    simp [mrg]
  | f + 1, l, [], h, hl, hr => by rw [mrg_end]; exact hl
  | f + 1, [], x :: r, h, hl, hr => by
    rw [mrg, List.pairwise_cons]
    rw [List.pairwise_cons] at hr
    refine ⟨fun y hy => ?_, mrg_asc f [] r (by simp at h ⊢; omega) List.Pairwise.nil hr.2⟩
    have := (mrg_perm f [] r).mem_iff.1 hy
    exact hr.1 y (by simpa using this)
  | f + 1, y :: l, x :: r, h, hl, hr => by
    rw [mrg]
    rw [List.pairwise_cons] at hl hr
    split
    · next hb =>
      simp only [decide_eq_true_eq] at hb
      rw [List.pairwise_cons]
      refine ⟨fun z hz => ?_, mrg_asc f (y :: l) r (by simp at h ⊢; omega) (List.pairwise_cons.2 hl) hr.2⟩
      have := (mrg_perm f (y :: l) r).mem_iff.1 hz
      rcases List.mem_append.1 this with k | k
      · rcases List.mem_cons.1 k with rfl | k
        · omega
        · have := hl.1 z k; omega
      · exact hr.1 z k
    · next hb =>
      simp only [decide_eq_true_eq] at hb
      rw [List.pairwise_cons]
      refine ⟨fun z hz => ?_, mrg_asc f l (x :: r) (by simp at h ⊢; omega) hl.2 (List.pairwise_cons.2 hr)⟩
      have := (mrg_perm f l (x :: r)).mem_iff.1 hz
      rcases List.mem_append.1 this with k | k
      · exact hl.1 z k
      · rcases List.mem_cons.1 k with rfl | k
        · omega
        · have := hr.1 z k; omega
theorem srt_perm : ∀ (f : Nat) (l : List Nat), (srt f l).Perm l
  | 0, l => List.Perm.refl _
  | f + 1, l => by
    rw [srt]
    split
    · exact List.Perm.refl _
    · refine (mrg_perm _ _ _).trans (((srt_perm f _).append (srt_perm f _)).trans ?_)
      rw [List.take_append_drop]
theorem srt_asc : ∀ (f : Nat) (l : List Nat), l.length ≤ 2 ^ f → (srt f l).Pairwise (· ≤ ·)
  | 0, l, h => by
    match l, h with
    | [], _ => exact List.Pairwise.nil
    | [x], _ => exact List.pairwise_singleton _ _
  | f + 1, l, h => by
    rw [srt]
    split
    · next h2 =>
      match l, h2 with
      | [], _ => exact List.Pairwise.nil
      | [x], _ => exact List.pairwise_singleton _ _
    · have hpw : 2 ^ (f + 1) = 2 ^ f + 2 ^ f := by rw [Nat.pow_succ]; omega
      refine mrg_asc _ _ _ ?_ (srt_asc f _ (by rw [List.length_take]; omega)) (srt_asc f _ (by rw [List.length_drop]; omega))
      rw [srt_len, srt_len, List.length_take, List.length_drop]
      omega
/-- The program's sort: the same numbers, ascending. -/
theorem sorted_any (xs : List Nat) (v : Value) (w : World) (hR : StrR w v xs) (hn : xs.length ≤ 1000) :
    Calls Try.prog 58 #[v, FV] w fun e w' => ∃ v' ys, e = .returned v' ∧ OwnS w.heap.size w' v' ys ∧ ys.Perm xs ∧ ys.Pairwise (· ≤ ·) ∧ Below w.heap.size w w' := by
  refine (sorted_all 10 xs v w hR (by omega) hn).mono ?_
  rintro e w' ⟨v', rfl, ho, hb⟩
  exact ⟨v', srt 10 xs, rfl, ho, srt_perm 10 xs, srt_asc 10 xs (by omega), hb⟩

end Go.Proofs.Ytdddplhfhpghkaa.sri
