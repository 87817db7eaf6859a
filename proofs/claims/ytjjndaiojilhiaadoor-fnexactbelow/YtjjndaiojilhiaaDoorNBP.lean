import Derived.Test.YtjjndaiojilhiaaDoorTS
import Derived.Test.YtjjndaiojilhiaaDoorTP
namespace Go.Proofs.YtjjndaiojilhiaaDoor.tt
open Go.ChangeShapes Go.WideShapes Go.ChangeAt Go.RowKit Go.Deep
set_option linter.unusedVariables false
set_option linter.unusedSimpArgs false

/-! ### What stands below a directory, plainly: an entry and all below it, by the entries right below -/

/-- A name right below a path. -/
def kidN (E : Nat → En) (j : Nat) (x : List UInt8) : List UInt8 := pth E j ++ 47 :: x
theorem lst_app_none {d x : List UInt8} (h : lst x = none) : lst (d ++ 47 :: x) = some d.length := by rw [lst_app, h]
theorem up_kid {d x : List UInt8} (h : lst x = none) : up (d ++ 47 :: x) = d := up_plain h
theorem no_slash {x y r s : List UInt8} (hx : lst x = none) (hy : lst y = none) (h : x ++ 47 :: r = y ++ 47 :: s) : x = y := by
  induction x generalizing y with
  | nil =>
    cases y with
    | nil => rfl
    | cons b y =>
      rw [List.nil_append, List.cons_append] at h
      have hb := (List.cons.inj h).1
      exact absurd (by rw [← hb]; rfl : (b :: y)[0]? = some (47 : UInt8)) (lst_none hy 0)
  | cons a x ih =>
    cases y with
    | nil =>
      rw [List.nil_append, List.cons_append] at h
      have hb := (List.cons.inj h).1
      exact absurd (by rw [hb]; rfl : (a :: x)[0]? = some (47 : UInt8)) (lst_none hx 0)
    | cons b y =>
      rw [List.cons_append, List.cons_append] at h
      obtain ⟨h1, h2⟩ := List.cons.inj h
      rw [h1, ih (lst_no fun i => by have := lst_none hx (i + 1); simpa using this) (lst_no fun i => by have := lst_none hy (i + 1); simpa using this) h2]
theorem no_slash2 {x y r : List UInt8} (hx : lst x = none) (h : x = y ++ 47 :: r) : False := by
  have := lst_none hx y.length
  rw [h] at this
  simp at this
/-- Below. -/
def Blw (x d : List UInt8) : Prop := ∃ r, x = d ++ 47 :: r
theorem blw_up {x d : List UInt8} (h : Blw x d) : (up x = d) ∨ Blw (up x) d := by
  obtain ⟨r, rfl⟩ := h
  cases hl : lst r with
  | none => exact .inl (up_plain hl)
  | some i => exact .inr ⟨r.take i, up_deep hl⟩
theorem blw_len {x d : List UInt8} (h : Blw x d) : d.length < x.length := by
  obtain ⟨r, rfl⟩ := h
  simp
theorem Blw.trans {x y d : List UInt8} (h : Blw x y) (k : Blw y d) : Blw x d := by
  obtain ⟨r, rfl⟩ := h
  obtain ⟨s, rfl⟩ := k
  exact ⟨s ++ 47 :: r, by simp⟩
theorem up_ne_nil {x d : List UInt8} (h : Blw x d) (hd : d ≠ []) : up x ≠ [] := by
  rcases blw_up h with e | e
  · rw [e]; exact hd
  · obtain ⟨r, hr⟩ := e
    rw [hr]
    cases d with
    | nil => exact absurd rfl hd
    | cons a d => simp
section
variable {E : Nat → En} {n : Nat}
/-- Right below: the kid's name. -/
def Kid (E : Nat → En) (n j c : Nat) : Prop := c < n ∧ ∃ x, lst x = none ∧ pth E c = pth E j ++ 47 :: x
def InS (E : Nat → En) (j i : Nat) : Prop := i = j ∨ Blw (pth E i) (pth E j)
theorem kid_gt (hT : Tr E n) {j c : Nat} (hj : j < n) (h : Kid E n j c) : j < c := by
  obtain ⟨hc, x, hx, he⟩ := h
  rcases Nat.lt_trichotomy j c with h' | h' | h'
  · exact h'
  · subst h'
    have := congrArg List.length he
    simp at this
  · have h1 := hT.asc c j h' hj
    rw [he] at h1
    exact absurd h1 (fun h2 => absurd (List.lt_trans h2 (by
      have : pth E j < pth E j ++ 47 :: x := by
        generalize pth E j = l
        induction l with
        | nil => exact List.nil_lt_cons _ _
        | cons a l ih => exact List.cons_lt_cons_iff.2 (.inr ⟨rfl, ih⟩)
      exact this)) (List.lt_irrefl _))
theorem path_nn (hT : Tr E n) {j : Nat} (hj : j < n) : pth E j ≠ [] := fun hl => by
  have := hT.1 j hj
  unfold eOk pOk at this
  rw [Bool.and_eq_true] at this
  have h2 := this.1
  unfold pth at hl
  rw [hl, pk, name_nil] at h2
  simp at h2
theorem blw_kid (hT : Tr E n) {j : Nat} (hj : j < n) : ∀ i, i < n → Blw (pth E i) (pth E j) → ∃ c, Kid E n j c ∧ InS E c i := by
  intro i
  induction i using Nat.strongRecOn with
  | ind i ih =>
    intro hi hb
    obtain ⟨r, hr⟩ := hb
    cases hl : lst r with
    | none => exact ⟨i, ⟨hi, r, hl, hr⟩, .inl rfl⟩
    | some k =>
      have hu : up (pth E i) = pth E j ++ 47 :: r.take k := by rw [hr]; exact up_deep hl
      obtain ⟨m, hm, hpm, hkm⟩ := hT.2.2 i hi (by rw [hu]; intro h0; simp at h0)
      obtain ⟨c, hc, hs⟩ := ih m hm (by omega) ⟨r.take k, by rw [hpm, hu]⟩
      refine ⟨c, hc, .inr ?_⟩
      have hbm : Blw (pth E i) (pth E m) := by
        refine ⟨r.drop (k + 1), ?_⟩
        rw [hpm, hu, hr]
        have e : r = r.take k ++ 47 :: r.drop (k + 1) := by
          have h1 := (List.getElem?_eq_some_iff.1 (lst_some hl).1)
          obtain ⟨h1, h2⟩ := h1
          conv => lhs; rw [← List.take_append_drop k r]
          rw [List.drop_eq_getElem_cons h1, h2]
        conv => lhs; rw [e]
        simp
      rcases hs with rfl | hs
      · exact hbm
      · exact hbm.trans hs
theorem kid_blw {j c i : Nat} (h : Kid E n j c) (hs : InS E c i) : Blw (pth E i) (pth E j) := by
  obtain ⟨_, x, _, he⟩ := h
  rcases hs with rfl | hs
  · exact ⟨x, he⟩
  · exact hs.trans ⟨x, he⟩
theorem kids_apart (hT : Tr E n) {j c c' i : Nat} (h : Kid E n j c) (h' : Kid E n j c') (hs : InS E c i) (hs' : InS E c' i) (hi : i < n) : c = c' := by
  obtain ⟨hc, x, hx, he⟩ := h
  obtain ⟨hc', y, hy, he'⟩ := h'
  have key : x = y := by
    rcases hs with rfl | ⟨r, hr⟩
    · rcases hs' with rfl | ⟨s, hs⟩
      · rw [he] at he'; simpa using he'
      · rw [he, he', List.append_assoc, List.append_cancel_left_eq] at hs
        simp only [List.cons_append, List.cons.injEq, true_and] at hs
        exact (no_slash2 hx hs).elim
    · rcases hs' with rfl | ⟨s, hs⟩
      · rw [he', he, List.append_assoc, List.append_cancel_left_eq] at hr
        simp only [List.cons_append, List.cons.injEq, true_and] at hr
        exact (no_slash2 hy hr).elim
      · rw [hr, he, he', List.append_assoc, List.append_assoc, List.append_cancel_left_eq] at hs
        simp only [List.cons_append, List.cons.injEq, true_and] at hs
        exact no_slash hx hy hs
  subst key
  exact asc_one hT.asc hc hc' (he.trans he'.symm)
/-- An entry and all below it, ascending. -/
noncomputable def subL (E : Nat → En) (n j : Nat) : List Nat := (List.range n).filter fun i => @decide (InS E j i) (Classical.propDecidable _)
theorem mem_sub {j i : Nat} : i ∈ subL E n j ↔ i < n ∧ InS E j i := by
  unfold subL
  rw [List.mem_filter, List.mem_range]
  exact and_congr_right fun _ => @decide_eq_true_iff _ (Classical.propDecidable _)
theorem sub_nodup (j : Nat) : (subL E n j).Nodup := List.Nodup.sublist List.filter_sublist List.nodup_range
theorem sub_asc (j : Nat) : (subL E n j).Pairwise (· < ·) := List.Pairwise.sublist List.filter_sublist List.pairwise_lt_range
/-- So far: the entry, and what stands at the kids that have been seen. -/
noncomputable def seenL (E : Nat → En) (n j : Nat) (ks : List Nat) : List Nat := j :: ks.flatMap (subL E n)
theorem seen_nodup (hT : Tr E n) {j : Nat} {ks : List Nat} (hk : ∀ c ∈ ks, Kid E n j c) (hn : ks.Nodup) : (seenL E n j ks).Nodup := by
  unfold seenL
  rw [List.nodup_cons]
  refine ⟨fun h => ?_, ?_⟩
  · obtain ⟨c, hc, hm⟩ := List.mem_flatMap.1 h
    have := blw_len (kid_blw (hk c hc) (mem_sub.1 hm).2)
    omega
  · show List.Pairwise (· ≠ ·) _
    rw [List.pairwise_flatMap]
    refine ⟨fun c _ => sub_nodup c, ?_⟩
    have : ∀ l : List Nat, (∀ c ∈ l, Kid E n j c) → l.Nodup → l.Pairwise fun a b => ∀ x ∈ subL E n a, ∀ y ∈ subL E n b, x ≠ y := by
      intro l
      induction l with
      | nil => intro _ _; exact List.Pairwise.nil
      | cons a l ih =>
        intro hk hn
        rw [List.nodup_cons] at hn
        refine List.pairwise_cons.2 ⟨fun b hb x hx y hy e => ?_, ih (fun c hc => hk c (List.mem_cons_of_mem _ hc)) hn.2⟩
        subst e
        have := kids_apart hT (hk a List.mem_cons_self) (hk b (List.mem_cons_of_mem _ hb)) (mem_sub.1 hx).2 (mem_sub.1 hy).2 (mem_sub.1 hx).1
        exact hn.1 (this ▸ hb)
    exact this ks hk hn
theorem seen_sub {j : Nat} (hj : j < n) {ks : List Nat} (hk : ∀ c ∈ ks, Kid E n j c) : ∀ i ∈ seenL E n j ks, i ∈ subL E n j := fun i hi => by
  rcases List.mem_cons.1 hi with rfl | hi
  · exact mem_sub.2 ⟨hj, .inl rfl⟩
  · obtain ⟨c, hc, hm⟩ := List.mem_flatMap.1 hi
    exact mem_sub.2 ⟨(mem_sub.1 hm).1, .inr (kid_blw (hk c hc) (mem_sub.1 hm).2)⟩
theorem nodup_le : ∀ {a b : List Nat}, a.Nodup → (∀ x ∈ a, x ∈ b) → a.length ≤ b.length
  | [], b, _, _ => Nat.zero_le _
  | x :: a, b, ha, h => by
    rw [List.nodup_cons] at ha
    have hx := h x List.mem_cons_self
    have h2 : ∀ y ∈ a, y ∈ b.erase x := fun y hy => (List.mem_erase_of_ne (fun e : y = x => ha.1 (by rw [← e]; exact hy))).2 (h y (List.mem_cons_of_mem _ hy))
    have := nodup_le ha.2 h2
    rw [List.length_erase_of_mem hx] at this
    have := List.length_pos_of_mem hx
    simp
    omega
theorem seen_le (hT : Tr E n) {j : Nat} (hj : j < n) {ks : List Nat} (hk : ∀ c ∈ ks, Kid E n j c) (hn : ks.Nodup) : (seenL E n j ks).length ≤ (subL E n j).length := nodup_le (seen_nodup hT hk hn) (seen_sub hj hk)
theorem seen_all (hT : Tr E n) {j : Nat} (hj : j < n) {ks : List Nat} (hk : ∀ c, c ∈ ks ↔ Kid E n j c) (hn : ks.Nodup) : (seenL E n j ks).Perm (subL E n j) := by
  refine (List.perm_ext_iff_of_nodup (seen_nodup hT (fun c h => (hk c).1 h) hn) (sub_nodup j)).2 fun i => ⟨seen_sub hj (fun c h => (hk c).1 h) i, fun hi => ?_⟩
  obtain ⟨h1, h2⟩ := mem_sub.1 hi
  rcases h2 with rfl | h2
  · exact List.mem_cons_self
  · obtain ⟨c, hc, hs⟩ := blw_kid hT hj i h1 h2
    exact List.mem_cons_of_mem _ (List.mem_flatMap.2 ⟨c, (hk c).2 hc, mem_sub.2 ⟨h1, hs⟩⟩)
end
end Go.Proofs.YtjjndaiojilhiaaDoor.tt
