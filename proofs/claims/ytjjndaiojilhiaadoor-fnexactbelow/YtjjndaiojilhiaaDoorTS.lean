import Derived.Test.YtjjndaiojilhiaaDoorTR
namespace Go.Proofs.YtjjndaiojilhiaaDoor.tt
open Go.ChangeShapes Go.WideShapes Go.ChangeAt Go.RowKit Go.Deep Go.Maps
set_option linter.unusedVariables false
set_option linter.unusedSimpArgs false

/-! ### Trees of files: what a walk through the branches comes to -/

/-- The block of the branch of a path, and one more; 0: there is none. -/
def chd (E : Nat → En) (B : Nat → Nat) (k : Nat) (p : List UInt8) : Nat := match (List.range k).find? (fun j => decide (pth E j = p)) with
  | some j => B j + 1
  | none => 0

theorem chd_cases (E : Nat → En) (B : Nat → Nat) (k : Nat) (p : List UInt8) : (∃ j, j < k ∧ pth E j = p ∧ chd E B k p = B j + 1) ∨ (∀ j, j < k → pth E j ≠ p) ∧ chd E B k p = 0 := by
  unfold chd
  cases h : (List.range k).find? (fun j => decide (pth E j = p)) with
  | some j =>
    have h1 := List.mem_of_find?_eq_some h
    have h2 := List.find?_some h
    exact .inl ⟨j, List.mem_range.1 h1, by simpa using h2, rfl⟩
  | none =>
    rw [List.find?_eq_none] at h
    exact .inr ⟨fun j hj e => h j (List.mem_range.2 hj) (by simpa using e), rfl⟩

theorem asc_one {E : Nat → En} {k i j : Nat} (hA : Asc E k) (hi : i < k) (hj : j < k) (h : pth E i = pth E j) : i = j := by
  rcases Nat.lt_trichotomy i j with h' | h' | h'
  · exact absurd (hA i j h' hj) (by rw [h]; exact List.lt_irrefl _)
  · exact h'
  · exact absurd (hA j i h' hi) (by rw [h]; exact List.lt_irrefl _)

theorem chd_yes {E : Nat → En} {B : Nat → Nat} {k j : Nat} {p : List UInt8} (hA : Asc E k) (hj : j < k) (hp : pth E j = p) : chd E B k p = B j + 1 := by
  rcases chd_cases E B k p with ⟨i, hi, hpi, h⟩ | ⟨h, _⟩
  · rw [h, asc_one hA hi hj (hpi.trans hp.symm)]
  · exact absurd hp (h j hj)

theorem chd_no {E : Nat → En} {B : Nat → Nat} {k : Nat} {p : List UInt8} (h : ∀ j, j < k → pth E j ≠ p) : chd E B k p = 0 := by
  rcases chd_cases E B k p with ⟨i, hi, hpi, _⟩ | ⟨_, h⟩
  · exact absurd hpi (h i hi)
  · exact h

theorem chd_next {E : Nat → En} {B B' : Nat → Nat} {k : Nat} {p : List UInt8} (hA : Asc E (k + 1)) (hB : ∀ j, j < k → B' j = B j) : chd E B' (k + 1) p = if pth E k = p then B' k + 1 else chd E B k p := by
  by_cases h : pth E k = p
  · rw [if_pos h, chd_yes hA (by omega) h]
  · rw [if_neg h]
    rcases chd_cases E B k p with ⟨j, hj, hp, e⟩ | ⟨hno, e⟩
    · rw [e, chd_yes hA (show j < k + 1 by omega) hp, hB j hj]
    · rw [e, chd_no]
      intro j hj hp
      rcases Nat.lt_or_ge j k with h' | h'
      · exact hno j h' hp
      · obtain rfl : j = k := by omega
        exact h hp

theorem app_at (a b : List UInt8) (j : Nat) (h : a.length < j) : (a ++ 47 :: b)[j]? = b[j - a.length - 1]? := by
  rw [List.getElem?_append_right (by omega)]
  obtain ⟨m, hm⟩ : ∃ m, j - a.length = m + 1 := ⟨j - a.length - 1, by omega⟩
  rw [hm]
  rfl

theorem lst_app (a b : List UInt8) : lst (a ++ 47 :: b) = match lst b with
    | some i => some (a.length + 1 + i)
    | none => some a.length := by
  cases h : lst b with
  | some i =>
    obtain ⟨h1, h2⟩ := lst_some h
    refine lst_of ?_ (fun j hj => ?_)
    · rw [app_at a b _ (by omega), show a.length + 1 + i - a.length - 1 = i by omega]
      exact h1
    · rw [app_at a b j (by omega)]
      exact h2 _ (by omega)
  | none =>
    refine lst_of ?_ (fun j hj => ?_)
    · rw [List.getElem?_append_right (Nat.le_refl _), Nat.sub_self]
      rfl
    · rw [app_at a b j hj]
      exact lst_none h _

theorem up_plain {a b : List UInt8} (h : lst b = none) : up (a ++ 47 :: b) = a := by
  unfold up
  rw [lst_app, h]
  simp

theorem up_deep {a b : List UInt8} {i : Nat} (h : lst b = some i) : up (a ++ 47 :: b) = a ++ 47 :: b.take i := by
  unfold up
  rw [lst_app, h]
  simp only
  rw [show a.length + 1 + i = a.length + (i + 1) by omega, List.take_append, List.take_of_length_le (by omega)]
  simp

theorem name_nil : nameL [] = false := by
  unfold nameL nm.nameB
  rw [show decide (1 ≤ (⟨([] : List UInt8).toArray⟩ : ByteArray).size) = false from rfl]
  rfl

/-- A path does not begin with a stroke. -/
theorem path_head {E : Nat → En} {k j : Nat} (h : Tr E k) (hj : j < k) (r : List UInt8) : pth E j ≠ 47 :: r := fun e => by
  have := h.1 j hj
  unfold eOk pOk at this
  rw [Bool.and_eq_true] at this
  have h2 := this.1
  unfold pth at e
  rw [e, pk, if_pos rfl, name_nil] at h2
  simp at h2

/-- Below what is no directory nothing stands. -/
theorem chd_leaf {E : Nat → En} {B : Nat → Nat} {k j : Nat} {x : List UInt8} (h : Tr E k) (hj : j < k) (hk : ¬ (E j).kind = 1) (hx : lst x = none) : chd E B k (pth E j ++ 47 :: x) = 0 := by
  refine chd_no fun i hi e => ?_
  have hu : up (pth E i) = pth E j := by rw [e]; exact up_plain hx
  have hne : pth E j ≠ [] := fun h0 => by
    rw [h0] at e
    exact path_head h hi x e
  obtain ⟨m, hm, hpm, hkm⟩ := h.2.2 i hi (by rw [hu]; exact hne)
  rw [hu] at hpm
  have := asc_one h.asc (show m < k by omega) hj hpm
  subst this
  exact hk hkm

/-- Below what is not there nothing stands. -/
theorem chd_dead {E : Nat → En} {B : Nat → Nat} {k : Nat} (h : Tr E k) : ∀ (n : Nat) (q r : List UInt8), r.length ≤ n → chd E B k q = 0 → chd E B k (q ++ 47 :: r) = 0 := by
  intro n
  induction n with
  | zero =>
    intro q r hr hq
    have : r = [] := List.eq_nil_of_length_eq_zero (by omega)
    subst this
    refine chd_no fun i hi e => ?_
    have hu : up (pth E i) = q := by rw [e]; exact up_plain rfl
    have hne : q ≠ [] := fun h0 => by
      rw [h0] at e
      exact path_head h hi [] e
    obtain ⟨m, hm, hpm, _⟩ := h.2.2 i hi (by rw [hu]; exact hne)
    rw [hu] at hpm
    rw [chd_yes h.asc (show m < k by omega) hpm] at hq
    cases hq
  | succ n ih =>
    intro q r hr hq
    refine chd_no fun i hi e => ?_
    have hne : q ≠ [] := fun h0 => by
      rw [h0] at e
      exact path_head h hi r e
    cases hl : lst r with
    | none =>
      have hu : up (pth E i) = q := by rw [e]; exact up_plain hl
      obtain ⟨m, hm, hpm, _⟩ := h.2.2 i hi (by rw [hu]; exact hne)
      rw [hu] at hpm
      rw [chd_yes h.asc (show m < k by omega) hpm] at hq
      cases hq
    | some t =>
      have hu : up (pth E i) = q ++ 47 :: r.take t := by rw [e]; exact up_deep hl
      obtain ⟨m, hm, hpm, _⟩ := h.2.2 i hi (by rw [hu]; simp)
      rw [hu] at hpm
      have ht : t < r.length := (List.getElem?_eq_some_iff.1 (lst_some hl).1).1
      have := ih q (r.take t) (by rw [List.length_take]; omega) hq
      rw [chd_yes h.asc (show m < k by omega) hpm] at this
      cases this

/-- The empty path is none. -/
theorem chd_empty {E : Nat → En} {B : Nat → Nat} {k : Nat} (h : Tr E k) : chd E B k [] = 0 := chd_no fun j hj e => by
  have := h.1 j hj
  unfold eOk pOk at this
  rw [Bool.and_eq_true] at this
  have h2 := this.1
  unfold pth at e
  rw [e, pk, name_nil] at h2
  simp at h2

/-! ### The branches as they stand -/

/-- What a directory's map holds: a name has no stroke. -/
def fM (E : Nat → En) (B : Nat → Nat) (k : Nat) (pre : List UInt8) (x : List UInt8) : Nat := if lst x = none then chd E B k (pre ++ x) else 0

/-- The branches of the first k entries: the root's block and map, each entry's block and map. -/
structure Br (w : World) (E : Nat → En) (k rb rm N : Nat) (B M : Nat → Nat) : Prop where
  root0 : w.cell? ⟨rb, 0, none⟩ = some (.int .i64 (-1))
  root1 : w.cell? ⟨rb, 1, none⟩ = some (.map (some rm))
  rootM : PM w rm N (fM E B k [])
  num : ∀ j, j < k → w.cell? ⟨B j, 0, none⟩ = some (.int .i64 (j : Int))
  dir : ∀ j, j < k → (E j).kind = 1 → w.cell? ⟨B j, 1, none⟩ = some (.map (some (M j))) ∧ PM w (M j) N (fM E B k (pth E j ++ [47]))
  leaf : ∀ j, j < k → ¬ (E j).kind = 1 → w.cell? ⟨B j, 1, none⟩ = some (.map none)
  apart : ∀ j, j < k → (E j).kind = 1 → M j ≠ rm
  inj : ∀ i j, i < k → j < k → (E i).kind = 1 → (E j).kind = 1 → M i = M j → i = j

theorem Br.below {w w' : World} {E : Nat → En} {k rb rm N : Nat} {B M : Nat → Nat} (h : Br w E k rb rm N B M) (hb : Below w.heap.size w w') : Br w' E k rb rm N B M := by
  have c : ∀ {b o : Nat} {v : Value}, w.cell? ⟨b, o, none⟩ = some v → w'.cell? ⟨b, o, none⟩ = some v := fun hc => (hb.cell (p := ⟨_, _, none⟩) (World.block_lt_of_cell? _ _ hc)).trans hc
  exact ⟨c h.root0, c h.root1, h.rootM.below hb, fun j hj => c (h.num j hj), fun j hj hk => ⟨c (h.dir j hj hk).1, (h.dir j hj hk).2.below hb⟩, fun j hj hk => c (h.leaf j hj hk), h.apart, h.inj⟩

end Go.Proofs.YtjjndaiojilhiaaDoor.tt
