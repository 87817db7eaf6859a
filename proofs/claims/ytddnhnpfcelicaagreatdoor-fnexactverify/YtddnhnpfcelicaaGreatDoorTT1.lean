import Derived.Test.YtddnhnpfcelicaaGreatDoorTP
import Derived.Maps.Own
import Derived.Maps.OwnOps
import Derived.Handy
import Derived.Shelf.Strings.LastIndex
namespace Go.Proofs.YtddnhnpfcelicaaGreatDoor.tt
open Go.ChangeShapes Go.WideShapes Go.ChangeAt Go.RowKit Go.Deep Go.Maps Go.Shelf
set_option linter.unusedVariables false
set_option linter.unusedSimpArgs false

/-! ### Trees of files: the program's branches: maps of pointers -/

/-- A pointer, read as the number of its block and one more; nil: 0. -/
def rdP (v : Value) : Option (DataW Unit × List MemPlace) := match v with
  | .pointer none => some (.lit (.int .i64 0), [])
  | .pointer (some ⟨b, 0, none⟩) => some (.lit (.int .i64 ((b : Int) + 1)), [])
  | _ => none

def ptr : Nat → Value
  | 0 => .pointer none
  | b + 1 => .pointer (some ⟨b, 0, none⟩)

theorem rdP_ptr (n : Nat) : rdP (ptr n) = some (.lit (.int .i64 (n : Int)), []) := by
  cases n with
  | zero => rfl
  | succ b => simp [ptr, rdP]

theorem rdP_inv {v : Value} {n : Nat} {ps : List MemPlace} (h : rdP v = some (.lit (.int .i64 (n : Int)), ps)) : v = ptr n := by
  unfold rdP at h
  split at h
  · simp only [Option.some.injEq, Prod.mk.injEq, DataW.lit.injEq, Lit.int.injEq, true_and] at h
    have : n = 0 := by omega
    subst this
    rfl
  · next b =>
    simp only [Option.some.injEq, Prod.mk.injEq, DataW.lit.injEq, Lit.int.injEq, true_and] at h
    have : n = b + 1 := by omega
    subst this
    rfl
  · cases h

/-- What stands below a directory, by its name: the number of a branch's block and one more; 0: nothing. -/
def PM (w : World) (b N : Nat) (f : List UInt8 → Nat) : Prop := ∃ D : DataW Unit, w.ownsMap Tryz.prog 9 rdP b N D ∧ ∀ x, D.atKey (.string x) (.lit (.int .i64 0)) = .lit (.int .i64 (f x : Int))

theorem PM.kept {w w' : World} {b N : Nat} {f : List UInt8 → Nat} (h : PM w b N f) (hb : w'.heap[b]? = w.heap[b]?) : PM w' b N f := by
  obtain ⟨D, ⟨es, ck, h1, h2⟩, h3⟩ := h
  exact ⟨D, ⟨es, ck, by rw [hb]; exact h1, h2⟩, h3⟩
theorem PM.lt {w : World} {b N : Nat} {f : List UInt8 → Nat} (h : PM w b N f) : b < w.heap.size := by
  obtain ⟨D, h1, _⟩ := h
  exact h1.lt
theorem PM.below {w w' : World} {b N : Nat} {f : List UInt8 → Nat} (h : PM w b N f) (hb : Below w.heap.size w w') : PM w' b N f := h.kept (hb.block b h.lt)
theorem PM.mono {w : World} {b N N' : Nat} {f : List UInt8 → Nat} (h : PM w b N f) (hN : N ≤ N') : PM w b N' f := by
  obtain ⟨D, h1, h2⟩ := h
  exact ⟨D, h1.mono hN, h2⟩
theorem PM.made (w : World) : PM (w.alloc (.map #[] 0)) w.heap.size 0 (fun _ => 0) := ⟨.map [], World.ownsMap_made w Tryz.prog 9 _, fun x => rfl⟩

theorem key9 (t : ByteArray) (ht : t.size ≤ 1048576) : keyOf Tryz.prog 9 (.string t) = some (.string t.data.toList) := WideMaps.keyOf_string_mk Tryz.underlying9 (by unfold maxLen; omega)

theorem PM.look {w : World} {b N : Nat} {f : List UInt8 → Nat} (h : PM w b N f) (t : ByteArray) (ht : t.size ≤ 1048576) :
    (Instr.lookup 131 (.map (some b)) (.string t) false).run Tryz.prog w = .ok (ptr (f t.data.toList)) w := by
  obtain ⟨D, h1, h2⟩ := h
  obtain ⟨v, ps, hrun, hv⟩ := h1.lookup (string_keyed Tryz.underlying9) Tryz.underlying131 (Tryz.zeroValue124 w) (rdP_ptr 0) (key9 t ht)
  have e : D.atKey (.string t.data.toList) (.lit (.int .i64 (0 : Nat))) = .lit (.int .i64 (f t.data.toList : Int)) := h2 t.data.toList
  rw [e] at hv
  rw [hrun, rdP_inv hv]

theorem put_at {D : DataW Unit} {f : List UInt8 → Nat} (hm : IsMap D) (h : ∀ x, D.atKey (.string x) (.lit (.int .i64 0)) = .lit (.int .i64 (f x : Int))) (t : List UInt8) (n : Nat) : ∀ x, (D.put (.string t) (.lit (.int .i64 (n : Int)))).atKey (.string x) (.lit (.int .i64 0)) = .lit (.int .i64 ((if x = t then n else f x : Nat) : Int)) := by
  intro x
  by_cases e : x = t
  · subst e
    rw [atKey_put_same hm (show WideAt.IsKeyLit (.string x) from trivial), if_pos rfl]
  · rw [atKey_put_other (by simpa using e), h x, if_neg e]

set_option maxRecDepth 100000 in
theorem new_dir (num : Int) (w : World) :
    Calls Tryz.prog 115 #[.int .i64 num, .int .i64 1] w fun e w' => e = .returned (.pointer (some ⟨w.heap.size, 0, none⟩)) ∧ w'.cell? ⟨w.heap.size, 0, none⟩ = some (.int .i64 num) ∧ w'.cell? ⟨w.heap.size, 1, none⟩ = some (.map (some (w.heap.size + 1))) ∧ PM w' (w.heap.size + 1) 0 (fun _ => 0) ∧ w'.heap.size = w.heap.size + 2 ∧ Below w.heap.size w w' := by
  have hmm : ∀ W : World, (Instr.makeMap 131 none).run Tryz.prog W = .ok (.map (some W.heap.size)) (W.alloc (.map #[] 0)) := fun W => by simp [Instr.makeMap, go_sem]
  go_enter Tryz.func115, Tryz.ntmps115
  go_wp2
  go_ret
  have P1 := PM.made (w.alloc (.cells #[.int .i64 num, .map (some (w.heap.size + 1))] 133))
  have hsz : (w.alloc (.cells #[.int .i64 num, .map (some (w.heap.size + 1))] 133)).heap.size = w.heap.size + 1 := by simp
  rw [hsz] at P1
  exact ⟨rfl, by simp [go_sem], by simp [go_sem], P1, by simp, ((Below.refl _ _).alloc (Nat.le_refl _) _).alloc (by simp) _⟩

set_option maxRecDepth 100000 in
theorem new_leaf (num k : Int) (hk : ¬ k = 1) (w : World) :
    Calls Tryz.prog 115 #[.int .i64 num, .int .i64 k] w fun e w' => e = .returned (.pointer (some ⟨w.heap.size, 0, none⟩)) ∧ w'.cell? ⟨w.heap.size, 0, none⟩ = some (.int .i64 num) ∧ w'.cell? ⟨w.heap.size, 1, none⟩ = some (.map none) ∧ w'.heap.size = w.heap.size + 1 ∧ Below w.heap.size w w' := by
  go_enter Tryz.func115, Tryz.ntmps115
  go_wp2
  go_ret
  exact ⟨rfl, by simp [go_sem], by simp [go_sem], by simp, (Below.refl _ _).alloc (Nat.le_refl _) _⟩

end Go.Proofs.YtddnhnpfcelicaaGreatDoor.tt
namespace Go.Proofs
open Go.Shelf
def YtddnhnpfcelicaaGreatDoor.tt.laysLI_ren : Go.Shelf.Ren := ⟨fun | 148 => 122 | 222 => 128 | 223 => 129 | 269 => 133 | n => n, fun | 9 => 9 | 3 => 3 | 4 => 4 | 5 => 5 | 146 => 143 | 51 => 142 | 46 => 104 | n => n, fun | n => n⟩
theorem YtddnhnpfcelicaaGreatDoor.tt.laysLI : Go.Proofs.Lays.n148 Tryz.prog YtddnhnpfcelicaaGreatDoor.tt.laysLI_ren := {
  mixed := by kernel_rfl
  f148 := Tryz.func122.trans (congrArg some (by kernel_rfl))
  f222 := Tryz.func128.trans (congrArg some (by kernel_rfl))
  f223 := Tryz.func129.trans (congrArg some (by kernel_rfl))
  f269 := Tryz.func133.trans (congrArg some (by kernel_rfl))
  t3 := Tryz.underlying3
  a3 := Tryz.isAgg3
  z3 := Tryz.sizeOf3
  v3 := Tryz.zeroValue3
  t4 := Tryz.underlying4
  a4 := Tryz.isAgg4
  z4 := Tryz.sizeOf4
  v4 := Tryz.zeroValue4
  t5 := Tryz.underlying5
  a5 := Tryz.isAgg5
  z5 := Tryz.sizeOf5
  v5 := Tryz.zeroValue5
  t9 := Tryz.underlying9
  a9 := Tryz.isAgg9
  z9 := Tryz.sizeOf9
  v9 := Tryz.zeroValue9
  t46 := Tryz.underlying104
  a46 := Tryz.isAgg104
  z46 := Tryz.sizeOf104
  v46 := Tryz.zeroValue104
  t51 := Tryz.underlying142
  a51 := Tryz.isAgg142
  z51 := Tryz.sizeOf142
  v51 := Tryz.zeroValue142
  t146 := Tryz.underlying143
  a146 := Tryz.isAgg143
  z146 := Tryz.sizeOf143
  v146 := Tryz.zeroValue143 }
end Go.Proofs
namespace Go.Proofs.YtddnhnpfcelicaaGreatDoor.tt
open Go.ChangeShapes Go.WideShapes Go.ChangeAt Go.RowKit Go.Deep Go.Maps Go.Shelf
set_option linter.unusedVariables false
set_option linter.unusedSimpArgs false
theorem li_ren : laysLI_ren.f 148 = 122 := by kernel_rfl

def lstI (l : List UInt8) : Int := match lst l with
  | some i => (i : Int)
  | none => -1

theorem get_bang {s : ByteArray} {i : Nat} (h : i < s.size) : s.data[i]! = s[i] := by
  exact getElem!_pos s.data i h

theorem last_eq (s : ByteArray) : Lib.lastIndexByte s 47 = lstI s.data.toList := by
  have hz : s.data.toList.length = s.size := by simp
  unfold Lib.lastIndexByte lstI
  rcases Lib.lastIdx_spec s 47 s.size with ⟨h1, h2⟩ | ⟨i, hi, h1, h2, h3⟩
  · rw [h1, lst_no (fun j e => ?_)]
    obtain ⟨hj, e'⟩ := List.getElem?_eq_some_iff.1 e
    have hj' : j < s.size := by omega
    refine h2 j hj' ?_
    rw [get_bang hj']
    have : s[j] = 47 := e'
    rw [this]; rfl
  · have hb : s[i] = 47 := by
      rw [get_bang hi] at h2
      apply UInt8.toNat.inj
      show s[i].toNat = 47
      omega
    rw [h1, lst_of (i := i) (by rw [at_byte hi, hb]) (fun j hj e => ?_)]
    obtain ⟨hj', e'⟩ := List.getElem?_eq_some_iff.1 e
    have hjs : j < s.size := by omega
    refine h3 j hj hjs ?_
    rw [get_bang hjs]
    have : s[j] = 47 := e'
    rw [this]; rfl

theorem last_any (s : ByteArray) (hs : s.size ≤ 1048576) (w : World) :
    Calls Tryz.prog 122 #[.string s, .string ⟨#[47]⟩] w fun e w' => e = .returned (.int .i64 (lstI s.data.toList)) ∧ w' = w := by
  have := Any.strings_LastIndex_one laysLI s ⟨#[47]⟩ (by rfl) (by omega) w
  refine Calls.mono (show Calls Tryz.prog 122 _ _ _ from this) ?_
  rintro e w' ⟨rfl, rfl⟩
  refine ⟨?_, rfl⟩
  rw [← last_eq]
  rfl

end Go.Proofs.YtddnhnpfcelicaaGreatDoor.tt

namespace Go.Proofs.YtddnhnpfcelicaaGreatDoor.tt
open Go.ChangeShapes Go.WideShapes Go.ChangeAt Go.RowKit Go.Deep Go.Maps
set_option linter.unusedVariables false
set_option linter.unusedSimpArgs false

/-! ### Trees of files: what a walk through the branches comes to -/

/-- The block of the branch of a path, and one more; 0: there is none. -/
def chd (E : Nat → En) (B : Nat → Nat) (k : Nat) (p : List UInt8) : Nat := match (List.range k).find? (fun j => decide (pth E j = p)) with
  | some j => B j + 1
  | none => 0

theorem chd_cases (E : Nat → En) (B : Nat → Nat) (k : Nat) (p : List UInt8) : (∃ j, j < k ∧ pth E j = p ∧ chd E B k p = B j + 1) ∨ (∀ j, j < k → pth E j ≠ p) ∧ chd E B k p = 0 := by
  unfold chd
  cases h : (List.range k).find? (fun j => decide (pth E j = p)) with
  | some j =>
    have h1 := List.mem_of_find?_eq_some h
    have h2 := List.find?_some h
    exact .inl ⟨j, List.mem_range.1 h1, by simpa using h2, rfl⟩
  | none =>
    rw [List.find?_eq_none] at h
    exact .inr ⟨fun j hj e => h j (List.mem_range.2 hj) (by simpa using e), rfl⟩

theorem asc_one {E : Nat → En} {k i j : Nat} (hA : Asc E k) (hi : i < k) (hj : j < k) (h : pth E i = pth E j) : i = j := by
  rcases Nat.lt_trichotomy i j with h' | h' | h'
  · exact absurd (hA i j h' hj) (by rw [h]; exact List.lt_irrefl _)
  · exact h'
  · exact absurd (hA j i h' hi) (by rw [h]; exact List.lt_irrefl _)

theorem chd_yes {E : Nat → En} {B : Nat → Nat} {k j : Nat} {p : List UInt8} (hA : Asc E k) (hj : j < k) (hp : pth E j = p) : chd E B k p = B j + 1 := by
  rcases chd_cases E B k p with ⟨i, hi, hpi, h⟩ | ⟨h, _⟩
  · rw [h, asc_one hA hi hj (hpi.trans hp.symm)]
  · exact absurd hp (h j hj)

theorem chd_no {E : Nat → En} {B : Nat → Nat} {k : Nat} {p : List UInt8} (h : ∀ j, j < k → pth E j ≠ p) : chd E B k p = 0 := by
  rcases chd_cases E B k p with ⟨i, hi, hpi, _⟩ | ⟨_, h⟩
  · exact absurd hpi (h i hi)
  · exact h

theorem chd_next {E : Nat → En} {B B' : Nat → Nat} {k : Nat} {p : List UInt8} (hA : Asc E (k + 1)) (hB : ∀ j, j < k → B' j = B j) : chd E B' (k + 1) p = if pth E k = p then B' k + 1 else chd E B k p := by
  by_cases h : pth E k = p
  · rw [if_pos h, chd_yes hA (by omega) h]
  · rw [if_neg h]
    rcases chd_cases E B k p with ⟨j, hj, hp, e⟩ | ⟨hno, e⟩
    · rw [e, chd_yes hA (show j < k + 1 by omega) hp, hB j hj]
    · rw [e, chd_no]
      intro j hj hp
      rcases Nat.lt_or_ge j k with h' | h'
      · exact hno j h' hp
      · obtain rfl : j = k := by omega
        exact h hp

theorem app_at (a b : List UInt8) (j : Nat) (h : a.length < j) : (a ++ 47 :: b)[j]? = b[j - a.length - 1]? := by
  rw [List.getElem?_append_right (by omega)]
  obtain ⟨m, hm⟩ : ∃ m, j - a.length = m + 1 := ⟨j - a.length - 1, by omega⟩
  rw [hm]
  rfl

theorem lst_app (a b : List UInt8) : lst (a ++ 47 :: b) = match lst b with
    | some i => some (a.length + 1 + i)
    | none => some a.length := by
  cases h : lst b with
  | some i =>
    obtain ⟨h1, h2⟩ := lst_some h
    refine lst_of ?_ (fun j hj => ?_)
    · rw [app_at a b _ (by omega), show a.length + 1 + i - a.length - 1 = i by omega]
      exact h1
    · rw [app_at a b j (by omega)]
      exact h2 _ (by omega)
  | none =>
    refine lst_of ?_ (fun j hj => ?_)
    · rw [List.getElem?_append_right (Nat.le_refl _), Nat.sub_self]
      rfl
    · rw [app_at a b j hj]
      exact lst_none h _

theorem up_plain {a b : List UInt8} (h : lst b = none) : up (a ++ 47 :: b) = a := by
  unfold up
  rw [lst_app, h]
  simp

theorem up_deep {a b : List UInt8} {i : Nat} (h : lst b = some i) : up (a ++ 47 :: b) = a ++ 47 :: b.take i := by
  unfold up
  rw [lst_app, h]
  simp only
  rw [show a.length + 1 + i = a.length + (i + 1) by omega, List.take_append, List.take_of_length_le (by omega)]
  simp

theorem name_nil : nameL [] = false := by
  unfold nameL nm.nameB
  rw [show decide (1 ≤ (⟨([] : List UInt8).toArray⟩ : ByteArray).size) = false from rfl]
  rfl

/-- A path does not begin with a stroke. -/
theorem path_head {E : Nat → En} {k j : Nat} (h : Tr E k) (hj : j < k) (r : List UInt8) : pth E j ≠ 47 :: r := fun e => by
  have := h.1 j hj
  unfold eOk pOk at this
  rw [Bool.and_eq_true] at this
  have h2 := this.1
  unfold pth at e
  rw [e, pk, if_pos rfl, name_nil] at h2
  simp at h2

/-- Below what is no directory nothing stands. -/
theorem chd_leaf {E : Nat → En} {B : Nat → Nat} {k j : Nat} {x : List UInt8} (h : Tr E k) (hj : j < k) (hk : ¬ (E j).kind = 1) (hx : lst x = none) : chd E B k (pth E j ++ 47 :: x) = 0 := by
  refine chd_no fun i hi e => ?_
  have hu : up (pth E i) = pth E j := by rw [e]; exact up_plain hx
  have hne : pth E j ≠ [] := fun h0 => by
    rw [h0] at e
    exact path_head h hi x e
  obtain ⟨m, hm, hpm, hkm⟩ := h.2.2 i hi (by rw [hu]; exact hne)
  rw [hu] at hpm
  have := asc_one h.asc (show m < k by omega) hj hpm
  subst this
  exact hk hkm

/-- Below what is not there nothing stands. -/
theorem chd_dead {E : Nat → En} {B : Nat → Nat} {k : Nat} (h : Tr E k) : ∀ (n : Nat) (q r : List UInt8), r.length ≤ n → chd E B k q = 0 → chd E B k (q ++ 47 :: r) = 0 := by
  intro n
  induction n with
  | zero =>
    intro q r hr hq
    have : r = [] := List.eq_nil_of_length_eq_zero (by omega)
    subst this
    refine chd_no fun i hi e => ?_
    have hu : up (pth E i) = q := by rw [e]; exact up_plain rfl
    have hne : q ≠ [] := fun h0 => by
      rw [h0] at e
      exact path_head h hi [] e
    obtain ⟨m, hm, hpm, _⟩ := h.2.2 i hi (by rw [hu]; exact hne)
    rw [hu] at hpm
    rw [chd_yes h.asc (show m < k by omega) hpm] at hq
    cases hq
  | succ n ih =>
    intro q r hr hq
    refine chd_no fun i hi e => ?_
    have hne : q ≠ [] := fun h0 => by
      rw [h0] at e
      exact path_head h hi r e
    cases hl : lst r with
    | none =>
      have hu : up (pth E i) = q := by rw [e]; exact up_plain hl
      obtain ⟨m, hm, hpm, _⟩ := h.2.2 i hi (by rw [hu]; exact hne)
      rw [hu] at hpm
      rw [chd_yes h.asc (show m < k by omega) hpm] at hq
      cases hq
    | some t =>
      have hu : up (pth E i) = q ++ 47 :: r.take t := by rw [e]; exact up_deep hl
      obtain ⟨m, hm, hpm, _⟩ := h.2.2 i hi (by rw [hu]; simp)
      rw [hu] at hpm
      have ht : t < r.length := (List.getElem?_eq_some_iff.1 (lst_some hl).1).1
      have := ih q (r.take t) (by rw [List.length_take]; omega) hq
      rw [chd_yes h.asc (show m < k by omega) hpm] at this
      cases this

/-- The empty path is none. -/
theorem chd_empty {E : Nat → En} {B : Nat → Nat} {k : Nat} (h : Tr E k) : chd E B k [] = 0 := chd_no fun j hj e => by
  have := h.1 j hj
  unfold eOk pOk at this
  rw [Bool.and_eq_true] at this
  have h2 := this.1
  unfold pth at e
  rw [e, pk, name_nil] at h2
  simp at h2

/-! ### The branches as they stand -/

/-- What a directory's map holds: a name has no stroke. -/
def fM (E : Nat → En) (B : Nat → Nat) (k : Nat) (pre : List UInt8) (x : List UInt8) : Nat := if lst x = none then chd E B k (pre ++ x) else 0

/-- The branches of the first k entries: the root's block and map, each entry's block and map. -/
structure Br (w : World) (E : Nat → En) (k rb rm N : Nat) (B M : Nat → Nat) : Prop where
  root0 : w.cell? ⟨rb, 0, none⟩ = some (.int .i64 (-1))
  root1 : w.cell? ⟨rb, 1, none⟩ = some (.map (some rm))
  rootM : PM w rm N (fM E B k [])
  num : ∀ j, j < k → w.cell? ⟨B j, 0, none⟩ = some (.int .i64 (j : Int))
  dir : ∀ j, j < k → (E j).kind = 1 → w.cell? ⟨B j, 1, none⟩ = some (.map (some (M j))) ∧ PM w (M j) N (fM E B k (pth E j ++ [47]))
  leaf : ∀ j, j < k → ¬ (E j).kind = 1 → w.cell? ⟨B j, 1, none⟩ = some (.map none)
  apart : ∀ j, j < k → (E j).kind = 1 → M j ≠ rm
  inj : ∀ i j, i < k → j < k → (E i).kind = 1 → (E j).kind = 1 → M i = M j → i = j

theorem Br.below {w w' : World} {E : Nat → En} {k rb rm N : Nat} {B M : Nat → Nat} (h : Br w E k rb rm N B M) (hb : Below w.heap.size w w') : Br w' E k rb rm N B M := by
  have c : ∀ {b o : Nat} {v : Value}, w.cell? ⟨b, o, none⟩ = some v → w'.cell? ⟨b, o, none⟩ = some v := fun hc => (hb.cell (p := ⟨_, _, none⟩) (World.block_lt_of_cell? _ _ hc)).trans hc
  exact ⟨c h.root0, c h.root1, h.rootM.below hb, fun j hj => c (h.num j hj), fun j hj hk => ⟨c (h.dir j hj hk).1, (h.dir j hj hk).2.below hb⟩, fun j hj hk => c (h.leaf j hj hk), h.apart, h.inj⟩

end Go.Proofs.YtddnhnpfcelicaaGreatDoor.tt

namespace Go.Proofs.YtddnhnpfcelicaaGreatDoor.tt
open Go.ChangeShapes Go.WideShapes Go.ChangeAt Go.RowKit Go.Deep Go.Maps
set_option linter.unusedVariables false
set_option linter.unusedSimpArgs false

/-! ### Trees of files: one branch more -/

theorem pre_lt (a : List UInt8) (b : UInt8) (l : List UInt8) : a < a ++ b :: l := by
  induction a with
  | nil => exact List.nil_lt_cons _ _
  | cons c a ih => rw [List.cons_append]; exact List.cons_lt_cons_iff.2 (.inr ⟨rfl, ih⟩)

/-- Nothing stands below the last entry. -/
theorem chd_last {E : Nat → En} {B : Nat → Nat} {k : Nat} (hA : Asc E (k + 1)) (x : List UInt8) : chd E B (k + 1) (pth E k ++ 47 :: x) = 0 := chd_no fun j hj e => by
  have h1 : pth E k < pth E j := by rw [e]; exact pre_lt _ _ _
  rcases Nat.lt_or_ge j k with h | h
  · exact List.lt_irrefl _ (List.lt_trans h1 (hA j k h (by omega)))
  · obtain rfl : j = k := by omega
    exact List.lt_irrefl _ h1

theorem pre_form (p x : List UInt8) : p ++ [47] ++ x = p ++ 47 :: x := by simp

/-- A map's block is no block of cells. -/
theorem map_cell {w : World} {b c o : Nat} {N : Nat} {f : List UInt8 → Nat} {v : Value} (h : PM w b N f) (hc : w.cell? ⟨c, o, none⟩ = some v) : c ≠ b := fun e => by
  subst e
  obtain ⟨D, ⟨es, ck, h1, _⟩, _⟩ := h
  simp [World.cell?, h1] at hc

theorem PM.congr {w : World} {b N : Nat} {f g : List UInt8 → Nat} (h : PM w b N f) (e : ∀ x, f x = g x) : PM w b N g := by
  obtain ⟨D, h1, h2⟩ := h
  exact ⟨D, h1, fun x => by rw [h2 x, e x]⟩

/-- Where a name was put, the map is that of one entry more. -/
theorem fM_here {E : Nat → En} {B B' : Nat → Nat} {k : Nat} {pre name : List UInt8} (hA : Asc E (k + 1)) (hB : ∀ j, j < k → B' j = B j) (hp : pth E k = pre ++ name) (hn : lst name = none) (x : List UInt8) : (if x = name then B' k + 1 else fM E B k pre x) = fM E B' (k + 1) pre x := by
  unfold fM
  by_cases hx : lst x = none
  · rw [if_pos hx, if_pos hx, chd_next hA hB, hp]
    by_cases e : x = name
    · rw [if_pos e, if_pos (by rw [e])]
    · rw [if_neg e, if_neg (fun h => e (List.append_cancel_left h).symm)]
  · rw [if_neg hx, if_neg hx, if_neg (fun e => hx (by rw [e]; exact hn))]

/-- Elsewhere it is as it was. -/
theorem fM_else {E : Nat → En} {B B' : Nat → Nat} {k : Nat} {pre : List UInt8} (hA : Asc E (k + 1)) (hB : ∀ j, j < k → B' j = B j) (hne : ∀ x, lst x = none → pth E k ≠ pre ++ x) (x : List UInt8) : fM E B k pre x = fM E B' (k + 1) pre x := by
  unfold fM
  by_cases hx : lst x = none
  · rw [if_pos hx, if_pos hx, chd_next hA hB, if_neg (hne x hx)]
  · rw [if_neg hx, if_neg hx]

theorem lst_mid (a b : List UInt8) : lst (a ++ 47 :: b) ≠ none := by
  rw [lst_app]
  cases lst b <;> simp

theorem Br.next {w w' : World} {E : Nat → En} {k rb rm N : Nat} {B M : Nat → Nat} (h : Br w E k rb rm N B M) (hT : Tr E (k + 1)) (nb nm : Nat) (c0 : w.cell? ⟨nb, 0, none⟩ = some (.int .i64 (k : Int)))
    (cd : (E k).kind = 1 → w.cell? ⟨nb, 1, none⟩ = some (.map (some nm)) ∧ PM w nm 0 (fun _ => 0) ∧ nm ≠ rm ∧ ∀ j, j < k → (E j).kind = 1 → nm ≠ M j)
    (cl : ¬ (E k).kind = 1 → w.cell? ⟨nb, 1, none⟩ = some (.map none)) (mb : Nat) (pre name : List UInt8) (hp : pth E k = pre ++ name) (hn : lst name = none)
    (hmb : (pre = [] ∧ mb = rm) ∨ ∃ j, j < k ∧ (E j).kind = 1 ∧ mb = M j ∧ pre = pth E j ++ [47])
    (hg : w.grownBy w' (some mb)) (hP : PM w' mb (N + 1) (fun x => if x = name then nb + 1 else fM E B k pre x)) :
    Br w' E (k + 1) rb rm (N + 1) (fun j => if j = k then nb else B j) (fun j => if j = k then nm else M j) := by
  have hA := hT.asc
  have hB : ∀ j, j < k → (fun j => if j = k then nb else B j) j = B j := fun j hj => if_neg (by omega)
  have hBk : (fun j => if j = k then nb else B j) k = nb := if_pos rfl
  -- the map that was written
  have hPM : ∃ f, PM w mb N f := by
    rcases hmb with ⟨_, rfl⟩ | ⟨j, hj, hk, rfl, _⟩
    · exact ⟨_, h.rootM⟩
    · exact ⟨_, (h.dir j hj hk).2⟩
  obtain ⟨fm, hPm⟩ := hPM
  have cell : ∀ {b o : Nat} {v : Value}, w.cell? ⟨b, o, none⟩ = some v → w'.cell? ⟨b, o, none⟩ = some v := fun hc =>
    hg.cell hc (fun e => by have := Option.some.inj e; exact map_cell hPm hc this)
  have keep : ∀ {b n : Nat} {f : List UInt8 → Nat}, PM w b n f → b ≠ mb → PM w' b n f := fun hq hne => hq.kept (hg.block _ hq.lt (fun e => hne (Option.some.inj e)))
  have here : PM w' mb (N + 1) (fM E (fun j => if j = k then nb else B j) (k + 1) pre) := hP.congr fun x => by
    have := fM_here (B' := fun j => if j = k then nb else B j) hA hB hp hn x
    rw [if_pos (rfl : k = k)] at this
    exact this
  have other : ∀ {b : Nat} {q : List UInt8}, PM w b N (fM E B k q) → b ≠ mb → (∀ x, lst x = none → pth E k ≠ q ++ x) → PM w' b (N + 1) (fM E (fun j => if j = k then nb else B j) (k + 1) q) := fun hq hne hx =>
    ((keep hq hne).congr fun x => fM_else hA hB hx x).mono (by omega)
  refine ⟨cell h.root0, cell h.root1, ?_, fun j hj => ?_, fun j hj hk => ?_, fun j hj hk => ?_, fun j hj hk => ?_, fun i j hi hj hki hkj => ?_⟩
  · rcases hmb with ⟨rfl, rfl⟩ | ⟨j, hj, hk, rfl, rfl⟩
    · exact here
    · refine other h.rootM (fun e => h.apart j hj hk e.symm) (fun x hx e => ?_)
      rw [hp, List.nil_append, pre_form] at e
      exact lst_mid _ _ (by rw [e]; exact hx)
  · rcases Nat.lt_or_ge j k with h' | h'
    · simp only [if_neg (show ¬ j = k by omega)]
      exact cell (h.num j h')
    · obtain rfl : j = k := by omega
      simp only [if_pos rfl]
      exact cell c0
  · rcases Nat.lt_or_ge j k with h' | h'
    · simp only [if_neg (show ¬ j = k by omega)]
      refine ⟨cell (h.dir j h' hk).1, ?_⟩
      rcases hmb with ⟨rfl, rfl⟩ | ⟨m, hm, hkm, rfl, rfl⟩
      · refine other (h.dir j h' hk).2 (h.apart j h' hk) (fun x hx e => ?_)
        rw [hp, List.nil_append, pre_form] at e
        exact lst_mid _ _ (by rw [← e]; exact hn)
      · by_cases hjm : j = m
        · subst hjm
          exact here
        · refine other (h.dir j h' hk).2 (fun e => hjm (h.inj j m h' hm hk hkm e)) (fun x hx e => ?_)
          rw [hp, pre_form, pre_form] at e
          have e2 : up (pth E m ++ 47 :: name) = up (pth E j ++ 47 :: x) := by rw [e]
          rw [up_plain hn, up_plain hx] at e2
          exact hjm (asc_one hA (show j < k + 1 by omega) (show m < k + 1 by omega) e2.symm)
    · obtain rfl : j = k := by omega
      simp only [if_pos rfl]
      obtain ⟨q1, q2, q3, q4⟩ := cd hk
      refine ⟨cell q1, ?_⟩
      have hne : nm ≠ mb := by
        rcases hmb with ⟨_, rfl⟩ | ⟨m, hm, hkm, rfl, _⟩
        · exact q3
        · exact q4 m hm hkm
      refine ((keep q2 hne).congr fun x => ?_).mono (by omega)
      unfold fM
      split
      · rw [pre_form, chd_last hA]
      · rfl
  · rcases Nat.lt_or_ge j k with h' | h'
    · simp only [if_neg (show ¬ j = k by omega)]
      exact cell (h.leaf j h' hk)
    · obtain rfl : j = k := by omega
      simp only [if_pos rfl]
      exact cell (cl hk)
  · rcases Nat.lt_or_ge j k with h' | h'
    · simp only [if_neg (show ¬ j = k by omega)]
      exact h.apart j h' hk
    · obtain rfl : j = k := by omega
      simp only [if_pos rfl]
      exact (cd hk).2.2.1
  · intro e
    rcases Nat.lt_or_ge i k with h' | h'
    · rcases Nat.lt_or_ge j k with h'' | h''
      · simp only [if_neg (show ¬ i = k by omega), if_neg (show ¬ j = k by omega)] at e
        exact h.inj i j h' h'' hki hkj e
      · obtain rfl : j = k := by omega
        simp only [if_neg (show ¬ i = j by omega), if_pos rfl] at e
        exact absurd e.symm ((cd hkj).2.2.2 i h' hki)
    · obtain rfl : i = k := by omega
      rcases Nat.lt_or_ge j i with h'' | h''
      · simp only [if_pos rfl, if_neg (show ¬ j = i by omega)] at e
        exact absurd e ((cd hki).2.2.2 j h'' hkj)
      · omega

end Go.Proofs.YtddnhnpfcelicaaGreatDoor.tt

namespace Go.Proofs.YtddnhnpfcelicaaGreatDoor.tt
open Go.ChangeShapes Go.WideShapes Go.ChangeAt Go.RowKit Go.Deep Go.Maps
set_option linter.unusedVariables false
set_option linter.unusedSimpArgs false

/-! ### Trees of files: a branch is held -/

theorem PM.put {w' : World} {b N n : Nat} {f : List UInt8 → Nat} {D : DataW Unit} {t : List UInt8} (hm : IsMap D) (h : ∀ x, D.atKey (.string x) (.lit (.int .i64 0)) = .lit (.int .i64 (f x : Int))) (h2 : w'.ownsMap Tryz.prog 9 rdP b (N + 1) (D.put (.string t) (.lit (.int .i64 (n : Int))))) : PM w' b (N + 1) (fun x => if x = t then n else f x) :=
  ⟨_, h2, put_at hm h t n⟩

set_option maxHeartbeats 2000000 in
set_option maxRecDepth 100000 in
theorem hold_root {w : World} {E : Nat → En} {k rb rm N : Nat} {B M : Nat → Nat} (h : Br w E k rb rm N B M) (P : ByteArray) (hP : P.size ≤ 1048576) (hl : lst P.data.toList = none) (nb : Nat) (hN : N ≤ 100000) :
    Calls Tryz.prog 118 #[.pointer (some ⟨rb, 0, none⟩), .string P, .pointer (some ⟨nb, 0, none⟩)] w fun e w' => e = .returned (.bool true) ∧ w.grownBy w' (some rm) ∧ PM w' rm (N + 1) (fun x => if x = P.data.toList then nb + 1 else fM E B k [] x) := by
  have c0 := h.root0
  have c1 := h.root1
  obtain ⟨D, d1, d2⟩ := h.rootM
  have hm : IsMap D := d1.isMap
  have HD : Hid (w.ownsMap Tryz.prog 9 rdP rm N D) := d1
  have HD2 : Hid (∀ x, D.atKey (.string x) (.lit (.int .i64 0)) = .lit (.int .i64 (fM E B k [] x : Int))) := d2
  have HM : Hid (IsMap D) := hm
  have HLI : Hid (∀ W, Calls Tryz.prog 122 #[.string P, .string ⟨#[47]⟩] W fun e w' => e = .returned (.int .i64 (-1)) ∧ w' = W) := fun W => by
    have := last_any P hP W
    unfold lstI at this
    rwa [hl] at this
  have HKEY : Hid (keyOf Tryz.prog 9 (.string P) = some (.string P.data.toList)) := key9 P hP
  have HVAL : Hid (rdP (.pointer (some ⟨nb, 0, none⟩)) = some (.lit (.int .i64 ((nb + 1 : Nat) : Int)), [])) := rdP_ptr (nb + 1)
  have hnm : ∀ W : World, (binOp .eql 131 (.map (some rm)) (.map none)).run Tryz.prog W = .ok (.bool false) W := fun _ => rfl
  clear h d1 d2 hm
  go_enter Tryz.func118, Tryz.ntmps118
  go_wp2_with (first
    | (go_at_call 122; refine (HLI.out _).mono ?_; rintro e w1 ⟨rfl, hw1⟩; obtain rfl := hw1.symm; clear hw1)
    | (at_mapUpdate; refine wpList_mapUpdate_own _ rfl _ _ _ 131 rfl 9 124 (string_keyed Tryz.underlying9) Tryz.underlying131 rdP rm N D rfl HD.out (by unfold maxLen; omega) _ _ (.string P.data.toList) rfl rfl HKEY.out _ [] HVAL.out ?_; intro w2 hown2 hg2)
    | go_in)
  go_ret
  exact ⟨rfl, hg2, PM.put HM.out HD2.out hown2⟩

theorem ext_take {s : ByteArray} {i : Nat} (h : i ≤ s.size) : (s.extract 0 i).data.toList = s.data.toList.take i := by rw [bytes_ext]; simp
theorem ext_drop {s : ByteArray} {i : Nat} (h : i ≤ s.size) : (s.extract i s.size).data.toList = s.data.toList.drop i := by
  have hz : s.data.toList.length = s.size := by simp
  rw [bytes_ext, List.take_of_length_le (by rw [List.length_drop, hz]; omega)]

set_option maxHeartbeats 4000000 in
set_option maxRecDepth 100000 in
theorem hold_dir {w : World} {E : Nat → En} {k rb rm N : Nat} {B M : Nat → Nat} (h : Br w E k rb rm N B M) (P : ByteArray) (hP : P.size ≤ 1048576) (i : Nat) (hl : lst P.data.toList = some i) (nb j : Nat) (hN : N ≤ 100000) (hj : j < k) (hk : (E j).kind = 1)
    (hat : ∀ W, Below w.heap.size w W → Calls Tryz.prog 123 #[.pointer (some ⟨rb, 0, none⟩), .string (P.extract 0 i)] W fun e w' => e = .returned (.pointer (some ⟨B j, 0, none⟩)) ∧ Below W.heap.size W w') :
    Calls Tryz.prog 118 #[.pointer (some ⟨rb, 0, none⟩), .string P, .pointer (some ⟨nb, 0, none⟩)] w fun e w' => e = .returned (.bool true) ∧ ∃ w1, Below w.heap.size w w1 ∧ w1.grownBy w' (some (M j)) ∧ PM w' (M j) (N + 1) (fun x => if x = P.data.toList.drop (i + 1) then nb + 1 else fM E B k (pth E j ++ [47]) x) := by
  have hz : P.data.toList.length = P.size := by simp
  have hi : i < P.size := by have := (List.getElem?_eq_some_iff.1 (lst_some hl).1).1; omega
  have HBR : Hid (∀ W, Below w.heap.size w W → Br W E k rb rm N B M) := fun W hb => h.below hb
  have HAT : Hid (∀ W, Below w.heap.size w W → Calls Tryz.prog 123 #[.pointer (some ⟨rb, 0, none⟩), .string (P.extract 0 i)] W fun e w' => e = .returned (.pointer (some ⟨B j, 0, none⟩)) ∧ Below W.heap.size W w') := hat
  have HLI : Hid (∀ W, Calls Tryz.prog 122 #[.string P, .string ⟨#[47]⟩] W fun e w' => e = .returned (.int .i64 (i : Int)) ∧ w' = W) := fun W => by
    have := last_any P hP W
    unfold lstI at this
    rwa [hl] at this
  have hi0 : (0 : Int) ≤ (i : Int) := by omega
  have hi1 : (i : Int) ≤ (P.size : Int) := by omega
  obtain ⟨t, htt⟩ : ∃ t, t = i + 1 := ⟨_, rfl⟩
  have HTT : Hid (t = i + 1) := htt
  have ht1 : (i : Int) + 1 = (t : Int) := by omega
  have ht2 : IntKind.i64.wrap ((i : Int) + 1) = (t : Int) := by rw [IntKind.wrap_i64]; omega
  have ht3 : IntKind.i64.wrap (t : Int) = (t : Int) := by rw [IntKind.wrap_i64]; omega
  have ht4 : (t : Int) ≤ (P.size : Int) := by omega
  have ht5 : (0 : Int) ≤ (t : Int) := by omega
  have HKEY : Hid (keyOf Tryz.prog 9 (.string (P.extract t P.size)) = some (.string (P.data.toList.drop (i + 1)))) := by
    show _ = _
    rw [key9 _ (by simp; omega), ext_drop (by omega), htt]
  have HVAL : Hid (rdP (.pointer (some ⟨nb, 0, none⟩)) = some (.lit (.int .i64 ((nb + 1 : Nat) : Int)), [])) := rdP_ptr (nb + 1)
  have hnm : ∀ W : World, (binOp .eql 131 (.map (some (M j))) (.map none)).run Tryz.prog W = .ok (.bool false) W := fun _ => rfl
  clear h hat hl hz htt
  go_enter Tryz.func118, Tryz.ntmps118
  go_wp2_with (go_at_call 122; refine (HLI.out _).mono ?_; rintro e w1 ⟨rfl, hw1⟩; obtain rfl := hw1.symm; clear hw1)
  go_region_held3 (fun _ => True)
    (trivial)
    (((go_at_call 123; refine (HAT.out _ (Below.refl _ _).drew).mono ?_; rintro e w2 ⟨rfl, hl2⟩; have hb2 : Below w.heap.size w w2 := (Below.refl w.heap.size w).drew.trans (hl2.mono (Nat.le_refl _)))))
  have hBR := HBR.out w2 hb2
  have c1 := (hBR.dir j hj hk).1
  obtain ⟨D, d1, d2⟩ := (hBR.dir j hj hk).2
  have HD : Hid (w2.ownsMap Tryz.prog 9 rdP (M j) N D) := d1
  have HD2 : Hid (∀ x, D.atKey (.string x) (.lit (.int .i64 0)) = .lit (.int .i64 (fM E B k (pth E j ++ [47]) x : Int))) := d2
  have HM : Hid (IsMap D) := d1.isMap
  clear d1 d2 hBR
  go_wp2_with (first
    | (at_mapUpdate; refine wpList_mapUpdate_own _ rfl _ _ _ 131 rfl 9 124 (string_keyed Tryz.underlying9) Tryz.underlying131 rdP (M j) N D rfl HD.out (by unfold maxLen; omega) _ _ (.string (P.data.toList.drop (i + 1))) rfl rfl HKEY.out _ [] HVAL.out ?_; intro w3 hown3 hg3)
    | go_in)
  go_ret
  exact ⟨rfl, w2, hb2, hg3, PM.put HM.out HD2.out hown3⟩

set_option maxHeartbeats 4000000 in
set_option maxRecDepth 100000 in
theorem hold_leaf {w : World} {E : Nat → En} {k rb rm N : Nat} {B M : Nat → Nat} (h : Br w E k rb rm N B M) (P : ByteArray) (hP : P.size ≤ 1048576) (i : Nat) (hl : lst P.data.toList = some i) (nb j : Nat) (hj : j < k) (hk : ¬ (E j).kind = 1)
    (hat : ∀ W, Below w.heap.size w W → Calls Tryz.prog 123 #[.pointer (some ⟨rb, 0, none⟩), .string (P.extract 0 i)] W fun e w' => e = .returned (.pointer (some ⟨B j, 0, none⟩)) ∧ Below W.heap.size W w') :
    Calls Tryz.prog 118 #[.pointer (some ⟨rb, 0, none⟩), .string P, .pointer (some ⟨nb, 0, none⟩)] w fun e w' => e = .returned (.bool false) ∧ Below w.heap.size w w' := by
  have hz : P.data.toList.length = P.size := by simp
  have hi : i < P.size := by have := (List.getElem?_eq_some_iff.1 (lst_some hl).1).1; omega
  have HBR : Hid (∀ W, Below w.heap.size w W → Br W E k rb rm N B M) := fun W hb => h.below hb
  have HAT : Hid (∀ W, Below w.heap.size w W → Calls Tryz.prog 123 #[.pointer (some ⟨rb, 0, none⟩), .string (P.extract 0 i)] W fun e w' => e = .returned (.pointer (some ⟨B j, 0, none⟩)) ∧ Below W.heap.size W w') := hat
  have HLI : Hid (∀ W, Calls Tryz.prog 122 #[.string P, .string ⟨#[47]⟩] W fun e w' => e = .returned (.int .i64 (i : Int)) ∧ w' = W) := fun W => by
    have := last_any P hP W
    unfold lstI at this
    rwa [hl] at this
  have hi0 : (0 : Int) ≤ (i : Int) := by omega
  have hi1 : (i : Int) ≤ (P.size : Int) := by omega
  obtain ⟨t, htt⟩ : ∃ t, t = i + 1 := ⟨_, rfl⟩
  have HTT : Hid (t = i + 1) := htt
  have ht1 : (i : Int) + 1 = (t : Int) := by omega
  have ht2 : IntKind.i64.wrap ((i : Int) + 1) = (t : Int) := by rw [IntKind.wrap_i64]; omega
  have ht3 : IntKind.i64.wrap (t : Int) = (t : Int) := by rw [IntKind.wrap_i64]; omega
  have ht4 : (t : Int) ≤ (P.size : Int) := by omega
  have ht5 : (0 : Int) ≤ (t : Int) := by omega
  have hnm : ∀ W : World, (binOp .eql 131 (.map none) (.map none)).run Tryz.prog W = .ok (.bool true) W := fun _ => rfl
  clear h hat hl hz htt
  go_enter Tryz.func118, Tryz.ntmps118
  go_wp2_with (go_at_call 122; refine (HLI.out _).mono ?_; rintro e w1 ⟨rfl, hw1⟩; obtain rfl := hw1.symm; clear hw1)
  go_region_held3 (fun _ => True)
    (trivial)
    (((go_at_call 123; refine (HAT.out _ (Below.refl _ _).drew).mono ?_; rintro e w2 ⟨rfl, hl2⟩; have hb2 : Below w.heap.size w w2 := (Below.refl w.heap.size w).drew.trans (hl2.mono (Nat.le_refl _)))))
  have c1 := (HBR.out w2 hb2).leaf j hj hk
  go_wp2_with fail
  go_ret
  exact ⟨rfl, hb2⟩

set_option maxHeartbeats 4000000 in
set_option maxRecDepth 100000 in
theorem hold_none {w : World} {rb : Nat} (P : ByteArray) (hP : P.size ≤ 1048576) (i : Nat) (hl : lst P.data.toList = some i) (nb : Nat)
    (hat : ∀ W, Below w.heap.size w W → Calls Tryz.prog 123 #[.pointer (some ⟨rb, 0, none⟩), .string (P.extract 0 i)] W fun e w' => e = .returned (.pointer none) ∧ Below W.heap.size W w') :
    Calls Tryz.prog 118 #[.pointer (some ⟨rb, 0, none⟩), .string P, .pointer (some ⟨nb, 0, none⟩)] w fun e w' => e = .returned (.bool false) ∧ Below w.heap.size w w' := by
  have hz : P.data.toList.length = P.size := by simp
  have hi : i < P.size := by have := (List.getElem?_eq_some_iff.1 (lst_some hl).1).1; omega
  have HAT : Hid (∀ W, Below w.heap.size w W → Calls Tryz.prog 123 #[.pointer (some ⟨rb, 0, none⟩), .string (P.extract 0 i)] W fun e w' => e = .returned (.pointer none) ∧ Below W.heap.size W w') := hat
  have HLI : Hid (∀ W, Calls Tryz.prog 122 #[.string P, .string ⟨#[47]⟩] W fun e w' => e = .returned (.int .i64 (i : Int)) ∧ w' = W) := fun W => by
    have := last_any P hP W
    unfold lstI at this
    rwa [hl] at this
  have hi0 : (0 : Int) ≤ (i : Int) := by omega
  have hi1 : (i : Int) ≤ (P.size : Int) := by omega
  obtain ⟨t, htt⟩ : ∃ t, t = i + 1 := ⟨_, rfl⟩
  have HTT : Hid (t = i + 1) := htt
  have ht1 : (i : Int) + 1 = (t : Int) := by omega
  have ht2 : IntKind.i64.wrap ((i : Int) + 1) = (t : Int) := by rw [IntKind.wrap_i64]; omega
  have ht3 : IntKind.i64.wrap (t : Int) = (t : Int) := by rw [IntKind.wrap_i64]; omega
  have ht4 : (t : Int) ≤ (P.size : Int) := by omega
  have ht5 : (0 : Int) ≤ (t : Int) := by omega
  clear hat hl hz htt
  go_enter Tryz.func118, Tryz.ntmps118
  go_wp2_with (go_at_call 122; refine (HLI.out _).mono ?_; rintro e w1 ⟨rfl, hw1⟩; obtain rfl := hw1.symm; clear hw1)
  go_region_held3 (fun _ => True)
    (trivial)
    (((go_at_call 123; refine (HAT.out _ (Below.refl _ _).drew).mono ?_; rintro e w2 ⟨rfl, hl2⟩; have hb2 : Below w.heap.size w w2 := (Below.refl w.heap.size w).drew.trans (hl2.mono (Nat.le_refl _)))))
  go_wp2_with fail
  go_ret
  exact ⟨rfl, hb2⟩

end Go.Proofs.YtddnhnpfcelicaaGreatDoor.tt

