import Derived.Test.YtjjndaiojilhiaaDoorTV
import Derived.Test.YtjjndaiojilhiaaDoorTQ
namespace Go.Proofs.YtjjndaiojilhiaaDoor.tt
open Go.ChangeShapes Go.WideShapes Go.ChangeAt Go.RowKit Go.Deep Go.Maps
set_option linter.unusedVariables false
set_option linter.unusedSimpArgs false

/-! ### Trees of files: hold and newBranch, each in one form, out of what at is shown to do -/

/-- What at does at branches that stand. -/
def AtC (E : Nat → En) : Prop := ∀ (W : World) (k rb rm N : Nat) (B M : Nat → Nat), Br W E k rb rm N B M → Tr E k → ML W → ∀ U : ByteArray, U.size ≤ 1048576 → Calls Tryd.prog 32 #[.pointer (some ⟨rb, 0, none⟩), .string U] W fun e w' => e = .returned (ptr (chd E B k U.data.toList)) ∧ Below W.heap.size W w'

theorem lst_zero {s : ByteArray} (h : pOk s = true) : lst s.data.toList ≠ some 0 := fun e => by
  have h1 := (lst_some e).1
  unfold pOk at h
  cases hl : s.data.toList with
  | nil => rw [hl] at h1; simp at h1
  | cons b l =>
    rw [hl] at h1 h
    have hb : b = 47 := by simpa using h1
    rw [pk, if_pos hb, name_nil] at h
    simp at h

/-- The directory that a path wants is there. -/
def Wants (E : Nat → En) (k : Nat) (p : List UInt8) : Prop := up p ≠ [] → Dir E k (up p)

/-- Where a branch was put. -/
def Put (w w' : World) (E : Nat → En) (k rm N : Nat) (B M : Nat → Nat) (p : List UInt8) (nb : Nat) : Prop := ∃ w1 mb pre name, Below w.heap.size w w1 ∧ w1.grownBy w' (some mb) ∧ p = pre ++ name ∧ lst name = none ∧ ((pre = [] ∧ mb = rm) ∨ ∃ j, j < k ∧ (E j).kind = 1 ∧ mb = M j ∧ pre = pth E j ++ [47]) ∧ PM w' mb (N + 1) (fun x => if x = name then nb + 1 else fM E B k pre x)

theorem cut_at {l : List UInt8} {i : Nat} (h : lst l = some i) : l = (l.take i ++ [47]) ++ l.drop (i + 1) ∧ lst (l.drop (i + 1)) = none := by
  obtain ⟨h1, h2⟩ := lst_some h
  obtain ⟨hlt, he⟩ := List.getElem?_eq_some_iff.1 h1
  constructor
  · have := List.take_append_drop i l
    rw [List.drop_eq_getElem_cons hlt, he] at this
    rw [List.append_assoc]
    exact this.symm
  · refine lst_no fun j e => ?_
    rw [List.getElem?_drop] at e
    exact h2 (i + 1 + j) (by omega) e

theorem up_some {l : List UInt8} {i : Nat} (h : lst l = some i) : up l = l.take i := by unfold up; rw [h]
theorem up_none {l : List UInt8} (h : lst l = none) : up l = [] := by unfold up; rw [h]

theorem take_ne {l : List UInt8} {i : Nat} (h : lst l = some i) (h0 : i ≠ 0) : l.take i ≠ [] := fun e => by
  have := congrArg List.length e
  have hlt := (List.getElem?_eq_some_iff.1 (lst_some h).1).1
  rw [List.length_take, List.length_nil] at this
  omega

theorem hold_yes {w : World} {E : Nat → En} {k rb rm N : Nat} {B M : Nat → Nat} (h : Br w E k rb rm N B M) (hT : Tr E k) (hm : ML w) (hC : AtC E) (P : ByteArray) (hP : P.size ≤ 1048576) (hpk : pOk P = true) (nb : Nat) (hN : N ≤ 100000) (hw : Wants E k P.data.toList) :
    Calls Tryd.prog 43 #[.pointer (some ⟨rb, 0, none⟩), .string P, .pointer (some ⟨nb, 0, none⟩)] w fun e w' => e = .returned (.bool true) ∧ Put w w' E k rm N B M P.data.toList nb := by
  cases hl : lst P.data.toList with
  | none =>
    refine (hold_root h P hP hl nb hN).mono ?_
    rintro e w' ⟨rfl, hg, hp⟩
    exact ⟨rfl, w, rm, [], P.data.toList, Below.refl _ _, hg, rfl, hl, .inl ⟨rfl, rfl⟩, hp⟩
  | some i =>
    have hi0 : i ≠ 0 := fun e => by subst e; exact lst_zero hpk hl
    have hz : P.data.toList.length = P.size := by simp
    have hi : i < P.size := by have := (List.getElem?_eq_some_iff.1 (lst_some hl).1).1; omega
    obtain ⟨j, hj, hpj, hk⟩ := hw (by rw [up_some hl]; exact take_ne hl hi0)
    rw [up_some hl] at hpj
    have hat : ∀ W, Below w.heap.size w W → Calls Tryd.prog 32 #[.pointer (some ⟨rb, 0, none⟩), .string (P.extract 0 i)] W fun e w' => e = .returned (.pointer (some ⟨B j, 0, none⟩)) ∧ Below W.heap.size W w' := fun W hb => by
      have := hC W k rb rm N B M (h.below hb) hT (hm.below hb) (P.extract 0 i) (by simp; omega)
      rw [ext_take (by omega), chd_yes hT.asc hj hpj] at this
      exact this
    refine (hold_dir h P hP i hl nb j hN hj hk hat).mono ?_
    rintro e w' ⟨rfl, w1, hb1, hg, hp⟩
    obtain ⟨c1, c2⟩ := cut_at hl
    exact ⟨rfl, w1, M j, pth E j ++ [47], P.data.toList.drop (i + 1), hb1, hg, by rw [hpj]; exact c1, c2, .inr ⟨j, hj, hk, rfl, rfl⟩, hp⟩

theorem hold_not {w : World} {E : Nat → En} {k rb rm N : Nat} {B M : Nat → Nat} (h : Br w E k rb rm N B M) (hT : Tr E k) (hm : ML w) (hC : AtC E) (P : ByteArray) (hP : P.size ≤ 1048576) (nb : Nat) (hw : ¬ Wants E k P.data.toList) :
    Calls Tryd.prog 43 #[.pointer (some ⟨rb, 0, none⟩), .string P, .pointer (some ⟨nb, 0, none⟩)] w fun e w' => e = .returned (.bool false) ∧ Below w.heap.size w w' := by
  have hne : up P.data.toList ≠ [] := fun e => hw (fun h => absurd e h)
  have hnd : ¬ Dir E k (up P.data.toList) := fun e => hw (fun _ => e)
  cases hl : lst P.data.toList with
  | none => exact absurd (up_none hl) hne
  | some i =>
    have hz : P.data.toList.length = P.size := by simp
    have hi : i < P.size := by have := (List.getElem?_eq_some_iff.1 (lst_some hl).1).1; omega
    rw [up_some hl] at hnd
    have hat : ∀ W, Below w.heap.size w W → Calls Tryd.prog 32 #[.pointer (some ⟨rb, 0, none⟩), .string (P.extract 0 i)] W fun e w' => e = .returned (ptr (chd E B k (P.data.toList.take i))) ∧ Below W.heap.size W w' := fun W hb => by
      have := hC W k rb rm N B M (h.below hb) hT (hm.below hb) (P.extract 0 i) (by simp; omega)
      rwa [ext_take (by omega)] at this
    rcases chd_cases E B k (P.data.toList.take i) with ⟨j, hj, hpj, e⟩ | ⟨_, e⟩
    · rw [e] at hat
      exact hold_leaf h P hP i hl nb j hj (fun hk => hnd ⟨j, hj, hpj, hk⟩) hat
    · rw [e] at hat
      exact hold_none P hP i hl nb hat

/-- A new branch, of whatever kind. -/
theorem new_any (num k : Int) (w : World) :
    Calls Tryd.prog 40 #[.int .i64 num, .int .i64 k] w fun e w' => e = .returned (.pointer (some ⟨w.heap.size, 0, none⟩)) ∧ w'.cell? ⟨w.heap.size, 0, none⟩ = some (.int .i64 num) ∧ (k = 1 → w'.cell? ⟨w.heap.size, 1, none⟩ = some (.map (some (w.heap.size + 1))) ∧ PM w' (w.heap.size + 1) 0 (fun _ => 0)) ∧ (¬ k = 1 → w'.cell? ⟨w.heap.size, 1, none⟩ = some (.map none)) ∧ Below w.heap.size w w' := by
  by_cases hk : k = 1
  · subst hk
    refine (new_dir num w).mono ?_
    rintro e w' ⟨rfl, h1, h2, h3, _, h5⟩
    exact ⟨rfl, h1, fun _ => ⟨h2, h3⟩, fun h => absurd rfl h, h5⟩
  · refine (new_leaf num k hk w).mono ?_
    rintro e w' ⟨rfl, h1, h2, _, h5⟩
    exact ⟨rfl, h1, fun h => absurd h hk, fun _ => h2, h5⟩

end Go.Proofs.YtjjndaiojilhiaaDoor.tt
