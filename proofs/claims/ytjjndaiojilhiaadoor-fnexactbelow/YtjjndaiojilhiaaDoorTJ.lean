import Derived.Test.YtjjndaiojilhiaaDoorTI
import Derived.Test.YtjjndaiojilhiaaDoorTW
namespace Go.Proofs.YtjjndaiojilhiaaDoor.tt
open Go.ChangeShapes Go.WideShapes Go.ChangeAt Go.RowKit Go.Deep Go.Maps Go.Shelf Go.Proofs.YtjjndaiojilhiaaDoor.rt
attribute [local go_sem] Oper.semAt_some
set_option linter.unusedVariables false
set_option linter.unusedSimpArgs false

/-! ### Trees of files: (*branch).at -/

def jo : List (List UInt8) → List UInt8
  | [] => []
  | [x] => x
  | x :: y :: r => x ++ 47 :: jo (y :: r)

theorem jo_snoc : ∀ (pre : List (List UInt8)) (x : List UInt8), pre ≠ [] → jo (pre ++ [x]) = jo pre ++ 47 :: x
  | [], _, h => absurd rfl h
  | [a], x, _ => by simp [jo]
  | a :: b :: r, x, _ => by
    have := jo_snoc (b :: r) x (by simp)
    simp only [List.cons_append] at this ⊢
    rw [jo, this, jo]
    simp

theorem spl_ne (cur l : List UInt8) : spl cur l ≠ [] := fun e => by
  have := spl_len l cur
  rw [e] at this
  simp at this

theorem jo_cons (x : List UInt8) (r : List (List UInt8)) (h : r ≠ []) : jo (x :: r) = x ++ 47 :: jo r := by
  cases r with
  | nil => exact absurd rfl h
  | cons y r => rfl

theorem jo_spl : ∀ (l cur : List UInt8), jo (spl cur l) = cur ++ l
  | [], cur => by simp [spl, jo]
  | b :: l, cur => by
    rw [spl]
    by_cases hb : b = 47
    · rw [if_pos hb, jo_cons _ _ (spl_ne _ _), jo_spl l [], hb]; simp
    · rw [if_neg hb, jo_spl l (cur ++ [b])]; simp

theorem spl_plain : ∀ (l cur : List UInt8), (∀ i : Nat, cur[i]? ≠ some 47) → ∀ x ∈ spl cur l, lst x = none
  | [], cur, h, x, hx => by
    simp [spl] at hx
    subst hx
    exact lst_no h
  | b :: l, cur, h, x, hx => by
    rw [spl] at hx
    by_cases hb : b = 47
    · rw [if_pos hb] at hx
      rcases List.mem_cons.1 hx with rfl | hx
      · exact lst_no h
      · exact spl_plain l [] (by simp) x hx
    · rw [if_neg hb] at hx
      refine spl_plain l (cur ++ [b]) (fun i e => ?_) x hx
      rcases Nat.lt_or_ge i cur.length with hi | hi
      · rw [List.getElem?_append_left hi] at e; exact h i e
      · rw [List.getElem?_append_right hi] at e
        cases hd : i - cur.length with
        | zero => rw [hd] at e; simp at e; exact hb e
        | succ m => rw [hd] at e; simp at e

theorem jo_app : ∀ (a b : List (List UInt8)), a ≠ [] → b ≠ [] → jo (a ++ b) = jo a ++ 47 :: jo b
  | [], _, h, _ => absurd rfl h
  | [x], b, _, hb => by rw [List.singleton_append, jo_cons _ _ hb]; rfl
  | x :: y :: r, b, _, hb => by
    have := jo_app (y :: r) b (by simp) hb
    simp only [List.cons_append] at this ⊢
    rw [jo, this, jo]
    simp

/-- Where the walk stands behind the pieces pre. -/
def nd (E : Nat → En) (B : Nat → Nat) (k rb : Nat) (pre : List ByteArray) : Nat := if pre = [] then rb + 1 else chd E B k (jo (pre.map (·.data.toList)))

theorem nd_all (E : Nat → En) (B : Nat → Nat) (k rb : Nat) (U : ByteArray) : nd E B k rb (PL U) = chd E B k U.data.toList := by
  have h : (PL U).map (·.data.toList) = spl [] U.data.toList := by unfold PL; rw [List.map_map]; exact (List.map_congr_left (fun x _ => by simp)).trans (List.map_id _)
  unfold nd
  rw [h, jo_spl, if_neg]
  · rfl
  · intro e
    rw [e] at h
    exact spl_ne [] U.data.toList h.symm

theorem nd_dead {E : Nat → En} {B : Nat → Nat} {k rb : Nat} (hT : Tr E k) {U : ByteArray} {pre : List ByteArray} (hp : pre <+: PL U) (h : nd E B k rb pre = 0) : chd E B k U.data.toList = 0 := by
  rw [← nd_all E B k rb U]
  obtain ⟨r, hr⟩ := hp
  unfold nd at h ⊢
  by_cases hn : pre = []
  · rw [if_pos hn] at h; cases h
  · rw [if_neg hn] at h
    rw [← hr, if_neg (by simp [hn])]
    by_cases hr0 : r = []
    · rw [hr0, List.append_nil]; exact h
    · rw [List.map_append, jo_app _ _ (by simpa using hn) (by simpa using hr0)]
      exact chd_dead hT _ _ _ (Nat.le_refl _) h

theorem PL_plain {U x : ByteArray} (h : x ∈ PL U) : lst x.data.toList = none ∧ x.size ≤ U.size := by
  unfold PL at h
  obtain ⟨l, hl, rfl⟩ := List.mem_map.1 h
  refine ⟨by simpa using spl_plain _ [] (by simp) l hl, ?_⟩
  have := spl_small _ _ l hl
  have e : (ByteArray.mk l.toArray).size = l.length := by simp [ByteArray.size]
  rw [e]
  simpa using this

end Go.Proofs.YtjjndaiojilhiaaDoor.tt
