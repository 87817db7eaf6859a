import Derived.Test.YtcpmgellfaeejaaGreatDoorH06
import Derived.Test.YtcpmgellfaeejaaGreatDoorH03
import Derived.RangeFuncCalls
import Derived.RangeFuncLeaves
import Derived.Shelf.Abstract
import Derived.Shelf.RegionOpen
import Derived.WalkKit
import Derived.OwnWalkIn
import Derived.TacticsInMore
import Derived.LoopNIn
import Derived.LoopIn
import Derived.Test.YtcpmgellfaeejaaGreatDoorH01
namespace Go.Proofs.YtcpmgellfaeejaaGreatDoor.tt
open Go.ChangeShapes Go.WideShapes Go.ChangeAt Go.RowKit Go.Deep Go.Maps
set_option linter.unusedVariables false
set_option linter.unusedSimpArgs false
def chd (E : Nat → En) (B : Nat → Nat) (k : Nat) (p : List UInt8) : Nat := match (List.range k).find? (fun j => decide (pth E j = p)) with
 | some j => B j + 1
 | none => 0
theorem chd_cases (E : Nat → En) (B : Nat → Nat) (k : Nat) (p : List UInt8) : (∃ j, j < k ∧ pth E j = p ∧ chd E B k p = B j + 1) ∨ (∀ j, j < k → pth E j ≠ p) ∧ chd E B k p = 0 := by
 unfold chd
 cases h : (List.range k).find? (fun j => decide (pth E j = p)) with
 | some j =>
  have h1 := List.mem_of_find?_eq_some h
  have h2 := List.find?_some h
  exact .inl ⟨j, List.mem_range.1 h1, by simpa using h2, rfl⟩
 | none =>
  rw [List.find?_eq_none] at h
  exact .inr ⟨fun j hj e => h j (List.mem_range.2 hj) (by simpa using e), rfl⟩
theorem asc_one {E : Nat → En} {k i j : Nat} (hA : Asc E k) (hi : i < k) (hj : j < k) (h : pth E i = pth E j) : i = j := by
 rcases Nat.lt_trichotomy i j with h' | h' | h'
 ·exact absurd (hA i j h' hj) (by rw [h]; exact List.lt_irrefl _)
 ·exact h'
 ·exact absurd (hA j i h' hi) (by rw [h]; exact List.lt_irrefl _)
theorem chd_yes {E : Nat → En} {B : Nat → Nat} {k j : Nat} {p : List UInt8} (hA : Asc E k) (hj : j < k) (hp : pth E j = p) : chd E B k p = B j + 1 := by
 rcases chd_cases E B k p with ⟨i, hi, hpi, h⟩ | ⟨h, _⟩
 ·rw [h, asc_one hA hi hj (hpi.trans hp.symm)]
 ·exact absurd hp (h j hj)
theorem chd_no {E : Nat → En} {B : Nat → Nat} {k : Nat} {p : List UInt8} (h : ∀ j, j < k → pth E j ≠ p) : chd E B k p = 0 := by
 rcases chd_cases E B k p with ⟨i, hi, hpi, _⟩ | ⟨_, h⟩
 ·exact absurd hpi (h i hi)
 ·exact h
theorem chd_next {E : Nat → En} {B B' : Nat → Nat} {k : Nat} {p : List UInt8} (hA : Asc E (k + 1)) (hB : ∀ j, j < k → B' j = B j) : chd E B' (k + 1) p = if pth E k = p then B' k + 1 else chd E B k p := by
 by_cases h : pth E k = p
 ·rw [if_pos h, chd_yes hA (by omega) h]
 ·rw [if_neg h]
  rcases chd_cases E B k p with ⟨j, hj, hp, e⟩ | ⟨hno, e⟩
  ·rw [e, chd_yes hA (show j < k + 1 by omega) hp, hB j hj]
  ·rw [e, chd_no]
   intro j hj hp
   rcases Nat.lt_or_ge j k with h' | h'
   ·exact hno j h' hp
   ·obtain rfl : j = k := by omega
    exact h hp
theorem app_at (a b : List UInt8) (j : Nat) (h : a.length < j) : (a ++ 47 :: b)[j]? = b[j - a.length - 1]? := by
 rw [List.getElem?_append_right (by omega)]
 obtain ⟨m, hm⟩ : ∃ m, j - a.length = m + 1 := ⟨j - a.length - 1, by omega⟩
 rw [hm]
 rfl
theorem lst_app (a b : List UInt8) : lst (a ++ 47 :: b) = match lst b with
  | some i => some (a.length + 1 + i)
  | none => some a.length := by
 cases h : lst b with
 | some i =>
  obtain ⟨h1, h2⟩ := lst_some h
  refine lst_of ?_ (fun j hj => ?_)
  ·rw [app_at a b _ (by omega), show a.length + 1 + i - a.length - 1 = i by omega]
   exact h1
  ·rw [app_at a b j (by omega)]
   exact h2 _ (by omega)
 | none =>
  refine lst_of ?_ (fun j hj => ?_)
  ·rw [List.getElem?_append_right (Nat.le_refl _), Nat.sub_self]
   rfl
  ·rw [app_at a b j hj]
   exact lst_none h _
theorem up_plain {a b : List UInt8} (h : lst b = none) : up (a ++ 47 :: b) = a := by
 unfold up
 rw [lst_app, h]
 simp
theorem up_deep {a b : List UInt8} {i : Nat} (h : lst b = some i) : up (a ++ 47 :: b) = a ++ 47 :: b.take i := by
 unfold up
 rw [lst_app, h]
 simp only
 rw [show a.length + 1 + i = a.length + (i + 1) by omega, List.take_append, List.take_of_length_le (by omega)]
 simp
theorem name_nil : nameL [] = false := by
 unfold nameL nm.nameB
 rw [show decide (1 ≤ (⟨([] : List UInt8).toArray⟩ : ByteArray).size) = false from rfl]
 rfl
theorem path_head {E : Nat → En} {k j : Nat} (h : Tr E k) (hj : j < k) (r : List UInt8) : pth E j ≠ 47 :: r := fun e => by
 have := h.1 j hj
 unfold eOk pOk at this
 rw [Bool.and_eq_true] at this
 have h2 := this.1
 unfold pth at e
 rw [e, pk, if_pos rfl, name_nil] at h2
 simp at h2
theorem chd_leaf {E : Nat → En} {B : Nat → Nat} {k j : Nat} {x : List UInt8} (h : Tr E k) (hj : j < k) (hk : ¬ (E j).kind = 1) (hx : lst x = none) : chd E B k (pth E j ++ 47 :: x) = 0 := by
 refine chd_no fun i hi e => ?_
 have hu : up (pth E i) = pth E j := by rw [e]; exact up_plain hx
 have hne : pth E j ≠ [] := fun h0 => by
  rw [h0] at e
  exact path_head h hi x e
 obtain ⟨m, hm, hpm, hkm⟩ := h.2.2 i hi (by rw [hu]; exact hne)
 rw [hu] at hpm
 have := asc_one h.asc (show m < k by omega) hj hpm
 subst this
 exact hk hkm
theorem chd_dead {E : Nat → En} {B : Nat → Nat} {k : Nat} (h : Tr E k) : ∀ (n : Nat) (q r : List UInt8), r.length ≤ n → chd E B k q = 0 → chd E B k (q ++ 47 :: r) = 0 := by
 intro n
 induction n with
 | zero =>
  intro q r hr hq
  have : r = [] := List.eq_nil_of_length_eq_zero (by omega)
  subst this
  refine chd_no fun i hi e => ?_
  have hu : up (pth E i) = q := by rw [e]; exact up_plain rfl
  have hne : q ≠ [] := fun h0 => by
   rw [h0] at e
   exact path_head h hi [] e
  obtain ⟨m, hm, hpm, _⟩ := h.2.2 i hi (by rw [hu]; exact hne)
  rw [hu] at hpm
  rw [chd_yes h.asc (show m < k by omega) hpm] at hq
  cases hq
 | succ n ih =>
  intro q r hr hq
  refine chd_no fun i hi e => ?_
  have hne : q ≠ [] := fun h0 => by
   rw [h0] at e
   exact path_head h hi r e
  cases hl : lst r with
  | none =>
   have hu : up (pth E i) = q := by rw [e]; exact up_plain hl
   obtain ⟨m, hm, hpm, _⟩ := h.2.2 i hi (by rw [hu]; exact hne)
   rw [hu] at hpm
   rw [chd_yes h.asc (show m < k by omega) hpm] at hq
   cases hq
  | some t =>
   have hu : up (pth E i) = q ++ 47 :: r.take t := by rw [e]; exact up_deep hl
   obtain ⟨m, hm, hpm, _⟩ := h.2.2 i hi (by rw [hu]; simp)
   rw [hu] at hpm
   have ht : t < r.length := (List.getElem?_eq_some_iff.1 (lst_some hl).1).1
   have := ih q (r.take t) (by rw [List.length_take]; omega) hq
   rw [chd_yes h.asc (show m < k by omega) hpm] at this
   cases this
def fM (E : Nat → En) (B : Nat → Nat) (k : Nat) (pre : List UInt8) (x : List UInt8) : Nat := if lst x = none then chd E B k (pre ++ x) else 0
structure Br (w : World) (E : Nat → En) (k rb rm N : Nat) (B M : Nat → Nat) : Prop where
 root0 : w.cell? ⟨rb, 0, none⟩ = some (.int .i64 (-1))
 root1 : w.cell? ⟨rb, 1, none⟩ = some (.map (some rm))
 rootM : PM w rm N (fM E B k [])
 num : ∀ j, j < k → w.cell? ⟨B j, 0, none⟩ = some (.int .i64 (j : Int))
 dir : ∀ j, j < k → (E j).kind = 1 → w.cell? ⟨B j, 1, none⟩ = some (.map (some (M j))) ∧ PM w (M j) N (fM E B k (pth E j ++ [47]))
 leaf : ∀ j, j < k → ¬ (E j).kind = 1 → w.cell? ⟨B j, 1, none⟩ = some (.map none)
 apart : ∀ j, j < k → (E j).kind = 1 → M j ≠ rm
 inj : ∀ i j, i < k → j < k → (E i).kind = 1 → (E j).kind = 1 → M i = M j → i = j
theorem Br.below {w w' : World} {E : Nat → En} {k rb rm N : Nat} {B M : Nat → Nat} (h : Br w E k rb rm N B M) (hb : Below w.heap.size w w') : Br w' E k rb rm N B M := by
 have c : ∀ {b o : Nat} {v : Value}, w.cell? ⟨b, o, none⟩ = some v → w'.cell? ⟨b, o, none⟩ = some v := fun hc => (hb.cell (p := ⟨_, _, none⟩) (World.block_lt_of_cell? _ _ hc)).trans hc
 exact ⟨c h.root0, c h.root1, h.rootM.below hb, fun j hj => c (h.num j hj), fun j hj hk => ⟨c (h.dir j hj hk).1, (h.dir j hj hk).2.below hb⟩, fun j hj hk => c (h.leaf j hj hk), h.apart, h.inj⟩
end Go.Proofs.YtcpmgellfaeejaaGreatDoor.tt

namespace Go.Proofs.YtcpmgellfaeejaaGreatDoor.tt
open Go.ChangeShapes Go.WideShapes Go.ChangeAt Go.RowKit Go.Deep Go.Maps
set_option linter.unusedVariables false
set_option linter.unusedSimpArgs false
theorem pre_lt (a : List UInt8) (b : UInt8) (l : List UInt8) : a < a ++ b :: l := by
 induction a with
 | nil => exact List.nil_lt_cons _ _
 | cons c a ih => rw [List.cons_append]; exact List.cons_lt_cons_iff.2 (.inr ⟨rfl, ih⟩)
theorem chd_last {E : Nat → En} {B : Nat → Nat} {k : Nat} (hA : Asc E (k + 1)) (x : List UInt8) : chd E B (k + 1) (pth E k ++ 47 :: x) = 0 := chd_no fun j hj e => by
 have h1 : pth E k < pth E j := by rw [e]; exact pre_lt _ _ _
 rcases Nat.lt_or_ge j k with h | h
 ·exact List.lt_irrefl _ (List.lt_trans h1 (hA j k h (by omega)))
 ·obtain rfl : j = k := by omega
  exact List.lt_irrefl _ h1
theorem pre_form (p x : List UInt8) : p ++ [47] ++ x = p ++ 47 :: x := by simp
theorem map_cell {w : World} {b c o : Nat} {N : Nat} {f : List UInt8 → Nat} {v : Value} (h : PM w b N f) (hc : w.cell? ⟨c, o, none⟩ = some v) : c ≠ b := fun e => by
 subst e
 obtain ⟨D, ⟨es, ck, h1, _⟩, _⟩ := h
 simp [World.cell?, h1] at hc
theorem PM.congr {w : World} {b N : Nat} {f g : List UInt8 → Nat} (h : PM w b N f) (e : ∀ x, f x = g x) : PM w b N g := by
 obtain ⟨D, h1, h2, h3⟩ := h
 exact ⟨D, h1, fun x => by rw [h2 x, e x], fun x hx => by rw [← e x]; exact h3 x hx⟩
theorem fM_here {E : Nat → En} {B B' : Nat → Nat} {k : Nat} {pre name : List UInt8} (hA : Asc E (k + 1)) (hB : ∀ j, j < k → B' j = B j) (hp : pth E k = pre ++ name) (hn : lst name = none) (x : List UInt8) : (if x = name then B' k + 1 else fM E B k pre x) = fM E B' (k + 1) pre x := by
 unfold fM
 by_cases hx : lst x = none
 ·rw [if_pos hx, if_pos hx, chd_next hA hB, hp]
  by_cases e : x = name
  ·rw [if_pos e, if_pos (by rw [e])]
  ·rw [if_neg e, if_neg (fun h => e (List.append_cancel_left h).symm)]
 ·rw [if_neg hx, if_neg hx, if_neg (fun e => hx (by rw [e]; exact hn))]
theorem fM_else {E : Nat → En} {B B' : Nat → Nat} {k : Nat} {pre : List UInt8} (hA : Asc E (k + 1)) (hB : ∀ j, j < k → B' j = B j) (hne : ∀ x, lst x = none → pth E k ≠ pre ++ x) (x : List UInt8) : fM E B k pre x = fM E B' (k + 1) pre x := by
 unfold fM
 by_cases hx : lst x = none
 ·rw [if_pos hx, if_pos hx, chd_next hA hB, if_neg (hne x hx)]
 ·rw [if_neg hx, if_neg hx]
theorem lst_mid (a b : List UInt8) : lst (a ++ 47 :: b) ≠ none := by
 rw [lst_app]
 cases lst b <;> simp
theorem Br.next {w w' : World} {E : Nat → En} {k rb rm N : Nat} {B M : Nat → Nat} (h : Br w E k rb rm N B M) (hT : Tr E (k + 1)) (nb nm : Nat) (c0 : w.cell? ⟨nb, 0, none⟩ = some (.int .i64 (k : Int)))
  (cd : (E k).kind = 1 → w.cell? ⟨nb, 1, none⟩ = some (.map (some nm)) ∧ PM w nm 0 (fun _ => 0) ∧ nm ≠ rm ∧ ∀ j, j < k → (E j).kind = 1 → nm ≠ M j)
  (cl : ¬ (E k).kind = 1 → w.cell? ⟨nb, 1, none⟩ = some (.map none)) (mb : Nat) (pre name : List UInt8) (hp : pth E k = pre ++ name) (hn : lst name = none)
  (hmb : (pre = [] ∧ mb = rm) ∨ ∃ j, j < k ∧ (E j).kind = 1 ∧ mb = M j ∧ pre = pth E j ++ [47])
  (hg : w.grownBy w' (some mb)) (hP : PM w' mb (N + 1) (fun x => if x = name then nb + 1 else fM E B k pre x)) :
  Br w' E (k + 1) rb rm (N + 1) (fun j => if j = k then nb else B j) (fun j => if j = k then nm else M j) := by
 have hA := hT.asc
 have hB : ∀ j, j < k → (fun j => if j = k then nb else B j) j = B j := fun j hj => if_neg (by omega)
 have hBk : (fun j => if j = k then nb else B j) k = nb := if_pos rfl
 -- the map that was written
 have hPM : ∃ f, PM w mb N f := by
  rcases hmb with ⟨_, rfl⟩ | ⟨j, hj, hk, rfl, _⟩
  ·exact ⟨_, h.rootM⟩
  ·exact ⟨_, (h.dir j hj hk).2⟩
 obtain ⟨fm, hPm⟩ := hPM
 have cell : ∀ {b o : Nat} {v : Value}, w.cell? ⟨b, o, none⟩ = some v → w'.cell? ⟨b, o, none⟩ = some v := fun hc =>
  hg.cell hc (fun e => by have := Option.some.inj e; exact map_cell hPm hc this)
 have keep : ∀ {b n : Nat} {f : List UInt8 → Nat}, PM w b n f → b ≠ mb → PM w' b n f := fun hq hne => hq.kept (hg.block _ hq.lt (fun e => hne (Option.some.inj e)))
 have here : PM w' mb (N + 1) (fM E (fun j => if j = k then nb else B j) (k + 1) pre) := hP.congr fun x => by
  have := fM_here (B' := fun j => if j = k then nb else B j) hA hB hp hn x
  rw [if_pos (rfl : k = k)] at this
  exact this
 have other : ∀ {b : Nat} {q : List UInt8}, PM w b N (fM E B k q) → b ≠ mb → (∀ x, lst x = none → pth E k ≠ q ++ x) → PM w' b (N + 1) (fM E (fun j => if j = k then nb else B j) (k + 1) q) := fun hq hne hx =>
  ((keep hq hne).congr fun x => fM_else hA hB hx x).mono (by omega)
 refine ⟨cell h.root0, cell h.root1, ?_, fun j hj => ?_, fun j hj hk => ?_, fun j hj hk => ?_, fun j hj hk => ?_, fun i j hi hj hki hkj => ?_⟩
 ·rcases hmb with ⟨rfl, rfl⟩ | ⟨j, hj, hk, rfl, rfl⟩
  ·exact here
  ·refine other h.rootM (fun e => h.apart j hj hk e.symm) (fun x hx e => ?_)
   rw [hp, List.nil_append, pre_form] at e
   exact lst_mid _ _ (by rw [e]; exact hx)
 ·rcases Nat.lt_or_ge j k with h' | h'
  ·simp only [if_neg (show ¬ j = k by omega)]
   exact cell (h.num j h')
  ·obtain rfl : j = k := by omega
   simp only [if_pos rfl]
   exact cell c0
 ·rcases Nat.lt_or_ge j k with h' | h'
  ·simp only [if_neg (show ¬ j = k by omega)]
   refine ⟨cell (h.dir j h' hk).1, ?_⟩
   rcases hmb with ⟨rfl, rfl⟩ | ⟨m, hm, hkm, rfl, rfl⟩
   ·refine other (h.dir j h' hk).2 (h.apart j h' hk) (fun x hx e => ?_)
    rw [hp, List.nil_append, pre_form] at e
    exact lst_mid _ _ (by rw [← e]; exact hn)
   ·by_cases hjm : j = m
    ·subst hjm
     exact here
    ·refine other (h.dir j h' hk).2 (fun e => hjm (h.inj j m h' hm hk hkm e)) (fun x hx e => ?_)
     rw [hp, pre_form, pre_form] at e
     have e2 : up (pth E m ++ 47 :: name) = up (pth E j ++ 47 :: x) := by rw [e]
     rw [up_plain hn, up_plain hx] at e2
     exact hjm (asc_one hA (show j < k + 1 by omega) (show m < k + 1 by omega) e2.symm)
  ·obtain rfl : j = k := by omega
   simp only [if_pos rfl]
   obtain ⟨q1, q2, q3, q4⟩ := cd hk
   refine ⟨cell q1, ?_⟩
   have hne : nm ≠ mb := by
    rcases hmb with ⟨_, rfl⟩ | ⟨m, hm, hkm, rfl, _⟩
    ·exact q3
    ·exact q4 m hm hkm
   refine ((keep q2 hne).congr fun x => ?_).mono (by omega)
   unfold fM
   split
   ·rw [pre_form, chd_last hA]
   ·rfl
 ·rcases Nat.lt_or_ge j k with h' | h'
  ·simp only [if_neg (show ¬ j = k by omega)]
   exact cell (h.leaf j h' hk)
  ·obtain rfl : j = k := by omega
   simp only [if_pos rfl]
   exact cell (cl hk)
 ·rcases Nat.lt_or_ge j k with h' | h'
  ·simp only [if_neg (show ¬ j = k by omega)]
   exact h.apart j h' hk
  ·obtain rfl : j = k := by omega
   simp only [if_pos rfl]
   exact (cd hk).2.2.1
 ·intro e
  rcases Nat.lt_or_ge i k with h' | h'
  ·rcases Nat.lt_or_ge j k with h'' | h''
   ·simp only [if_neg (show ¬ i = k by omega), if_neg (show ¬ j = k by omega)] at e
    exact h.inj i j h' h'' hki hkj e
   ·obtain rfl : j = k := by omega
    simp only [if_neg (show ¬ i = j by omega), if_pos rfl] at e
    exact absurd e.symm ((cd hkj).2.2.2 i h' hki)
  ·obtain rfl : i = k := by omega
   rcases Nat.lt_or_ge j i with h'' | h''
   ·simp only [if_pos rfl, if_neg (show ¬ j = i by omega)] at e
    exact absurd e ((cd hki).2.2.2 j h'' hkj)
   ·omega
end Go.Proofs.YtcpmgellfaeejaaGreatDoor.tt

namespace Go.Proofs.YtcpmgellfaeejaaGreatDoor.tt
open Go.ChangeShapes Go.WideShapes Go.ChangeAt Go.RowKit Go.Deep Go.Maps
set_option linter.unusedVariables false
set_option linter.unusedSimpArgs false
theorem PM.put {w' : World} {b N n : Nat} {f : List UInt8 → Nat} {D : DataW Unit} {t : List UInt8} (hm : IsMap D) (h : ∀ x, D.atKey (.string x) (.lit (.int .i64 0)) = .lit (.int .i64 (f x : Int))) (hz : ∀ x, Maps.has D (.string x) = true → f x ≠ 0) (hn : n ≠ 0) (h2 : w'.ownsMap Tryz.prog 9 rdP b (N + 1) (D.put (.string t) (.lit (.int .i64 (n : Int))))) : PM w' b (N + 1) (fun x => if x = t then n else f x) :=
 ⟨_, h2, put_at hm h t n, fun x hx => by
  by_cases e : x = t
  ·show (if x = t then n else f x) ≠ 0; rw [if_pos e]; exact hn
  ·show (if x = t then n else f x) ≠ 0; rw [if_neg e]
   rw [has_put_other (by simpa using e)] at hx
   exact hz x hx⟩
set_option maxHeartbeats 2000000 in
set_option maxRecDepth 100000 in
theorem hold_root {w : World} {E : Nat → En} {k rb rm N : Nat} {B M : Nat → Nat} (h : Br w E k rb rm N B M) (P : ByteArray) (hP : P.size ≤ 1048576) (hl : lst P.data.toList = none) (nb : Nat) (hN : N ≤ 100000) :
  Calls Tryz.prog 102 #[.pointer (some ⟨rb, 0, none⟩), .string P, .pointer (some ⟨nb, 0, none⟩)] w fun e w' => e = .returned (.bool true) ∧ w.grownBy w' (some rm) ∧ PM w' rm (N + 1) (fun x => if x = P.data.toList then nb + 1 else fM E B k [] x) := by
 have c0 := h.root0
 have c1 := h.root1
 obtain ⟨D, d1, d2⟩ := h.rootM
 have hm : IsMap D := d1.isMap
 have HD : Hid (w.ownsMap Tryz.prog 9 rdP rm N D) := d1
 have HD2 : Hid (∀ x, D.atKey (.string x) (.lit (.int .i64 0)) = .lit (.int .i64 (fM E B k [] x : Int))) := d2.1
 have HNZ : Hid (∀ x, Maps.has D (.string x) = true → fM E B k [] x ≠ 0) := d2.2
 have HM : Hid (IsMap D) := hm
 have HLI : Hid (∀ W, Calls Tryz.prog 134 #[.string P, .string ⟨#[47]⟩] W fun e w' => e = .returned (.int .i64 (-1)) ∧ w' = W) := fun W => by
  have := last_any P hP W
  unfold lstI at this
  rwa [hl] at this
 have HKEY : Hid (keyOf Tryz.prog 9 (.string P) = some (.string P.data.toList)) := key9 P hP
 have HVAL : Hid (rdP (.pointer (some ⟨nb, 0, none⟩)) = some (.lit (.int .i64 ((nb + 1 : Nat) : Int)), [])) := rdP_ptr (nb + 1)
 have hnm : ∀ W : World, (binOp .eql 143 (.map (some rm)) (.map none)).run Tryz.prog W = .ok (.bool false) W := fun _ => rfl
 clear h d1 d2 hm
 go_enter Tryz.func102, Tryz.ntmps102
 go_wp2_with (first
  | (go_at_call 134; refine (HLI.out _).mono ?_; rintro e w1 ⟨rfl, hw1⟩; obtain rfl := hw1.symm; clear hw1)
  | (at_mapUpdate; refine wpList_mapUpdate_own _ rfl _ _ _ 143 rfl 9 77 (string_keyed Tryz.underlying9) Tryz.underlying143 rdP rm N D rfl HD.out (by unfold maxLen; omega) _ _ (.string P.data.toList) rfl rfl HKEY.out _ [] HVAL.out ?_; intro w2 hown2 hg2)
  | go_in)
 go_ret
 exact ⟨rfl, hg2, PM.put HM.out HD2.out HNZ.out (by omega) hown2⟩
theorem ext_take {s : ByteArray} {i : Nat} (h : i ≤ s.size) : (s.extract 0 i).data.toList = s.data.toList.take i := by rw [bytes_ext]; simp
theorem ext_drop {s : ByteArray} {i : Nat} (h : i ≤ s.size) : (s.extract i s.size).data.toList = s.data.toList.drop i := by
 have hz : s.data.toList.length = s.size := by simp
 rw [bytes_ext, List.take_of_length_le (by rw [List.length_drop, hz]; omega)]
set_option maxHeartbeats 4000000 in
set_option maxRecDepth 100000 in
theorem hold_dir {w : World} {E : Nat → En} {k rb rm N : Nat} {B M : Nat → Nat} (h : Br w E k rb rm N B M) (P : ByteArray) (hP : P.size ≤ 1048576) (i : Nat) (hl : lst P.data.toList = some i) (nb j : Nat) (hN : N ≤ 100000) (hj : j < k) (hk : (E j).kind = 1)
  (hat : ∀ W, Below w.heap.size w W → Calls Tryz.prog 135 #[.pointer (some ⟨rb, 0, none⟩), .string (P.extract 0 i)] W fun e w' => e = .returned (.pointer (some ⟨B j, 0, none⟩)) ∧ Below W.heap.size W w') :
  Calls Tryz.prog 102 #[.pointer (some ⟨rb, 0, none⟩), .string P, .pointer (some ⟨nb, 0, none⟩)] w fun e w' => e = .returned (.bool true) ∧ ∃ w1, Below w.heap.size w w1 ∧ w1.grownBy w' (some (M j)) ∧ PM w' (M j) (N + 1) (fun x => if x = P.data.toList.drop (i + 1) then nb + 1 else fM E B k (pth E j ++ [47]) x) := by
 have hz : P.data.toList.length = P.size := by simp
 have hi : i < P.size := by have := (List.getElem?_eq_some_iff.1 (lst_some hl).1).1; omega
 have HBR : Hid (∀ W, Below w.heap.size w W → Br W E k rb rm N B M) := fun W hb => h.below hb
 have HAT : Hid (∀ W, Below w.heap.size w W → Calls Tryz.prog 135 #[.pointer (some ⟨rb, 0, none⟩), .string (P.extract 0 i)] W fun e w' => e = .returned (.pointer (some ⟨B j, 0, none⟩)) ∧ Below W.heap.size W w') := hat
 have HLI : Hid (∀ W, Calls Tryz.prog 134 #[.string P, .string ⟨#[47]⟩] W fun e w' => e = .returned (.int .i64 (i : Int)) ∧ w' = W) := fun W => by
  have := last_any P hP W
  unfold lstI at this
  rwa [hl] at this
 have hi0 : (0 : Int) ≤ (i : Int) := by omega
 have hi1 : (i : Int) ≤ (P.size : Int) := by omega
 obtain ⟨t, htt⟩ : ∃ t, t = i + 1 := ⟨_, rfl⟩
 have HTT : Hid (t = i + 1) := htt
 have ht1 : (i : Int) + 1 = (t : Int) := by omega
 have ht2 : IntKind.i64.wrap ((i : Int) + 1) = (t : Int) := by rw [IntKind.wrap_i64]; omega
 have ht3 : IntKind.i64.wrap (t : Int) = (t : Int) := by rw [IntKind.wrap_i64]; omega
 have ht4 : (t : Int) ≤ (P.size : Int) := by omega
 have ht5 : (0 : Int) ≤ (t : Int) := by omega
 have HKEY : Hid (keyOf Tryz.prog 9 (.string (P.extract t P.size)) = some (.string (P.data.toList.drop (i + 1)))) := by
  show _ = _
  rw [key9 _ (by simp; omega), ext_drop (by omega), htt]
 have HVAL : Hid (rdP (.pointer (some ⟨nb, 0, none⟩)) = some (.lit (.int .i64 ((nb + 1 : Nat) : Int)), [])) := rdP_ptr (nb + 1)
 have hnm : ∀ W : World, (binOp .eql 143 (.map (some (M j))) (.map none)).run Tryz.prog W = .ok (.bool false) W := fun _ => rfl
 clear h hat hl hz htt
 go_enter Tryz.func102, Tryz.ntmps102
 go_wp2_with (go_at_call 134; refine (HLI.out _).mono ?_; rintro e w1 ⟨rfl, hw1⟩; obtain rfl := hw1.symm; clear hw1)
 go_region_held3 (fun _ => True)
  (trivial)
  (((go_at_call 135; refine (HAT.out _ (Below.refl _ _).drew).mono ?_; rintro e w2 ⟨rfl, hl2⟩; have hb2 : Below w.heap.size w w2 := (Below.refl w.heap.size w).drew.trans (hl2.mono (Nat.le_refl _)))))
 have hBR := HBR.out w2 hb2
 have c1 := (hBR.dir j hj hk).1
 obtain ⟨D, d1, d2⟩ := (hBR.dir j hj hk).2
 have HD : Hid (w2.ownsMap Tryz.prog 9 rdP (M j) N D) := d1
 have HD2 : Hid (∀ x, D.atKey (.string x) (.lit (.int .i64 0)) = .lit (.int .i64 (fM E B k (pth E j ++ [47]) x : Int))) := d2.1
 have HNZ : Hid (∀ x, Maps.has D (.string x) = true → fM E B k (pth E j ++ [47]) x ≠ 0) := d2.2
 have HM : Hid (IsMap D) := d1.isMap
 clear d1 d2 hBR
 go_wp2_with (first
  | (at_mapUpdate; refine wpList_mapUpdate_own _ rfl _ _ _ 143 rfl 9 77 (string_keyed Tryz.underlying9) Tryz.underlying143 rdP (M j) N D rfl HD.out (by unfold maxLen; omega) _ _ (.string (P.data.toList.drop (i + 1))) rfl rfl HKEY.out _ [] HVAL.out ?_; intro w3 hown3 hg3)
  | go_in)
 go_ret
 exact ⟨rfl, w2, hb2, hg3, PM.put HM.out HD2.out HNZ.out (by omega) hown3⟩
set_option maxHeartbeats 4000000 in
set_option maxRecDepth 100000 in
theorem hold_leaf {w : World} {E : Nat → En} {k rb rm N : Nat} {B M : Nat → Nat} (h : Br w E k rb rm N B M) (P : ByteArray) (hP : P.size ≤ 1048576) (i : Nat) (hl : lst P.data.toList = some i) (nb j : Nat) (hj : j < k) (hk : ¬ (E j).kind = 1)
  (hat : ∀ W, Below w.heap.size w W → Calls Tryz.prog 135 #[.pointer (some ⟨rb, 0, none⟩), .string (P.extract 0 i)] W fun e w' => e = .returned (.pointer (some ⟨B j, 0, none⟩)) ∧ Below W.heap.size W w') :
  Calls Tryz.prog 102 #[.pointer (some ⟨rb, 0, none⟩), .string P, .pointer (some ⟨nb, 0, none⟩)] w fun e w' => e = .returned (.bool false) ∧ Below w.heap.size w w' := by
 have hz : P.data.toList.length = P.size := by simp
 have hi : i < P.size := by have := (List.getElem?_eq_some_iff.1 (lst_some hl).1).1; omega
 have HBR : Hid (∀ W, Below w.heap.size w W → Br W E k rb rm N B M) := fun W hb => h.below hb
 have HAT : Hid (∀ W, Below w.heap.size w W → Calls Tryz.prog 135 #[.pointer (some ⟨rb, 0, none⟩), .string (P.extract 0 i)] W fun e w' => e = .returned (.pointer (some ⟨B j, 0, none⟩)) ∧ Below W.heap.size W w') := hat
 have HLI : Hid (∀ W, Calls Tryz.prog 134 #[.string P, .string ⟨#[47]⟩] W fun e w' => e = .returned (.int .i64 (i : Int)) ∧ w' = W) := fun W => by
  have := last_any P hP W
  unfold lstI at this
  rwa [hl] at this
 have hi0 : (0 : Int) ≤ (i : Int) := by omega
 have hi1 : (i : Int) ≤ (P.size : Int) := by omega
 obtain ⟨t, htt⟩ : ∃ t, t = i + 1 := ⟨_, rfl⟩
 have HTT : Hid (t = i + 1) := htt
 have ht1 : (i : Int) + 1 = (t : Int) := by omega
 have ht2 : IntKind.i64.wrap ((i : Int) + 1) = (t : Int) := by rw [IntKind.wrap_i64]; omega
 have ht3 : IntKind.i64.wrap (t : Int) = (t : Int) := by rw [IntKind.wrap_i64]; omega
 have ht4 : (t : Int) ≤ (P.size : Int) := by omega
 have ht5 : (0 : Int) ≤ (t : Int) := by omega
 have hnm : ∀ W : World, (binOp .eql 143 (.map none) (.map none)).run Tryz.prog W = .ok (.bool true) W := fun _ => rfl
 clear h hat hl hz htt
 go_enter Tryz.func102, Tryz.ntmps102
 go_wp2_with (go_at_call 134; refine (HLI.out _).mono ?_; rintro e w1 ⟨rfl, hw1⟩; obtain rfl := hw1.symm; clear hw1)
 go_region_held3 (fun _ => True)
  (trivial)
  (((go_at_call 135; refine (HAT.out _ (Below.refl _ _).drew).mono ?_; rintro e w2 ⟨rfl, hl2⟩; have hb2 : Below w.heap.size w w2 := (Below.refl w.heap.size w).drew.trans (hl2.mono (Nat.le_refl _)))))
 have c1 := (HBR.out w2 hb2).leaf j hj hk
 go_wp2_with fail
 go_ret
 exact ⟨rfl, hb2⟩
set_option maxHeartbeats 4000000 in
set_option maxRecDepth 100000 in
theorem hold_none {w : World} {rb : Nat} (P : ByteArray) (hP : P.size ≤ 1048576) (i : Nat) (hl : lst P.data.toList = some i) (nb : Nat)
  (hat : ∀ W, Below w.heap.size w W → Calls Tryz.prog 135 #[.pointer (some ⟨rb, 0, none⟩), .string (P.extract 0 i)] W fun e w' => e = .returned (.pointer none) ∧ Below W.heap.size W w') :
  Calls Tryz.prog 102 #[.pointer (some ⟨rb, 0, none⟩), .string P, .pointer (some ⟨nb, 0, none⟩)] w fun e w' => e = .returned (.bool false) ∧ Below w.heap.size w w' := by
 have hz : P.data.toList.length = P.size := by simp
 have hi : i < P.size := by have := (List.getElem?_eq_some_iff.1 (lst_some hl).1).1; omega
 have HAT : Hid (∀ W, Below w.heap.size w W → Calls Tryz.prog 135 #[.pointer (some ⟨rb, 0, none⟩), .string (P.extract 0 i)] W fun e w' => e = .returned (.pointer none) ∧ Below W.heap.size W w') := hat
 have HLI : Hid (∀ W, Calls Tryz.prog 134 #[.string P, .string ⟨#[47]⟩] W fun e w' => e = .returned (.int .i64 (i : Int)) ∧ w' = W) := fun W => by
  have := last_any P hP W
  unfold lstI at this
  rwa [hl] at this
 have hi0 : (0 : Int) ≤ (i : Int) := by omega
 have hi1 : (i : Int) ≤ (P.size : Int) := by omega
 obtain ⟨t, htt⟩ : ∃ t, t = i + 1 := ⟨_, rfl⟩
 have HTT : Hid (t = i + 1) := htt
 have ht1 : (i : Int) + 1 = (t : Int) := by omega
 have ht2 : IntKind.i64.wrap ((i : Int) + 1) = (t : Int) := by rw [IntKind.wrap_i64]; omega
 have ht3 : IntKind.i64.wrap (t : Int) = (t : Int) := by rw [IntKind.wrap_i64]; omega
 have ht4 : (t : Int) ≤ (P.size : Int) := by omega
 have ht5 : (0 : Int) ≤ (t : Int) := by omega
 clear hat hl hz htt
 go_enter Tryz.func102, Tryz.ntmps102
 go_wp2_with (go_at_call 134; refine (HLI.out _).mono ?_; rintro e w1 ⟨rfl, hw1⟩; obtain rfl := hw1.symm; clear hw1)
 go_region_held3 (fun _ => True)
  (trivial)
  (((go_at_call 135; refine (HAT.out _ (Below.refl _ _).drew).mono ?_; rintro e w2 ⟨rfl, hl2⟩; have hb2 : Below w.heap.size w w2 := (Below.refl w.heap.size w).drew.trans (hl2.mono (Nat.le_refl _)))))
 go_wp2_with fail
 go_ret
 exact ⟨rfl, hb2⟩
end Go.Proofs.YtcpmgellfaeejaaGreatDoor.tt

namespace Go.Proofs.YtcpmgellfaeejaaGreatDoor.tt
open Go.RowKit Go.Shelf Go.Proofs.YtcpmgellfaeejaaGreatDoor.rt
attribute [local go_sem] Oper.semAt_some
set_option linter.unusedVariables false
set_option linter.unusedSimpArgs false
theorem seq_any (s : ByteArray) (w : World) :
  Calls Tryz.prog 160 #[.string s, .string ⟨#[47]⟩] w fun e w' => e = .returned (.func (.func 171) #[] #[.pointer (some ⟨w.heap.size + 1, 0, none⟩), .pointer (some ⟨w.heap.size, 0, none⟩), .pointer (some ⟨w.heap.size + 1 + 1, 0, none⟩)]) ∧ w' = ((w.alloc (.cells #[.string s] 9)).alloc (.cells #[.string ⟨#[47]⟩] 9)).alloc (.cells #[.int .i64 0] 3) := by
 have HS : Hid (Calls Tryz.prog 165 #[.string s, .string ⟨#[47]⟩, .int .i64 0] w fun e w' => e = .returned (.func (.func 171) #[] #[.pointer (some ⟨w.heap.size + 1, 0, none⟩), .pointer (some ⟨w.heap.size, 0, none⟩), .pointer (some ⟨w.heap.size + 1 + 1, 0, none⟩)]) ∧ w' = ((w.alloc (.cells #[.string s] 9)).alloc (.cells #[.string ⟨#[47]⟩] 9)).alloc (.cells #[.int .i64 0] 3)) := by
  unfold Hid
  go_enter Tryz.func165, Tryz.ntmps165
  go_wp2
  go_ret
  exact ⟨rfl, rfl⟩
 go_enter Tryz.func160, Tryz.ntmps160
 go_wp2_with (go_at_call 165; refine HS.out.mono ?_; rintro e w1 ⟨rfl, rfl⟩)
 go_ret
 exact ⟨rfl, rfl⟩
theorem index_any (u : ByteArray) (w : World) :
  Calls Tryz.prog 156 #[.string u, .string ⟨#[47]⟩] w fun e w' => e = .returned (.int .i64 (Lib.index u.data.toList sl)) ∧ w' = w := by
 have := Any.strings_Index_one laysIX u 47 w
 rw [← Lib.index_one] at this
 exact this
structure Sq (W : World) (B : Nat) (u : ByteArray) : Prop where
 s : Boxed W B 9 (.string u)
 p : Boxed W (B + 1) 9 (.string ⟨#[47]⟩)
 v : Boxed W (B + 1 + 1) 3 (.int .i64 0)
def Kb (B : Nat) (W W' : World) : Prop := W.heap.size ≤ W'.heap.size ∧ W'.heap[B]? = W.heap[B]? ∧ W'.heap[B + 1]? = W.heap[B + 1]? ∧ W'.heap[B + 1 + 1]? = W.heap[B + 1 + 1]?
theorem Sq.kb {W W' : World} {B : Nat} {u : ByteArray} (h : Sq W B u) (k : Kb B W W') : Sq W' B u := ⟨k.2.1.trans h.s, k.2.2.1.trans h.p, k.2.2.2.trans h.v⟩
theorem Sq.set {W : World} {B : Nat} {u : ByteArray} (h : Sq W B u) (u' : ByteArray) : Sq (W.setCell ⟨B, 0, none⟩ (.string u')) B u' := ⟨h.s.set _, h.p.other (by omega) _, h.v.other (by omega) _⟩
theorem Sq.below {W W' : World} {B : Nat} {u : ByteArray} (h : Sq W B u) (k : Below W.heap.size W W') : Sq W' B u := h.kb ⟨k.size, k.block _ h.s.lt, k.block _ h.p.lt, k.block _ h.v.lt⟩
def PL (s : ByteArray) : List ByteArray := (spl [] s.data.toList).map fun x => ⟨x.toArray⟩
def szAt (W : World) (B : Nat) : Nat := match W.cell? ⟨B, 0, none⟩ with | some (.string u) => u.size | _ => 0
theorem szAt_of {W : World} {B : Nat} {u : ByteArray} (h : Sq W B u) : szAt W B = u.size := by unfold szAt; rw [h.s.cell]
theorem PL_miss {u : ByteArray} (h : Lib.index u.data.toList sl = -1) : PL u = [u] := by unfold PL; rw [spl_miss _ _ h]; rfl
theorem ix_lt {u : ByteArray} {i : Nat} (h : Lib.index u.data.toList sl = (i : Int)) : i < u.size := by
 have h' : Lib.indexByte u.data.toList 47 = i := by rw [← Lib.index_one]; exact h
 have := (List.getElem?_eq_some_iff.1 (Lib.indexByte_some h').1).1
 simpa using this
theorem PL_hit {u : ByteArray} {i : Nat} (h : Lib.index u.data.toList sl = (i : Int)) : PL u = u.extract 0 i :: PL (u.extract (i + 1) u.size) := by
 have hi := ix_lt h
 unfold PL
 rw [spl_hit _ _ _ h, List.map_cons, ext_drop (by omega)]
 congr 1
 apply ByteArray.ext
 apply Array.ext'
 simp
set_option maxRecDepth 100000 in
set_option maxHeartbeats 2000000 in
theorem split_hands (n B : Nat) (s : ByteArray) (hs : s.size ≤ 1048576) (w : World) (hn : 1 ≤ n) (hS : Sq w B s) :
  Hands n Tryz.prog 171 #[.pointer (some ⟨B + 1, 0, none⟩), .pointer (some ⟨B, 0, none⟩), .pointer (some ⟨B + 1 + 1, 0, none⟩)] (Kb B) (fun r => r = B) (PL s) w := by
 intro l J Jx W hW hJ hJx hY h0
 have hsW : Sq W B s := hS.below hW
 refine callsIn_of_wp Tryz.func171 rfl trivial ?_ rfl
 simp only [Tryz.ntmps171, List.size_toArray, List.length_cons, List.length_nil, Nat.reduceAdd, Nat.reduceSub, Array.replicate_succ, Array.replicate_zero, List.push_toArray, List.append_toArray, List.nil_append, List.cons_append]
 have hp0 := hsW.p.cell
 have hz1 : (ByteArray.mk #[47]).size = 1 := rfl
 gi_wp2
 gi_loopw [7, 8] (fun _ _ wr => ∃ (pre : List ByteArray) (u : ByteArray), PL s = pre ++ PL u ∧ u.size ≤ s.size ∧ Sq wr B u ∧ J pre wr) (fun _ _ wr => szAt wr B)
 case atStart => exact ⟨[], s, rfl, Nat.le_refl _, hsW, h0⟩
 case round =>
  obtain ⟨pre, u, hpl, hus, hsq, hJw⟩ := hrel
  have HPL : Hid (PL s = pre ++ PL u) := hpl
  have hc := hsq.s.cell
  have hcp := hsq.p.cell
  have hcv := hsq.v.cell
  have hB : B < wr.heap.size := hsq.s.lt
  clear hpl hp0
  by_cases hm : Lib.index u.data.toList sl = -1
  ·have HI : Hid (Calls Tryz.prog 156 #[.string u, .string ⟨#[47]⟩] wr fun e w' => e = .returned (.int .i64 (-1)) ∧ w' = wr) := by
    have := index_any u wr
    rw [hm] at this
    exact this
   have HL : Hid (PL u = [u]) := PL_miss hm
   clear hm
   obtain ⟨fn, tmps, assign, body, hy, hR⟩ := hY pre u wr hJw ⟨[], by rw [HPL.out, HL.out]; simp⟩
   gi_wp2_with (refine ⟨trivial, ?_⟩; gi_at_call 156; refine (callsIn_wide.2 HI.out).mono ?_; rintro e w1 ⟨rfl, hw⟩; have hw2 := hw.symm; subst hw2; clear hw)
   refine hR.mono ?_
   rintro e W3 (⟨rfl, hJ3, hk3⟩ | ⟨rfl, hJx3⟩)
   ·gi_wp2
    go_end0
    exact ⟨⟨_, rfl⟩, .inl (by rw [HPL.out, HL.out]; exact hJ3)⟩
   ·gi_wp2
    go_end0
    exact ⟨⟨_, rfl⟩, .inr ⟨_, by rw [HPL.out, HL.out]; exact List.prefix_refl _, hJx3⟩⟩
  ·have hge := Lib.index_ge u.data.toList sl
   obtain ⟨i, hi⟩ : ∃ i : Nat, Lib.index u.data.toList sl = (i : Int) := ⟨(Lib.index u.data.toList sl).toNat, by omega⟩
   have hlt := ix_lt hi
   have HI : Hid (Calls Tryz.prog 156 #[.string u, .string ⟨#[47]⟩] wr fun e w' => e = .returned (.int .i64 (i : Int)) ∧ w' = wr) := by
    have := index_any u wr
    rw [hi] at this
    exact this
   have HL : Hid (PL u = u.extract 0 i :: PL (u.extract (i + 1) u.size)) := PL_hit hi
   have hin : ¬ (i : Int) < 0 := by omega
   clear hm hge hi
   obtain ⟨fn, tmps, assign, body, hy, hR⟩ := hY pre (u.extract 0 i) wr hJw ⟨PL (u.extract (i + 1) u.size), by rw [HPL.out, HL.out]; simp⟩
   gi_wp2_with (refine ⟨trivial, ?_⟩; gi_at_call 156; refine (callsIn_wide.2 HI.out).mono ?_; rintro e w1 ⟨rfl, hw⟩; have hw2 := hw.symm; subst hw2; clear hw)
   refine hR.mono ?_
   rintro e W3 (⟨rfl, hJ3, hk3⟩ | ⟨rfl, hJx3⟩)
   ·have hsq3 := hsq.kb hk3
    have hc3 := hsq3.s.cell
    have hf3 := hsq3.s.frozen
    have hcp3 := hsq3.p.cell
    have hlt1 : (i : Int) + 1 ≤ (u.size : Int) := by omega
    gi_wp2
    go_roundw
    case rel => exact ⟨pre ++ [u.extract 0 i], u.extract (i + 1) u.size, by rw [HPL.out, HL.out]; simp, by simp; omega, hsq3.set _, hJ _ _ _ _ hJ3 (grownBy_setCell' _ _ _) (fun r e => by cases e; rfl)⟩
    case measure => rw [szAt_of (hsq3.set _), szAt_of hsq]; simp; omega
   ·gi_wp2
    refine bodyPost_ret (results_none rfl _ _ _) rfl ?_
    exact ⟨⟨_, rfl⟩, .inr ⟨_, ⟨PL (u.extract (i + 1) u.size), by rw [HPL.out, HL.out]; simp⟩, hJx3⟩⟩
end Go.Proofs.YtcpmgellfaeejaaGreatDoor.tt

namespace Go.Proofs.YtcpmgellfaeejaaGreatDoor.tt
open Go.ChangeShapes Go.WideShapes Go.ChangeAt Go.RowKit Go.Deep
set_option linter.unusedVariables false
set_option linter.unusedSimpArgs false
set_option maxRecDepth 100000 in
theorem less_any (p d p' d' : ByteArray) (k k' : Int) (x x' : Bool) (w : World) :
  Calls Tryz.prog 98 #[.agg #[.string p, .int .i64 k, .string d, .bool x], .agg #[.string p', .int .i64 k', .string d', .bool x']] w fun e w' => e = .returned (.bool (Op.bytesLess p.toList p'.toList)) ∧ Below w.heap.size w w' := by
 obtain ⟨r, hr⟩ : ∃ r, Op.bytesLess p.toList p'.toList = r := ⟨_, rfl⟩
 go_enter Tryz.func98, Tryz.ntmps98
 go_wp2
 go_ret
 exact ⟨by first | rfl | simp [hr], ((Below.refl _ _).alloc (Nat.le_refl _) _).alloc (by simp) _⟩
def Adj (E : Nat → En) (n : Nat) : Prop := ∀ i, i + 1 < n → pth E i < pth E (i + 1)
noncomputable def adjB (E : Nat → En) (n : Nat) : Bool := @decide (Adj E n) (Classical.propDecidable _)
theorem adjB_yes {E : Nat → En} {n : Nat} (h : Adj E n) : adjB E n = true := by unfold adjB; exact @decide_eq_true _ (Classical.propDecidable _) h
theorem adjB_no {E : Nat → En} {n : Nat} (h : ¬ Adj E n) : adjB E n = false := by unfold adjB; exact @decide_eq_false _ (Classical.propDecidable _) h
theorem adjB_iff {E : Nat → En} {n : Nat} : adjB E n = true ↔ Adj E n := by unfold adjB; exact @decide_eq_true_iff _ (Classical.propDecidable _)
set_option maxHeartbeats 4000000 in
set_option maxRecDepth 100000 in
theorem asc_any (E : Nat → En) (b o n cap : Nat) (w : World) (hR : EnR w b o n E) (hn : n ≤ 1048576) :
  Calls Tryz.prog 97 #[.slice (some ⟨b, o, none⟩) n cap, .func (.func 98) #[] #[]] w fun e w' => e = .returned (.bool (adjB E n)) ∧ Below w.heap.size w w' := by
 have HER : Hid (EnR w b o n E) := hR
 clear hR
 go_enter Tryz.func97, Tryz.ntmps97
 go_wp2
 go_loopw [5, 8] (fun _ x wr => ∃ i : Nat, i ≤ n ∧ x = .int .i64 (i : Int) ∧ Adj E i ∧ Below w.heap.size w wr) (fun _ x _ => n - (intOf x).toNat)
 case atStart => exact ⟨0, Nat.zero_le _, rfl, fun i h => by omega, Below.refl _ _⟩
 case round =>
  obtain ⟨i, hi, rfl, hadj, hbel⟩ := hrel
  have HAD : Hid (Adj E i) := hadj
  have HBE : Hid (Below w.heap.size w wr) := hbel
  clear hadj
  by_cases hil : i < n
  ·have hil' : (i : Int) < (n : Int) := by omega
   have hi0 : (0 : Int) ≤ (i : Int) := by omega
   by_cases hi1 : 0 < i
   ·have hi1' : (0 : Int) < (i : Int) := by omega
    obtain ⟨K, hKk⟩ : ∃ K, i = K + 1 := ⟨i - 1, by omega⟩
    have HKk : Hid (i = K + 1) := hKk
    have hK1 : (i : Int) - 1 = (K : Int) := by omega
    have hK2 : (K : Int) < (n : Int) := by omega
    have hK0 : (0 : Int) ≤ (K : Int) := by omega
    have hK3 : IntKind.i64.wrap ((i : Int) - 1) = (K : Int) := by rw [IntKind.wrap_i64]; omega
    have hK4 : IntKind.i64.wrap (K : Int) = (K : Int) := by rw [IntKind.wrap_i64]; omega
    obtain ⟨P, hP⟩ : ∃ P, (E i).path = P := ⟨_, rfl⟩
    obtain ⟨kP, hkP⟩ : ∃ k, (E i).kind = k := ⟨_, rfl⟩
    obtain ⟨dP, hdP⟩ : ∃ d, (E i).data = d := ⟨_, rfl⟩
    obtain ⟨xP, hxP⟩ : ∃ x, (E i).exec = x := ⟨_, rfl⟩
    obtain ⟨M, hM⟩ : ∃ P, (E K).path = P := ⟨_, rfl⟩
    obtain ⟨kM, hkM⟩ : ∃ k, (E K).kind = k := ⟨_, rfl⟩
    obtain ⟨dM, hdM⟩ : ∃ d, (E K).data = d := ⟨_, rfl⟩
    obtain ⟨xM, hxM⟩ : ∃ x, (E K).exec = x := ⟨_, rfl⟩
    have HCC : Hid (∀ w' : World, Below w.heap.size w w' → (w'.cell? ⟨b, o + K * 4, none⟩ = some (.string M) ∧ w'.cell? ⟨b, o + K * 4 + 1, none⟩ = some (.int .i64 kM) ∧ w'.cell? ⟨b, o + K * 4 + 2, none⟩ = some (.string dM) ∧ w'.cell? ⟨b, o + K * 4 + 3, none⟩ = some (.bool xM)) ∧ w'.cell? ⟨b, o + i * 4, none⟩ = some (.string P) ∧ w'.cell? ⟨b, o + i * 4 + 1, none⟩ = some (.int .i64 kP) ∧ w'.cell? ⟨b, o + i * 4 + 2, none⟩ = some (.string dP) ∧ w'.cell? ⟨b, o + i * 4 + 3, none⟩ = some (.bool xP)) := fun w' hb => by
     have h1 := (HER.out K (by omega)).below hb
     have h2 := (HER.out i hil).below hb
     unfold N4 at h1 h2
     rw [hM, hkM, hdM, hxM] at h1
     rw [hP, hkP, hdP, hxP] at h2
     exact ⟨h1, h2⟩
    have HPI : Hid (pth E i = P.data.toList) := by show _ = _; unfold pth; rw [hP]
    have HPK : Hid (pth E K = M.data.toList) := by show _ = _; unfold pth; rw [hM]
    have HLE : Hid (∀ W, Calls Tryz.prog 98 #[.agg #[.string M, .int .i64 kM, .string dM, .bool xM], .agg #[.string P, .int .i64 kP, .string dP, .bool xP]] W fun e w' => e = .returned (.bool (Op.bytesLess M.toList P.toList)) ∧ Below W.heap.size W w') := fun W => less_any _ _ _ _ _ _ _ _ W
    clear hP hkP hdP hxP hM hkM hdM hxM hKk hbel
    cases hbl : Op.bytesLess M.toList P.toList with
    | true =>
     rw [hbl] at HLE
     have HN : Hid (Adj E (i + 1)) := fun j hj => by
      rcases Nat.lt_or_ge (j + 1) i with h | h
      ·exact HAD.out j h
      ·obtain rfl : j = K := by have := HKk.out; omega
       rw [show j + 1 = i from HKk.out.symm, HPI.out, HPK.out]
       have := bl M P
       rw [hbl] at this
       simpa using this.symm
     clear hbl
     go_wp2_with fail
     refine wp_region_held_drew (S := fun w' => (w'.cell? ⟨b, o + K * 4, none⟩ = some (.string M) ∧ w'.cell? ⟨b, o + K * 4 + 1, none⟩ = some (.int .i64 kM) ∧ w'.cell? ⟨b, o + K * 4 + 2, none⟩ = some (.string dM) ∧ w'.cell? ⟨b, o + K * 4 + 3, none⟩ = some (.bool xM)) ∧ w'.cell? ⟨b, o + i * 4, none⟩ = some (.string P) ∧ w'.cell? ⟨b, o + i * 4 + 1, none⟩ = some (.int .i64 kP) ∧ w'.cell? ⟨b, o + i * 4 + 2, none⟩ = some (.string dP) ∧ w'.cell? ⟨b, o + i * 4 + 3, none⟩ = some (.bool xP)) (by kernel_rfl) (HCC.out _ HBE.out.drew) (fun hHeld => ?_)
     refine tq (i := 0) rfl (v := ?v1) ?hy1 ?r1
     case hy1 => (intro w hSw; (try dsimp only at hSw); go_simp; try with_reducible rfl)
     try simp only [aP]
     refine tq (i := 1) rfl (v := ?v2) ?hy2 ?r2
     case hy2 => (intro w hSw; (try dsimp only at hSw); go_simp; try with_reducible rfl)
     try simp only [aP]
     refine tq (i := 2) rfl (v := ?v3) ?hy3 ?r3
     case hy3 => (intro w hSw; (try dsimp only at hSw); go_simp; try with_reducible rfl)
     try simp only [aP]
     refine tq (i := 3) rfl (v := ?v4) ?hy4 ?r4
     case hy4 => (intro w hSw; (try dsimp only at hSw); go_simp; try with_reducible rfl)
     try simp only [aP]
     refine tq (i := 4) rfl (v := ?v5) ?hy5 ?r5
     case hy5 => (intro w hSw; (try dsimp only at hSw); go_simp; try with_reducible rfl)
     try simp only [aP]
     refine tq (i := 5) rfl (v := ?v6) ?hy6 ?r6
     case hy6 => (intro w hSw; (try dsimp only at hSw); go_simp; try with_reducible rfl)
     try simp only [aP]
     refine tq (i := 6) rfl (v := ?v7) ?hy7 ?r7
     case hy7 => (intro w hSw; (try dsimp only at hSw); go_simp; try with_reducible rfl)
     try simp only [aP]
     refine tq (i := 7) rfl (v := ?v8) ?hy8 ?r8
     case hy8 => (intro w hSw; (try dsimp only at hSw); go_simp; try with_reducible rfl)
     try simp only [aP]
     refine tq (i := 8) rfl (v := ?v9) ?hy9 ?r9
     case hy9 => (intro w hSw; (try dsimp only at hSw); go_simp; try with_reducible rfl)
     try simp only [aP]
     refine tq (i := 9) rfl (v := ?v10) ?hy10 ?r10
     case hy10 => (intro w hSw; (try dsimp only at hSw); go_simp; try with_reducible rfl)
     try simp only [aP]
     refine tq (i := 10) rfl (v := ?v11) ?hy11 ?r11
     case hy11 => (intro w hSw; (try dsimp only at hSw); go_simp; try with_reducible rfl)
     try simp only [aP]
     refine tq (i := 11) rfl (v := ?v12) ?hy12 ?r12
     case hy12 => (intro w hSw; (try dsimp only at hSw); go_simp; try with_reducible rfl)
     try simp only [aP]
     refine tq (i := 12) rfl (v := ?v13) ?hy13 ?r13
     case hy13 => (intro w hSw; (try dsimp only at hSw); go_simp; try with_reducible rfl)
     try simp only [aP]
     refine wpAnyH_ready (rs := [13]) (by kernel_rfl) (by simp) ?_
     refine cq rfl (fun K hK => ?_) AllReadyH.nil
     go_simp
     (go_at_call 98; refine (HLE.out _).mono ?_; rintro e w2 ⟨rfl, hl2⟩; have hb2 : Below w.heap.size w w2 := HBE.out.drew.trans (hl2.mono HBE.out.size))
     try go_wp2_with fail
     refine hK.out _ _ (HCC.out _ hb2) (fun hHeld => ?_)
     clear hK K
     try simp only [aP]
     refine tq (i := 14) rfl (v := ?v14) ?hy14 ?r14
     case hy14 => (intro w hSw; (try dsimp only at hSw); go_simp; try with_reducible rfl)
     try simp only [aP]
     refine tq (i := 15) rfl (v := ?v15) ?hy15 ?r15
     case hy15 => (intro w hSw; (try dsimp only at hSw); go_simp; try with_reducible rfl)
     try simp only [aP]
     refine wpAnyH_done (by kernel_rfl) ?_ _
     go_wp2_with fail
     go_roundw
     case rel => exact ⟨i + 1, by omega, by go_num, HN.out, hb2⟩
     case measure => simp [intOf] <;> omega
    | false =>
     rw [hbl] at HLE
     have HF : Hid (¬ Adj E n) := fun h => by
      have h2 := h K (by have := HKk.out; omega)
      rw [show K + 1 = i from HKk.out.symm, HPK.out, HPI.out] at h2
      have := bl M P
      rw [hbl] at this
      simp at this
      exact absurd h2 (List.not_lt.2 this)
     clear hbl
     go_wp2_with fail
     refine wp_region_held_drew (S := fun w' => (w'.cell? ⟨b, o + K * 4, none⟩ = some (.string M) ∧ w'.cell? ⟨b, o + K * 4 + 1, none⟩ = some (.int .i64 kM) ∧ w'.cell? ⟨b, o + K * 4 + 2, none⟩ = some (.string dM) ∧ w'.cell? ⟨b, o + K * 4 + 3, none⟩ = some (.bool xM)) ∧ w'.cell? ⟨b, o + i * 4, none⟩ = some (.string P) ∧ w'.cell? ⟨b, o + i * 4 + 1, none⟩ = some (.int .i64 kP) ∧ w'.cell? ⟨b, o + i * 4 + 2, none⟩ = some (.string dP) ∧ w'.cell? ⟨b, o + i * 4 + 3, none⟩ = some (.bool xP)) (by kernel_rfl) (HCC.out _ HBE.out.drew) (fun hHeld => ?_)
     refine tq (i := 0) rfl (v := ?v16) ?hy16 ?r16
     case hy16 => (intro w hSw; (try dsimp only at hSw); go_simp; try with_reducible rfl)
     try simp only [aP]
     refine tq (i := 1) rfl (v := ?v17) ?hy17 ?r17
     case hy17 => (intro w hSw; (try dsimp only at hSw); go_simp; try with_reducible rfl)
     try simp only [aP]
     refine tq (i := 2) rfl (v := ?v18) ?hy18 ?r18
     case hy18 => (intro w hSw; (try dsimp only at hSw); go_simp; try with_reducible rfl)
     try simp only [aP]
     refine tq (i := 3) rfl (v := ?v19) ?hy19 ?r19
     case hy19 => (intro w hSw; (try dsimp only at hSw); go_simp; try with_reducible rfl)
     try simp only [aP]
     refine tq (i := 4) rfl (v := ?v20) ?hy20 ?r20
     case hy20 => (intro w hSw; (try dsimp only at hSw); go_simp; try with_reducible rfl)
     try simp only [aP]
     refine tq (i := 5) rfl (v := ?v21) ?hy21 ?r21
     case hy21 => (intro w hSw; (try dsimp only at hSw); go_simp; try with_reducible rfl)
     try simp only [aP]
     refine tq (i := 6) rfl (v := ?v22) ?hy22 ?r22
     case hy22 => (intro w hSw; (try dsimp only at hSw); go_simp; try with_reducible rfl)
     try simp only [aP]
     refine tq (i := 7) rfl (v := ?v23) ?hy23 ?r23
     case hy23 => (intro w hSw; (try dsimp only at hSw); go_simp; try with_reducible rfl)
     try simp only [aP]
     refine tq (i := 8) rfl (v := ?v24) ?hy24 ?r24
     case hy24 => (intro w hSw; (try dsimp only at hSw); go_simp; try with_reducible rfl)
     try simp only [aP]
     refine tq (i := 9) rfl (v := ?v25) ?hy25 ?r25
     case hy25 => (intro w hSw; (try dsimp only at hSw); go_simp; try with_reducible rfl)
     try simp only [aP]
     refine tq (i := 10) rfl (v := ?v26) ?hy26 ?r26
     case hy26 => (intro w hSw; (try dsimp only at hSw); go_simp; try with_reducible rfl)
     try simp only [aP]
     refine tq (i := 11) rfl (v := ?v27) ?hy27 ?r27
     case hy27 => (intro w hSw; (try dsimp only at hSw); go_simp; try with_reducible rfl)
     try simp only [aP]
     refine tq (i := 12) rfl (v := ?v28) ?hy28 ?r28
     case hy28 => (intro w hSw; (try dsimp only at hSw); go_simp; try with_reducible rfl)
     try simp only [aP]
     refine wpAnyH_ready (rs := [13]) (by kernel_rfl) (by simp) ?_
     refine cq rfl (fun K hK => ?_) AllReadyH.nil
     go_simp
     (go_at_call 98; refine (HLE.out _).mono ?_; rintro e w2 ⟨rfl, hl2⟩; have hb2 : Below w.heap.size w w2 := HBE.out.drew.trans (hl2.mono HBE.out.size))
     try go_wp2_with fail
     refine hK.out _ _ (HCC.out _ hb2) (fun hHeld => ?_)
     clear hK K
     try simp only [aP]
     refine tq (i := 14) rfl (v := ?v29) ?hy29 ?r29
     case hy29 => (intro w hSw; (try dsimp only at hSw); go_simp; try with_reducible rfl)
     try simp only [aP]
     refine tq (i := 15) rfl (v := ?v30) ?hy30 ?r30
     case hy30 => (intro w hSw; (try dsimp only at hSw); go_simp; try with_reducible rfl)
     try simp only [aP]
     refine wpAnyH_done (by kernel_rfl) ?_ _
     go_wp2_with fail
     go_ret
     exact ⟨by rw [adjB_no HF.out]; first | done | rfl, hb2⟩
   ·have hi1' : ¬ (0 : Int) < (i : Int) := by omega
    have HN : Hid (Adj E (i + 1)) := fun j hj => by omega
    clear hbel
    go_wp2_with fail
    refine wp_region_held_drew (S := fun _ => True) (by kernel_rfl) (trivial) (fun hHeld => ?_)
    refine tq (i := 0) rfl (v := ?v31) ?hy31 ?r31
    case hy31 => (intro w hSw; (try dsimp only at hSw); go_simp; try with_reducible rfl)
    try simp only [aP]
    refine tq (i := 1) rfl (v := ?v32) ?hy32 ?r32
    case hy32 => (intro w hSw; (try dsimp only at hSw); go_simp; try with_reducible rfl)
    try simp only [aP]
    refine tq (i := 2) rfl (v := ?v33) ?hy33 ?r33
    case hy33 => (intro w hSw; (try dsimp only at hSw); go_simp; try with_reducible rfl)
    try simp only [aP]
    refine sq (i := 3) rfl ?_
    try simp only [aP]
    refine sq (i := 4) rfl ?_
    try simp only [aP]
    refine sq (i := 5) rfl ?_
    try simp only [aP]
    refine sq (i := 6) rfl ?_
    try simp only [aP]
    refine sq (i := 7) rfl ?_
    try simp only [aP]
    refine sq (i := 8) rfl ?_
    try simp only [aP]
    refine sq (i := 9) rfl ?_
    try simp only [aP]
    refine sq (i := 10) rfl ?_
    try simp only [aP]
    refine sq (i := 11) rfl ?_
    try simp only [aP]
    refine sq (i := 12) rfl ?_
    try simp only [aP]
    refine sq (i := 13) rfl ?_
    try simp only [aP]
    refine sq (i := 14) rfl ?_
    try simp only [aP]
    refine tq (i := 15) rfl (v := ?v34) ?hy34 ?r34
    case hy34 => (intro w hSw; (try dsimp only at hSw); go_simp; try with_reducible rfl)
    try simp only [aP]
    refine wpAnyH_done (by kernel_rfl) ?_ _
    go_wp2_with fail
    go_roundw
    case rel => exact ⟨i + 1, by omega, by go_num, HN.out, HBE.out.drew⟩
    case measure => simp [intOf] <;> omega
  ·have hil' : ¬ (i : Int) < (n : Int) := by omega
   obtain rfl : i = n := by omega
   clear hbel
   go_wp2
   go_ret
   exact ⟨by rw [adjB_yes HAD.out]; first | done | rfl, HBE.out⟩
end Go.Proofs.YtcpmgellfaeejaaGreatDoor.tt
