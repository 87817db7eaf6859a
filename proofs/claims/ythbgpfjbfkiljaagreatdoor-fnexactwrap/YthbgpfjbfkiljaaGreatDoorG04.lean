import Derived.Test.YthbgpfjbfkiljaaGreatDoorG03
import Derived.Test.YthbgpfjbfkiljaaGreatDoorG01
set_option linter.unusedVariables false
set_option linter.unusedSimpArgs false
set_option maxRecDepth 100000
set_option maxHeartbeats 16000000
namespace Go.Proofs.YthbgpfjbfkiljaaGreatDoor.tt
open Go.ChangeShapes Go.WideShapes Go.ChangeAt Go.RowKit Go.Deep Go.Maps
def chd (E : Nat → En) (B : Nat → Nat) (k : Nat) (p : List UInt8) : Nat := match (List.range k).find? (fun j => decide (pth E j = p)) with
 | some j => B j + 1
 | none => 0
theorem chd_cases (E : Nat → En) (B : Nat → Nat) (k : Nat) (p : List UInt8) : (∃ j, j < k ∧ pth E j = p ∧ chd E B k p = B j + 1) ∨ (∀ j, j < k → pth E j ≠ p) ∧ chd E B k p = 0 := by
 unfold chd
 cases h : (List.range k).find? (fun j => decide (pth E j = p)) with
 | some j =>
  have h1 := List.mem_of_find?_eq_some h
  have h2 := List.find?_some h
  exact .inl ⟨j, List.mem_range.1 h1, by simpa using h2, rfl⟩
 | none =>
  rw [List.find?_eq_none] at h
  exact .inr ⟨fun j hj e => h j (List.mem_range.2 hj) (by simpa using e), rfl⟩
theorem asc_one {E : Nat → En} {k i j : Nat} (hA : Asc E k) (hi : i < k) (hj : j < k) (h : pth E i = pth E j) : i = j := by
 rcases Nat.lt_trichotomy i j with h' | h' | h'
 ·exact absurd (hA i j h' hj) (by rw [h]; exact List.lt_irrefl _)
 ·exact h'
 ·exact absurd (hA j i h' hi) (by rw [h]; exact List.lt_irrefl _)
theorem chd_yes {E : Nat → En} {B : Nat → Nat} {k j : Nat} {p : List UInt8} (hA : Asc E k) (hj : j < k) (hp : pth E j = p) : chd E B k p = B j + 1 := by
 rcases chd_cases E B k p with ⟨i, hi, hpi, h⟩ | ⟨h, _⟩
 ·rw [h, asc_one hA hi hj (hpi.trans hp.symm)]
 ·exact absurd hp (h j hj)
theorem chd_no {E : Nat → En} {B : Nat → Nat} {k : Nat} {p : List UInt8} (h : ∀ j, j < k → pth E j ≠ p) : chd E B k p = 0 := by
 rcases chd_cases E B k p with ⟨i, hi, hpi, _⟩ | ⟨_, h⟩
 ·exact absurd hpi (h i hi)
 ·exact h
theorem chd_next {E : Nat → En} {B B' : Nat → Nat} {k : Nat} {p : List UInt8} (hA : Asc E (k + 1)) (hB : ∀ j, j < k → B' j = B j) : chd E B' (k + 1) p = if pth E k = p then B' k + 1 else chd E B k p := by
 by_cases h : pth E k = p
 ·rw [if_pos h, chd_yes hA (by omega) h]
 ·rw [if_neg h]
  rcases chd_cases E B k p with ⟨j, hj, hp, e⟩ | ⟨hno, e⟩
  ·rw [e, chd_yes hA (show j < k + 1 by omega) hp, hB j hj]
  ·rw [e, chd_no]
   intro j hj hp
   rcases Nat.lt_or_ge j k with h' | h'
   ·exact hno j h' hp
   ·obtain rfl : j = k := by omega
    exact h hp
theorem app_at (a b : List UInt8) (j : Nat) (h : a.length < j) : (a ++ 47 :: b)[j]? = b[j - a.length - 1]? := by
 rw [List.getElem?_append_right (by omega)]
 obtain ⟨m, hm⟩ : ∃ m, j - a.length = m + 1 := ⟨j - a.length - 1, by omega⟩
 rw [hm]
 rfl
theorem lst_app (a b : List UInt8) : lst (a ++ 47 :: b) = match lst b with
  | some i => some (a.length + 1 + i)
  | none => some a.length := by
 cases h : lst b with
 | some i =>
  obtain ⟨h1, h2⟩ := lst_some h
  refine lst_of ?_ (fun j hj => ?_)
  ·rw [app_at a b _ (by omega), show a.length + 1 + i - a.length - 1 = i by omega]
   exact h1
  ·rw [app_at a b j (by omega)]
   exact h2 _ (by omega)
 | none =>
  refine lst_of ?_ (fun j hj => ?_)
  ·rw [List.getElem?_append_right (Nat.le_refl _), Nat.sub_self]
   rfl
  ·rw [app_at a b j hj]
   exact lst_none h _
theorem up_plain {a b : List UInt8} (h : lst b = none) : up (a ++ 47 :: b) = a := by
 unfold up
 rw [lst_app, h]
 simp
theorem up_deep {a b : List UInt8} {i : Nat} (h : lst b = some i) : up (a ++ 47 :: b) = a ++ 47 :: b.take i := by
 unfold up
 rw [lst_app, h]
 simp only
 rw [show a.length + 1 + i = a.length + (i + 1) by omega, List.take_append, List.take_of_length_le (by omega)]
 simp
theorem name_nil : nameL [] = false := by
 unfold nameL nm.nameB
 rw [show decide (1 ≤ (⟨([] : List UInt8).toArray⟩ : ByteArray).size) = false from rfl]
 rfl
theorem path_head {E : Nat → En} {k j : Nat} (h : Tr E k) (hj : j < k) (r : List UInt8) : pth E j ≠ 47 :: r := fun e => by
 have := h.1 j hj
 unfold eOk pOk at this
 rw [Bool.and_eq_true] at this
 have h2 := this.1
 unfold pth at e
 rw [e, pk, if_pos rfl, name_nil] at h2
 simp at h2
theorem chd_leaf {E : Nat → En} {B : Nat → Nat} {k j : Nat} {x : List UInt8} (h : Tr E k) (hj : j < k) (hk : ¬ (E j).kind = 1) (hx : lst x = none) : chd E B k (pth E j ++ 47 :: x) = 0 := by
 refine chd_no fun i hi e => ?_
 have hu : up (pth E i) = pth E j := by rw [e]; exact up_plain hx
 have hne : pth E j ≠ [] := fun h0 => by
  rw [h0] at e
  exact path_head h hi x e
 obtain ⟨m, hm, hpm, hkm⟩ := h.2.2 i hi (by rw [hu]; exact hne)
 rw [hu] at hpm
 have := asc_one h.asc (show m < k by omega) hj hpm
 subst this
 exact hk hkm
theorem chd_dead {E : Nat → En} {B : Nat → Nat} {k : Nat} (h : Tr E k) : ∀ (n : Nat) (q r : List UInt8), r.length ≤ n → chd E B k q = 0 → chd E B k (q ++ 47 :: r) = 0 := by
 intro n
 induction n with
 | zero =>
  intro q r hr hq
  have : r = [] := List.eq_nil_of_length_eq_zero (by omega)
  subst this
  refine chd_no fun i hi e => ?_
  have hu : up (pth E i) = q := by rw [e]; exact up_plain rfl
  have hne : q ≠ [] := fun h0 => by
   rw [h0] at e
   exact path_head h hi [] e
  obtain ⟨m, hm, hpm, _⟩ := h.2.2 i hi (by rw [hu]; exact hne)
  rw [hu] at hpm
  rw [chd_yes h.asc (show m < k by omega) hpm] at hq
  cases hq
 | succ n ih =>
  intro q r hr hq
  refine chd_no fun i hi e => ?_
  have hne : q ≠ [] := fun h0 => by
   rw [h0] at e
   exact path_head h hi r e
  cases hl : lst r with
  | none =>
   have hu : up (pth E i) = q := by rw [e]; exact up_plain hl
   obtain ⟨m, hm, hpm, _⟩ := h.2.2 i hi (by rw [hu]; exact hne)
   rw [hu] at hpm
   rw [chd_yes h.asc (show m < k by omega) hpm] at hq
   cases hq
  | some t =>
   have hu : up (pth E i) = q ++ 47 :: r.take t := by rw [e]; exact up_deep hl
   obtain ⟨m, hm, hpm, _⟩ := h.2.2 i hi (by rw [hu]; simp)
   rw [hu] at hpm
   have ht : t < r.length := (List.getElem?_eq_some_iff.1 (lst_some hl).1).1
   have := ih q (r.take t) (by rw [List.length_take]; omega) hq
   rw [chd_yes h.asc (show m < k by omega) hpm] at this
   cases this
def fM (E : Nat → En) (B : Nat → Nat) (k : Nat) (pre : List UInt8) (x : List UInt8) : Nat := if lst x = none then chd E B k (pre ++ x) else 0
structure Br (w : World) (E : Nat → En) (k rb rm N : Nat) (B M : Nat → Nat) : Prop where
 root0 : w.cell? ⟨rb, 0, none⟩ = some (.int .i64 (-1))
 root1 : w.cell? ⟨rb, 1, none⟩ = some (.map (some rm))
 rootM : PM w rm N (fM E B k [])
 num : ∀ j, j < k → w.cell? ⟨B j, 0, none⟩ = some (.int .i64 (j : Int))
 dir : ∀ j, j < k → (E j).kind = 1 → w.cell? ⟨B j, 1, none⟩ = some (.map (some (M j))) ∧ PM w (M j) N (fM E B k (pth E j ++ [47]))
 leaf : ∀ j, j < k → ¬ (E j).kind = 1 → w.cell? ⟨B j, 1, none⟩ = some (.map none)
 apart : ∀ j, j < k → (E j).kind = 1 → M j ≠ rm
 inj : ∀ i j, i < k → j < k → (E i).kind = 1 → (E j).kind = 1 → M i = M j → i = j
theorem Br.below {w w' : World} {E : Nat → En} {k rb rm N : Nat} {B M : Nat → Nat} (h : Br w E k rb rm N B M) (hb : Below w.heap.size w w') : Br w' E k rb rm N B M := by
 have c : ∀ {b o : Nat} {v : Value}, w.cell? ⟨b, o, none⟩ = some v → w'.cell? ⟨b, o, none⟩ = some v := fun hc => (hb.cell (p := ⟨_, _, none⟩) (World.block_lt_of_cell? _ _ hc)).trans hc
 exact ⟨c h.root0, c h.root1, h.rootM.below hb, fun j hj => c (h.num j hj), fun j hj hk => ⟨c (h.dir j hj hk).1, (h.dir j hj hk).2.below hb⟩, fun j hj hk => c (h.leaf j hj hk), h.apart, h.inj⟩
end Go.Proofs.YthbgpfjbfkiljaaGreatDoor.tt

set_option linter.unusedVariables false
set_option linter.unusedSimpArgs false
set_option maxRecDepth 100000
set_option maxHeartbeats 16000000
namespace Go.Proofs.YthbgpfjbfkiljaaGreatDoor.tt
open Go.ChangeShapes Go.WideShapes Go.ChangeAt Go.RowKit Go.Deep Go.Maps
theorem pre_lt (a : List UInt8) (b : UInt8) (l : List UInt8) : a < a ++ b :: l := by
 induction a with
 | nil => exact List.nil_lt_cons _ _
 | cons c a ih => rw [List.cons_append]; exact List.cons_lt_cons_iff.2 (.inr ⟨rfl, ih⟩)
theorem chd_last {E : Nat → En} {B : Nat → Nat} {k : Nat} (hA : Asc E (k + 1)) (x : List UInt8) : chd E B (k + 1) (pth E k ++ 47 :: x) = 0 := chd_no fun j hj e => by
 have h1 : pth E k < pth E j := by rw [e]; exact pre_lt _ _ _
 rcases Nat.lt_or_ge j k with h | h
 ·exact List.lt_irrefl _ (List.lt_trans h1 (hA j k h (by omega)))
 ·obtain rfl : j = k := by omega
  exact List.lt_irrefl _ h1
theorem pre_form (p x : List UInt8) : p ++ [47] ++ x = p ++ 47 :: x := by simp
theorem map_cell {w : World} {b c o : Nat} {N : Nat} {f : List UInt8 → Nat} {v : Value} (h : PM w b N f) (hc : w.cell? ⟨c, o, none⟩ = some v) : c ≠ b := fun e => by
 subst e
 obtain ⟨D, ⟨es, ck, h1, _⟩, _⟩ := h
 simp [World.cell?, h1] at hc
theorem PM.congr {w : World} {b N : Nat} {f g : List UInt8 → Nat} (h : PM w b N f) (e : ∀ x, f x = g x) : PM w b N g := by
 obtain ⟨D, h1, h2⟩ := h
 exact ⟨D, h1, fun x => by rw [h2 x, e x]⟩
theorem fM_here {E : Nat → En} {B B' : Nat → Nat} {k : Nat} {pre name : List UInt8} (hA : Asc E (k + 1)) (hB : ∀ j, j < k → B' j = B j) (hp : pth E k = pre ++ name) (hn : lst name = none) (x : List UInt8) : (if x = name then B' k + 1 else fM E B k pre x) = fM E B' (k + 1) pre x := by
 unfold fM
 by_cases hx : lst x = none
 ·rw [if_pos hx, if_pos hx, chd_next hA hB, hp]
  by_cases e : x = name
  ·rw [if_pos e, if_pos (by rw [e])]
  ·rw [if_neg e, if_neg (fun h => e (List.append_cancel_left h).symm)]
 ·rw [if_neg hx, if_neg hx, if_neg (fun e => hx (by rw [e]; exact hn))]
theorem fM_else {E : Nat → En} {B B' : Nat → Nat} {k : Nat} {pre : List UInt8} (hA : Asc E (k + 1)) (hB : ∀ j, j < k → B' j = B j) (hne : ∀ x, lst x = none → pth E k ≠ pre ++ x) (x : List UInt8) : fM E B k pre x = fM E B' (k + 1) pre x := by
 unfold fM
 by_cases hx : lst x = none
 ·rw [if_pos hx, if_pos hx, chd_next hA hB, if_neg (hne x hx)]
 ·rw [if_neg hx, if_neg hx]
theorem lst_mid (a b : List UInt8) : lst (a ++ 47 :: b) ≠ none := by
 rw [lst_app]
 cases lst b <;> simp
theorem Br.next {w w' : World} {E : Nat → En} {k rb rm N : Nat} {B M : Nat → Nat} (h : Br w E k rb rm N B M) (hT : Tr E (k + 1)) (nb nm : Nat) (c0 : w.cell? ⟨nb, 0, none⟩ = some (.int .i64 (k : Int)))
  (cd : (E k).kind = 1 → w.cell? ⟨nb, 1, none⟩ = some (.map (some nm)) ∧ PM w nm 0 (fun _ => 0) ∧ nm ≠ rm ∧ ∀ j, j < k → (E j).kind = 1 → nm ≠ M j)
  (cl : ¬ (E k).kind = 1 → w.cell? ⟨nb, 1, none⟩ = some (.map none)) (mb : Nat) (pre name : List UInt8) (hp : pth E k = pre ++ name) (hn : lst name = none)
  (hmb : (pre = [] ∧ mb = rm) ∨ ∃ j, j < k ∧ (E j).kind = 1 ∧ mb = M j ∧ pre = pth E j ++ [47])
  (hg : w.grownBy w' (some mb)) (hP : PM w' mb (N + 1) (fun x => if x = name then nb + 1 else fM E B k pre x)) :
  Br w' E (k + 1) rb rm (N + 1) (fun j => if j = k then nb else B j) (fun j => if j = k then nm else M j) := by
 have hA := hT.asc
 have hB : ∀ j, j < k → (fun j => if j = k then nb else B j) j = B j := fun j hj => if_neg (by omega)
 have hBk : (fun j => if j = k then nb else B j) k = nb := if_pos rfl
 -- the map that was written
 have hPM : ∃ f, PM w mb N f := by
  rcases hmb with ⟨_, rfl⟩ | ⟨j, hj, hk, rfl, _⟩
  ·exact ⟨_, h.rootM⟩
  ·exact ⟨_, (h.dir j hj hk).2⟩
 obtain ⟨fm, hPm⟩ := hPM
 have cell : ∀ {b o : Nat} {v : Value}, w.cell? ⟨b, o, none⟩ = some v → w'.cell? ⟨b, o, none⟩ = some v := fun hc =>
  hg.cell hc (fun e => by have := Option.some.inj e; exact map_cell hPm hc this)
 have keep : ∀ {b n : Nat} {f : List UInt8 → Nat}, PM w b n f → b ≠ mb → PM w' b n f := fun hq hne => hq.kept (hg.block _ hq.lt (fun e => hne (Option.some.inj e)))
 have here : PM w' mb (N + 1) (fM E (fun j => if j = k then nb else B j) (k + 1) pre) := hP.congr fun x => by
  have := fM_here (B' := fun j => if j = k then nb else B j) hA hB hp hn x
  rw [if_pos (rfl : k = k)] at this
  exact this
 have other : ∀ {b : Nat} {q : List UInt8}, PM w b N (fM E B k q) → b ≠ mb → (∀ x, lst x = none → pth E k ≠ q ++ x) → PM w' b (N + 1) (fM E (fun j => if j = k then nb else B j) (k + 1) q) := fun hq hne hx =>
  ((keep hq hne).congr fun x => fM_else hA hB hx x).mono (by omega)
 refine ⟨cell h.root0, cell h.root1, ?_, fun j hj => ?_, fun j hj hk => ?_, fun j hj hk => ?_, fun j hj hk => ?_, fun i j hi hj hki hkj => ?_⟩
 ·rcases hmb with ⟨rfl, rfl⟩ | ⟨j, hj, hk, rfl, rfl⟩
  ·exact here
  ·refine other h.rootM (fun e => h.apart j hj hk e.symm) (fun x hx e => ?_)
   rw [hp, List.nil_append, pre_form] at e
   exact lst_mid _ _ (by rw [e]; exact hx)
 ·rcases Nat.lt_or_ge j k with h' | h'
  ·simp only [if_neg (show ¬ j = k by omega)]
   exact cell (h.num j h')
  ·obtain rfl : j = k := by omega
   simp only [if_pos rfl]
   exact cell c0
 ·rcases Nat.lt_or_ge j k with h' | h'
  ·simp only [if_neg (show ¬ j = k by omega)]
   refine ⟨cell (h.dir j h' hk).1, ?_⟩
   rcases hmb with ⟨rfl, rfl⟩ | ⟨m, hm, hkm, rfl, rfl⟩
   ·refine other (h.dir j h' hk).2 (h.apart j h' hk) (fun x hx e => ?_)
    rw [hp, List.nil_append, pre_form] at e
    exact lst_mid _ _ (by rw [← e]; exact hn)
   ·by_cases hjm : j = m
    ·subst hjm
     exact here
    ·refine other (h.dir j h' hk).2 (fun e => hjm (h.inj j m h' hm hk hkm e)) (fun x hx e => ?_)
     rw [hp, pre_form, pre_form] at e
     have e2 : up (pth E m ++ 47 :: name) = up (pth E j ++ 47 :: x) := by rw [e]
     rw [up_plain hn, up_plain hx] at e2
     exact hjm (asc_one hA (show j < k + 1 by omega) (show m < k + 1 by omega) e2.symm)
  ·obtain rfl : j = k := by omega
   simp only [if_pos rfl]
   obtain ⟨q1, q2, q3, q4⟩ := cd hk
   refine ⟨cell q1, ?_⟩
   have hne : nm ≠ mb := by
    rcases hmb with ⟨_, rfl⟩ | ⟨m, hm, hkm, rfl, _⟩
    ·exact q3
    ·exact q4 m hm hkm
   refine ((keep q2 hne).congr fun x => ?_).mono (by omega)
   unfold fM
   split
   ·rw [pre_form, chd_last hA]
   ·rfl
 ·rcases Nat.lt_or_ge j k with h' | h'
  ·simp only [if_neg (show ¬ j = k by omega)]
   exact cell (h.leaf j h' hk)
  ·obtain rfl : j = k := by omega
   simp only [if_pos rfl]
   exact cell (cl hk)
 ·rcases Nat.lt_or_ge j k with h' | h'
  ·simp only [if_neg (show ¬ j = k by omega)]
   exact h.apart j h' hk
  ·obtain rfl : j = k := by omega
   simp only [if_pos rfl]
   exact (cd hk).2.2.1
 ·intro e
  rcases Nat.lt_or_ge i k with h' | h'
  ·rcases Nat.lt_or_ge j k with h'' | h''
   ·simp only [if_neg (show ¬ i = k by omega), if_neg (show ¬ j = k by omega)] at e
    exact h.inj i j h' h'' hki hkj e
   ·obtain rfl : j = k := by omega
    simp only [if_neg (show ¬ i = j by omega), if_pos rfl] at e
    exact absurd e.symm ((cd hkj).2.2.2 i h' hki)
  ·obtain rfl : i = k := by omega
   rcases Nat.lt_or_ge j i with h'' | h''
   ·simp only [if_pos rfl, if_neg (show ¬ j = i by omega)] at e
    exact absurd e ((cd hki).2.2.2 j h'' hkj)
   ·omega
end Go.Proofs.YthbgpfjbfkiljaaGreatDoor.tt

set_option linter.unusedVariables false
set_option linter.unusedSimpArgs false
set_option maxRecDepth 100000
set_option maxHeartbeats 16000000
namespace Go.Proofs.YthbgpfjbfkiljaaGreatDoor.tt
open Go.ChangeShapes Go.WideShapes Go.ChangeAt Go.RowKit Go.Deep Go.Maps
theorem PM.put {w' : World} {b N n : Nat} {f : List UInt8 → Nat} {D : DataW Unit} {t : List UInt8} (hm : IsMap D) (h : ∀ x, D.atKey (.string x) (.lit (.int .i64 0)) = .lit (.int .i64 (f x : Int))) (h2 : w'.ownsMap Tryz.prog 9 rdP b (N + 1) (D.put (.string t) (.lit (.int .i64 (n : Int))))) : PM w' b (N + 1) (fun x => if x = t then n else f x) :=
 ⟨_, h2, put_at hm h t n⟩
theorem hold_root {w : World} {E : Nat → En} {k rb rm N : Nat} {B M : Nat → Nat} (h : Br w E k rb rm N B M) (P : ByteArray) (hP : P.size ≤ 1048576) (hl : lst P.data.toList = none) (nb : Nat) (hN : N ≤ 100000) :
  Calls Tryz.prog 142 #[.pointer (some ⟨rb, 0, none⟩), .string P, .pointer (some ⟨nb, 0, none⟩)] w fun e w' => e = .returned (.bool true) ∧ w.grownBy w' (some rm) ∧ PM w' rm (N + 1) (fun x => if x = P.data.toList then nb + 1 else fM E B k [] x) := by
 have c0 := h.root0
 have c1 := h.root1
 obtain ⟨D, d1, d2⟩ := h.rootM
 have hm : IsMap D := d1.isMap
 have HD := Lib.hid d1
 have HD2 := Lib.hid d2
 have HM : Hid (IsMap D) := hm
 have HLI : Hid (∀ W, Calls Tryz.prog 163 #[.string P, .string ⟨#[47]⟩] W fun e w' => e = .returned (.int .i64 (-1)) ∧ w' = W) := fun W => by
  have := last_any P hP W
  unfold lstI at this
  rwa [hl] at this
 have HKEY := Lib.hid (key9 P hP)
 have HVAL : Hid (rdP (.pointer (some ⟨nb, 0, none⟩)) = some (.lit (.int .i64 ((nb + 1 : Nat) : Int)), [])) := rdP_ptr (nb + 1)
 have hnm : ∀ W : World, (binOp .eql 202 (.map (some rm)) (.map none)).run Tryz.prog W = .ok (.bool false) W := fun _ => rfl
 clear h d1 d2 hm
 go_enter Tryz.func142, Tryz.ntmps142
 go_wp2_with (first
  | (go_at_call 163; refine (HLI.out _).mono ?_; rintro e w1 ⟨rfl, hw1⟩; obtain rfl := hw1.symm; clear hw1)
  | (at_mapUpdate; refine wpList_mapUpdate_own _ rfl _ _ _ 202 rfl 9 155 (string_keyed Tryz.underlying9) Tryz.underlying202 rdP rm N D rfl HD.out (by unfold maxLen; omega) _ _ (.string P.data.toList) rfl rfl HKEY.out _ [] HVAL.out ?_; intro w2 hown2 hg2)
  | go_in)
 go_ret
 exact ⟨rfl, hg2, PM.put HM.out HD2.out hown2⟩
theorem ext_take {s : ByteArray} {i : Nat} (h : i ≤ s.size) : (s.extract 0 i).data.toList = s.data.toList.take i := by rw [bytes_ext]; simp
theorem ext_drop {s : ByteArray} {i : Nat} (h : i ≤ s.size) : (s.extract i s.size).data.toList = s.data.toList.drop i := by
 have hz : s.data.toList.length = s.size := by simp
 rw [bytes_ext, List.take_of_length_le (by rw [List.length_drop, hz]; omega)]
theorem hold_dir {w : World} {E : Nat → En} {k rb rm N : Nat} {B M : Nat → Nat} (h : Br w E k rb rm N B M) (P : ByteArray) (hP : P.size ≤ 1048576) (i : Nat) (hl : lst P.data.toList = some i) (nb j : Nat) (hN : N ≤ 100000) (hj : j < k) (hk : (E j).kind = 1)
  (hat : ∀ W, Below w.heap.size w W → Calls Tryz.prog 164 #[.pointer (some ⟨rb, 0, none⟩), .string (P.extract 0 i)] W fun e w' => e = .returned (.pointer (some ⟨B j, 0, none⟩)) ∧ Below W.heap.size W w') :
  Calls Tryz.prog 142 #[.pointer (some ⟨rb, 0, none⟩), .string P, .pointer (some ⟨nb, 0, none⟩)] w fun e w' => e = .returned (.bool true) ∧ ∃ w1, Below w.heap.size w w1 ∧ w1.grownBy w' (some (M j)) ∧ PM w' (M j) (N + 1) (fun x => if x = P.data.toList.drop (i + 1) then nb + 1 else fM E B k (pth E j ++ [47]) x) := by
 have hz : P.data.toList.length = P.size := by simp
 have hi : i < P.size := by have := (List.getElem?_eq_some_iff.1 (lst_some hl).1).1; omega
 have HBR : Hid (∀ W, Below w.heap.size w W → Br W E k rb rm N B M) := fun W hb => h.below hb
 have HAT := Lib.hid hat
 have HLI : Hid (∀ W, Calls Tryz.prog 163 #[.string P, .string ⟨#[47]⟩] W fun e w' => e = .returned (.int .i64 (i : Int)) ∧ w' = W) := fun W => by
  have := last_any P hP W
  unfold lstI at this
  rwa [hl] at this
 have hi0 : (0 : Int) ≤ (i : Int) := by omega
 have hi1 : (i : Int) ≤ (P.size : Int) := by omega
 obtain ⟨t, htt⟩ : ∃ t, t = i + 1 := ⟨_, rfl⟩
 have HTT : Hid (t = i + 1) := htt
 have ht1 : (i : Int) + 1 = (t : Int) := by omega
 have ht2 : IntKind.i64.wrap ((i : Int) + 1) = (t : Int) := by rw [IntKind.wrap_i64]; omega
 have ht3 : IntKind.i64.wrap (t : Int) = (t : Int) := by rw [IntKind.wrap_i64]; omega
 have ht4 : (t : Int) ≤ (P.size : Int) := by omega
 have ht5 : (0 : Int) ≤ (t : Int) := by omega
 have HKEY : Hid (keyOf Tryz.prog 9 (.string (P.extract t P.size)) = some (.string (P.data.toList.drop (i + 1)))) := by
  show _ = _
  rw [key9 _ (by simp; omega), ext_drop (by omega), htt]
 have HVAL : Hid (rdP (.pointer (some ⟨nb, 0, none⟩)) = some (.lit (.int .i64 ((nb + 1 : Nat) : Int)), [])) := rdP_ptr (nb + 1)
 have hnm : ∀ W : World, (binOp .eql 202 (.map (some (M j))) (.map none)).run Tryz.prog W = .ok (.bool false) W := fun _ => rfl
 clear h hat hl hz htt
 go_enter Tryz.func142, Tryz.ntmps142
 go_wp2_with (go_at_call 163; refine (HLI.out _).mono ?_; rintro e w1 ⟨rfl, hw1⟩; obtain rfl := hw1.symm; clear hw1)
 go_region_held3 (fun _ => True)
  (trivial)
  (((go_at_call 164; refine (HAT.out _ (Below.refl _ _).drew).mono ?_; rintro e w2 ⟨rfl, hl2⟩; have hb2 : Below w.heap.size w w2 := (Below.refl w.heap.size w).drew.trans (hl2.mono (Nat.le_refl _)))))
 have hBR := HBR.out w2 hb2
 have c1 := (hBR.dir j hj hk).1
 obtain ⟨D, d1, d2⟩ := (hBR.dir j hj hk).2
 have HD := Lib.hid d1
 have HD2 := Lib.hid d2
 have HM : Hid (IsMap D) := d1.isMap
 clear d1 d2 hBR
 go_wp2_with (first
  | (at_mapUpdate; refine wpList_mapUpdate_own _ rfl _ _ _ 202 rfl 9 155 (string_keyed Tryz.underlying9) Tryz.underlying202 rdP (M j) N D rfl HD.out (by unfold maxLen; omega) _ _ (.string (P.data.toList.drop (i + 1))) rfl rfl HKEY.out _ [] HVAL.out ?_; intro w3 hown3 hg3)
  | go_in)
 go_ret
 exact ⟨rfl, w2, hb2, hg3, PM.put HM.out HD2.out hown3⟩
theorem hold_leaf {w : World} {E : Nat → En} {k rb rm N : Nat} {B M : Nat → Nat} (h : Br w E k rb rm N B M) (P : ByteArray) (hP : P.size ≤ 1048576) (i : Nat) (hl : lst P.data.toList = some i) (nb j : Nat) (hj : j < k) (hk : ¬ (E j).kind = 1)
  (hat : ∀ W, Below w.heap.size w W → Calls Tryz.prog 164 #[.pointer (some ⟨rb, 0, none⟩), .string (P.extract 0 i)] W fun e w' => e = .returned (.pointer (some ⟨B j, 0, none⟩)) ∧ Below W.heap.size W w') :
  Calls Tryz.prog 142 #[.pointer (some ⟨rb, 0, none⟩), .string P, .pointer (some ⟨nb, 0, none⟩)] w fun e w' => e = .returned (.bool false) ∧ Below w.heap.size w w' := by
 have hz : P.data.toList.length = P.size := by simp
 have hi : i < P.size := by have := (List.getElem?_eq_some_iff.1 (lst_some hl).1).1; omega
 have HBR : Hid (∀ W, Below w.heap.size w W → Br W E k rb rm N B M) := fun W hb => h.below hb
 have HAT := Lib.hid hat
 have HLI : Hid (∀ W, Calls Tryz.prog 163 #[.string P, .string ⟨#[47]⟩] W fun e w' => e = .returned (.int .i64 (i : Int)) ∧ w' = W) := fun W => by
  have := last_any P hP W
  unfold lstI at this
  rwa [hl] at this
 have hi0 : (0 : Int) ≤ (i : Int) := by omega
 have hi1 : (i : Int) ≤ (P.size : Int) := by omega
 obtain ⟨t, htt⟩ : ∃ t, t = i + 1 := ⟨_, rfl⟩
 have HTT : Hid (t = i + 1) := htt
 have ht1 : (i : Int) + 1 = (t : Int) := by omega
 have ht2 : IntKind.i64.wrap ((i : Int) + 1) = (t : Int) := by rw [IntKind.wrap_i64]; omega
 have ht3 : IntKind.i64.wrap (t : Int) = (t : Int) := by rw [IntKind.wrap_i64]; omega
 have ht4 : (t : Int) ≤ (P.size : Int) := by omega
 have ht5 : (0 : Int) ≤ (t : Int) := by omega
 have hnm : ∀ W : World, (binOp .eql 202 (.map none) (.map none)).run Tryz.prog W = .ok (.bool true) W := fun _ => rfl
 clear h hat hl hz htt
 go_enter Tryz.func142, Tryz.ntmps142
 go_wp2_with (go_at_call 163; refine (HLI.out _).mono ?_; rintro e w1 ⟨rfl, hw1⟩; obtain rfl := hw1.symm; clear hw1)
 go_region_held3 (fun _ => True)
  (trivial)
  (((go_at_call 164; refine (HAT.out _ (Below.refl _ _).drew).mono ?_; rintro e w2 ⟨rfl, hl2⟩; have hb2 : Below w.heap.size w w2 := (Below.refl w.heap.size w).drew.trans (hl2.mono (Nat.le_refl _)))))
 have c1 := (HBR.out w2 hb2).leaf j hj hk
 go_wp2_with fail
 go_ret
 exact ⟨rfl, hb2⟩
theorem hold_none {w : World} {rb : Nat} (P : ByteArray) (hP : P.size ≤ 1048576) (i : Nat) (hl : lst P.data.toList = some i) (nb : Nat)
  (hat : ∀ W, Below w.heap.size w W → Calls Tryz.prog 164 #[.pointer (some ⟨rb, 0, none⟩), .string (P.extract 0 i)] W fun e w' => e = .returned (.pointer none) ∧ Below W.heap.size W w') :
  Calls Tryz.prog 142 #[.pointer (some ⟨rb, 0, none⟩), .string P, .pointer (some ⟨nb, 0, none⟩)] w fun e w' => e = .returned (.bool false) ∧ Below w.heap.size w w' := by
 have hz : P.data.toList.length = P.size := by simp
 have hi : i < P.size := by have := (List.getElem?_eq_some_iff.1 (lst_some hl).1).1; omega
 have HAT := Lib.hid hat
 have HLI : Hid (∀ W, Calls Tryz.prog 163 #[.string P, .string ⟨#[47]⟩] W fun e w' => e = .returned (.int .i64 (i : Int)) ∧ w' = W) := fun W => by
  have := last_any P hP W
  unfold lstI at this
  rwa [hl] at this
 have hi0 : (0 : Int) ≤ (i : Int) := by omega
 have hi1 : (i : Int) ≤ (P.size : Int) := by omega
 obtain ⟨t, htt⟩ : ∃ t, t = i + 1 := ⟨_, rfl⟩
 have HTT : Hid (t = i + 1) := htt
 have ht1 : (i : Int) + 1 = (t : Int) := by omega
 have ht2 : IntKind.i64.wrap ((i : Int) + 1) = (t : Int) := by rw [IntKind.wrap_i64]; omega
 have ht3 : IntKind.i64.wrap (t : Int) = (t : Int) := by rw [IntKind.wrap_i64]; omega
 have ht4 : (t : Int) ≤ (P.size : Int) := by omega
 have ht5 : (0 : Int) ≤ (t : Int) := by omega
 clear hat hl hz htt
 go_enter Tryz.func142, Tryz.ntmps142
 go_wp2_with (go_at_call 163; refine (HLI.out _).mono ?_; rintro e w1 ⟨rfl, hw1⟩; obtain rfl := hw1.symm; clear hw1)
 go_region_held3 (fun _ => True)
  (trivial)
  (((go_at_call 164; refine (HAT.out _ (Below.refl _ _).drew).mono ?_; rintro e w2 ⟨rfl, hl2⟩; have hb2 : Below w.heap.size w w2 := (Below.refl w.heap.size w).drew.trans (hl2.mono (Nat.le_refl _)))))
 go_wp2_with fail
 go_ret
 exact ⟨rfl, hb2⟩
end Go.Proofs.YthbgpfjbfkiljaaGreatDoor.tt

set_option linter.unusedVariables false
set_option linter.unusedSimpArgs false
set_option maxRecDepth 100000
set_option maxHeartbeats 16000000
namespace Go.Proofs.YthbgpfjbfkiljaaGreatDoor.tt
open Go.ChangeShapes Go.WideShapes Go.ChangeAt Go.RowKit Go.Deep
theorem less_any (p d p' d' : ByteArray) (k k' : Int) (x x' : Bool) (w : World) :
  Calls Tryz.prog 138 #[.agg #[.string p, .int .i64 k, .string d, .bool x], .agg #[.string p', .int .i64 k', .string d', .bool x']] w fun e w' => e = .returned (.bool (Op.bytesLess p.toList p'.toList)) ∧ Below w.heap.size w w' := by
 obtain ⟨r, hr⟩ : ∃ r, Op.bytesLess p.toList p'.toList = r := ⟨_, rfl⟩
 go_enter Tryz.func138, Tryz.ntmps138
 go_wp2
 go_ret
 exact ⟨by first | rfl | simp [hr], ((Below.refl _ _).alloc (Nat.le_refl _) _).alloc (by simp) _⟩
def Adj (E : Nat → En) (n : Nat) : Prop := ∀ i, i + 1 < n → pth E i < pth E (i + 1)
noncomputable def adjB (E : Nat → En) (n : Nat) : Bool := @decide (Adj E n) (Classical.propDecidable _)
theorem adjB_yes {E : Nat → En} {n : Nat} (h : Adj E n) : adjB E n = true := by unfold adjB; exact @decide_eq_true _ (Classical.propDecidable _) h
theorem adjB_no {E : Nat → En} {n : Nat} (h : ¬ Adj E n) : adjB E n = false := by unfold adjB; exact @decide_eq_false _ (Classical.propDecidable _) h
theorem adjB_iff {E : Nat → En} {n : Nat} : adjB E n = true ↔ Adj E n := by unfold adjB; exact @decide_eq_true_iff _ (Classical.propDecidable _)
theorem asc_any (E : Nat → En) (b o n cap : Nat) (w : World) (hR : EnR w b o n E) (hn : n ≤ 1048576) :
  Calls Tryz.prog 137 #[.slice (some ⟨b, o, none⟩) n cap, .func (.func 138) #[] #[]] w fun e w' => e = .returned (.bool (adjB E n)) ∧ Below w.heap.size w w' := by
 have HER : Hid (EnR w b o n E) := hR
 clear hR
 go_enter Tryz.func137, Tryz.ntmps137
 go_wp2
 go_loopw [5, 8] (fun _ x wr => ∃ i : Nat, i ≤ n ∧ x = .int .i64 (i : Int) ∧ Adj E i ∧ Below w.heap.size w wr) (fun _ x _ => n - (intOf x).toNat)
 case atStart => exact ⟨0, Nat.zero_le _, rfl, fun i h => by omega, Below.refl _ _⟩
 case round =>
  obtain ⟨i, hi, rfl, hadj, hbel⟩ := hrel
  have HAD : Hid (Adj E i) := hadj
  have HBE : Hid (Below w.heap.size w wr) := hbel
  clear hadj
  by_cases hil : i < n
  ·have hil' : (i : Int) < (n : Int) := by omega
   have hi0 : (0 : Int) ≤ (i : Int) := by omega
   by_cases hi1 : 0 < i
   ·have hi1' : (0 : Int) < (i : Int) := by omega
    obtain ⟨K, hKk⟩ : ∃ K, i = K + 1 := ⟨i - 1, by omega⟩
    have HKk : Hid (i = K + 1) := hKk
    have hK1 : (i : Int) - 1 = (K : Int) := by omega
    have hK2 : (K : Int) < (n : Int) := by omega
    have hK0 : (0 : Int) ≤ (K : Int) := by omega
    have hK3 : IntKind.i64.wrap ((i : Int) - 1) = (K : Int) := by rw [IntKind.wrap_i64]; omega
    have hK4 : IntKind.i64.wrap (K : Int) = (K : Int) := by rw [IntKind.wrap_i64]; omega
    obtain ⟨P, hP⟩ : ∃ P, (E i).path = P := ⟨_, rfl⟩
    obtain ⟨kP, hkP⟩ : ∃ k, (E i).kind = k := ⟨_, rfl⟩
    obtain ⟨dP, hdP⟩ : ∃ d, (E i).data = d := ⟨_, rfl⟩
    obtain ⟨xP, hxP⟩ : ∃ x, (E i).exec = x := ⟨_, rfl⟩
    obtain ⟨M, hM⟩ : ∃ P, (E K).path = P := ⟨_, rfl⟩
    obtain ⟨kM, hkM⟩ : ∃ k, (E K).kind = k := ⟨_, rfl⟩
    obtain ⟨dM, hdM⟩ : ∃ d, (E K).data = d := ⟨_, rfl⟩
    obtain ⟨xM, hxM⟩ : ∃ x, (E K).exec = x := ⟨_, rfl⟩
    have HCC : Hid (∀ w' : World, Below w.heap.size w w' → (w'.cell? ⟨b, o + K * 4, none⟩ = some (.string M) ∧ w'.cell? ⟨b, o + K * 4 + 1, none⟩ = some (.int .i64 kM) ∧ w'.cell? ⟨b, o + K * 4 + 2, none⟩ = some (.string dM) ∧ w'.cell? ⟨b, o + K * 4 + 3, none⟩ = some (.bool xM)) ∧ w'.cell? ⟨b, o + i * 4, none⟩ = some (.string P) ∧ w'.cell? ⟨b, o + i * 4 + 1, none⟩ = some (.int .i64 kP) ∧ w'.cell? ⟨b, o + i * 4 + 2, none⟩ = some (.string dP) ∧ w'.cell? ⟨b, o + i * 4 + 3, none⟩ = some (.bool xP)) := fun w' hb => by
     have h1 := (HER.out K (by omega)).below hb
     have h2 := (HER.out i hil).below hb
     unfold N4 at h1 h2
     rw [hM, hkM, hdM, hxM] at h1
     rw [hP, hkP, hdP, hxP] at h2
     exact ⟨h1, h2⟩
    have HPI : Hid (pth E i = P.data.toList) := by show _ = _; unfold pth; rw [hP]
    have HPK : Hid (pth E K = M.data.toList) := by show _ = _; unfold pth; rw [hM]
    have HLE : Hid (∀ W, Calls Tryz.prog 138 #[.agg #[.string M, .int .i64 kM, .string dM, .bool xM], .agg #[.string P, .int .i64 kP, .string dP, .bool xP]] W fun e w' => e = .returned (.bool (Op.bytesLess M.toList P.toList)) ∧ Below W.heap.size W w') := fun W => less_any _ _ _ _ _ _ _ _ W
    clear hP hkP hdP hxP hM hkM hdM hxM hKk hbel
    cases hbl : Op.bytesLess M.toList P.toList with
    | true =>
     rw [hbl] at HLE
     have HN : Hid (Adj E (i + 1)) := fun j hj => by
      rcases Nat.lt_or_ge (j + 1) i with h | h
      ·exact HAD.out j h
      ·obtain rfl : j = K := by have := HKk.out; omega
       rw [show j + 1 = i from HKk.out.symm, HPI.out, HPK.out]
       have := bl M P
       rw [hbl] at this
       simpa using this.symm
     clear hbl
     go_wp2_with fail
     refine wq 16 (S := fun w' => (w'.cell? ⟨b, o + K * 4, none⟩ = some (.string M) ∧ w'.cell? ⟨b, o + K * 4 + 1, none⟩ = some (.int .i64 kM) ∧ w'.cell? ⟨b, o + K * 4 + 2, none⟩ = some (.string dM) ∧ w'.cell? ⟨b, o + K * 4 + 3, none⟩ = some (.bool xM)) ∧ w'.cell? ⟨b, o + i * 4, none⟩ = some (.string P) ∧ w'.cell? ⟨b, o + i * 4 + 1, none⟩ = some (.int .i64 kP) ∧ w'.cell? ⟨b, o + i * 4 + 2, none⟩ = some (.string dP) ∧ w'.cell? ⟨b, o + i * 4 + 3, none⟩ = some (.bool xP)) (by kernel_rfl) (HCC.out _ HBE.out.drew) fun hHeld => ?_
     iterate 13 (refine un 16 rfl ?_;try simp only [aP])
     refine rq 13 rfl fun K hK => ?_
     go_simp
     (go_at_call 138; refine (HLE.out _).mono ?_; rintro e w2 ⟨rfl, hl2⟩; have hb2 : Below w.heap.size w w2 := HBE.out.drew.trans (hl2.mono HBE.out.size))
     try go_wp2_with fail
     refine hK.out _ _ (HCC.out _ hb2) (fun hHeld => ?_)
     clear hK K
     try simp only [aP]
     iterate 2 (refine un 16 rfl ?_;try simp only [aP])
     refine dq ?_
     go_wp2_with fail
     go_roundw
     case rel => exact ⟨i + 1, by omega, by go_num, HN.out, hb2⟩
     case measure => simp [intOf] <;> omega
    | false =>
     rw [hbl] at HLE
     have HF : Hid (¬ Adj E n) := fun h => by
      have h2 := h K (by have := HKk.out; omega)
      rw [show K + 1 = i from HKk.out.symm, HPK.out, HPI.out] at h2
      have := bl M P
      rw [hbl] at this
      simp at this
      exact absurd h2 (List.not_lt.2 this)
     clear hbl
     go_wp2_with fail
     refine wq 16 (S := fun w' => (w'.cell? ⟨b, o + K * 4, none⟩ = some (.string M) ∧ w'.cell? ⟨b, o + K * 4 + 1, none⟩ = some (.int .i64 kM) ∧ w'.cell? ⟨b, o + K * 4 + 2, none⟩ = some (.string dM) ∧ w'.cell? ⟨b, o + K * 4 + 3, none⟩ = some (.bool xM)) ∧ w'.cell? ⟨b, o + i * 4, none⟩ = some (.string P) ∧ w'.cell? ⟨b, o + i * 4 + 1, none⟩ = some (.int .i64 kP) ∧ w'.cell? ⟨b, o + i * 4 + 2, none⟩ = some (.string dP) ∧ w'.cell? ⟨b, o + i * 4 + 3, none⟩ = some (.bool xP)) (by kernel_rfl) (HCC.out _ HBE.out.drew) fun hHeld => ?_
     iterate 13 (refine un 16 rfl ?_;try simp only [aP])
     refine rq 13 rfl fun K hK => ?_
     go_simp
     (go_at_call 138; refine (HLE.out _).mono ?_; rintro e w2 ⟨rfl, hl2⟩; have hb2 : Below w.heap.size w w2 := HBE.out.drew.trans (hl2.mono HBE.out.size))
     try go_wp2_with fail
     refine hK.out _ _ (HCC.out _ hb2) (fun hHeld => ?_)
     clear hK K
     try simp only [aP]
     iterate 2 (refine un 16 rfl ?_;try simp only [aP])
     refine dq ?_
     go_wp2_with fail
     go_ret
     exact ⟨by rw [adjB_no HF.out]; first | done | rfl, hb2⟩
   ·have hi1' : ¬ (0 : Int) < (i : Int) := by omega
    have HN : Hid (Adj E (i + 1)) := fun j hj => by omega
    clear hbel
    go_wp2_with fail
    refine wq 16 (S := fun _ => True) (by kernel_rfl) (trivial) fun hHeld => ?_
    iterate 16 ((first|refine sn 16 rfl ?_|refine un 16 rfl ?_);try simp only [aP])
    refine dq ?_
    go_wp2_with fail
    go_roundw
    case rel => exact ⟨i + 1, by omega, by go_num, HN.out, HBE.out.drew⟩
    case measure => simp [intOf] <;> omega
  ·have hil' : ¬ (i : Int) < (n : Int) := by omega
   obtain rfl : i = n := by omega
   clear hbel
   go_wp2
   go_ret
   exact ⟨by rw [adjB_yes HAD.out]; first | done | rfl, HBE.out⟩
end Go.Proofs.YthbgpfjbfkiljaaGreatDoor.tt

set_option linter.unusedVariables false
set_option linter.unusedSimpArgs false
set_option maxRecDepth 100000
set_option maxHeartbeats 16000000
namespace Go.Proofs.YthbgpfjbfkiljaaGreatDoor.tt
open Go.ChangeShapes Go.WideShapes Go.ChangeAt Go.RowKit Go.Deep Go.Maps
def AtC (E : Nat → En) : Prop := ∀ (W : World) (k rb rm N : Nat) (B M : Nat → Nat), Br W E k rb rm N B M → Tr E k → ML W → ∀ U : ByteArray, U.size ≤ 1048576 → Calls Tryz.prog 164 #[.pointer (some ⟨rb, 0, none⟩), .string U] W fun e w' => e = .returned (ptr (chd E B k U.data.toList)) ∧ Below W.heap.size W w'
theorem lst_zero {s : ByteArray} (h : pOk s = true) : lst s.data.toList ≠ some 0 := fun e => by
 have h1 := (lst_some e).1
 unfold pOk at h
 cases hl : s.data.toList with
 | nil => rw [hl] at h1; simp at h1
 | cons b l =>
  rw [hl] at h1 h
  have hb : b = 47 := by simpa using h1
  rw [pk, if_pos hb, name_nil] at h
  simp at h
def Wants (E : Nat → En) (k : Nat) (p : List UInt8) : Prop := up p ≠ [] → Dir E k (up p)
def Put (w w' : World) (E : Nat → En) (k rm N : Nat) (B M : Nat → Nat) (p : List UInt8) (nb : Nat) : Prop := ∃ w1 mb pre name, Below w.heap.size w w1 ∧ w1.grownBy w' (some mb) ∧ p = pre ++ name ∧ lst name = none ∧ ((pre = [] ∧ mb = rm) ∨ ∃ j, j < k ∧ (E j).kind = 1 ∧ mb = M j ∧ pre = pth E j ++ [47]) ∧ PM w' mb (N + 1) (fun x => if x = name then nb + 1 else fM E B k pre x)
theorem cut_at {l : List UInt8} {i : Nat} (h : lst l = some i) : l = (l.take i ++ [47]) ++ l.drop (i + 1) ∧ lst (l.drop (i + 1)) = none := by
 obtain ⟨h1, h2⟩ := lst_some h
 obtain ⟨hlt, he⟩ := List.getElem?_eq_some_iff.1 h1
 constructor
 ·have := List.take_append_drop i l
  rw [List.drop_eq_getElem_cons hlt, he] at this
  rw [List.append_assoc]
  exact this.symm
 ·refine lst_no fun j e => ?_
  rw [List.getElem?_drop] at e
  exact h2 (i + 1 + j) (by omega) e
theorem up_some {l : List UInt8} {i : Nat} (h : lst l = some i) : up l = l.take i := by unfold up; rw [h]
theorem up_none {l : List UInt8} (h : lst l = none) : up l = [] := by unfold up; rw [h]
theorem take_ne {l : List UInt8} {i : Nat} (h : lst l = some i) (h0 : i ≠ 0) : l.take i ≠ [] := fun e => by
 have := congrArg List.length e
 have hlt := (List.getElem?_eq_some_iff.1 (lst_some h).1).1
 rw [List.length_take, List.length_nil] at this
 omega
theorem hold_yes {w : World} {E : Nat → En} {k rb rm N : Nat} {B M : Nat → Nat} (h : Br w E k rb rm N B M) (hT : Tr E k) (hm : ML w) (hC : AtC E) (P : ByteArray) (hP : P.size ≤ 1048576) (hpk : pOk P = true) (nb : Nat) (hN : N ≤ 100000) (hw : Wants E k P.data.toList) :
  Calls Tryz.prog 142 #[.pointer (some ⟨rb, 0, none⟩), .string P, .pointer (some ⟨nb, 0, none⟩)] w fun e w' => e = .returned (.bool true) ∧ Put w w' E k rm N B M P.data.toList nb := by
 cases hl : lst P.data.toList with
 | none =>
  refine (hold_root h P hP hl nb hN).mono ?_
  rintro e w' ⟨rfl, hg, hp⟩
  exact ⟨rfl, w, rm, [], P.data.toList, Below.refl _ _, hg, rfl, hl, .inl ⟨rfl, rfl⟩, hp⟩
 | some i =>
  have hi0 : i ≠ 0 := fun e => by subst e; exact lst_zero hpk hl
  have hz : P.data.toList.length = P.size := by simp
  have hi : i < P.size := by have := (List.getElem?_eq_some_iff.1 (lst_some hl).1).1; omega
  obtain ⟨j, hj, hpj, hk⟩ := hw (by rw [up_some hl]; exact take_ne hl hi0)
  rw [up_some hl] at hpj
  have hat : ∀ W, Below w.heap.size w W → Calls Tryz.prog 164 #[.pointer (some ⟨rb, 0, none⟩), .string (P.extract 0 i)] W fun e w' => e = .returned (.pointer (some ⟨B j, 0, none⟩)) ∧ Below W.heap.size W w' := fun W hb => by
   have := hC W k rb rm N B M (h.below hb) hT (hm.below hb) (P.extract 0 i) (by simp; omega)
   rw [ext_take (by omega), chd_yes hT.asc hj hpj] at this
   exact this
  refine (hold_dir h P hP i hl nb j hN hj hk hat).mono ?_
  rintro e w' ⟨rfl, w1, hb1, hg, hp⟩
  obtain ⟨c1, c2⟩ := cut_at hl
  exact ⟨rfl, w1, M j, pth E j ++ [47], P.data.toList.drop (i + 1), hb1, hg, by rw [hpj]; exact c1, c2, .inr ⟨j, hj, hk, rfl, rfl⟩, hp⟩
theorem hold_not {w : World} {E : Nat → En} {k rb rm N : Nat} {B M : Nat → Nat} (h : Br w E k rb rm N B M) (hT : Tr E k) (hm : ML w) (hC : AtC E) (P : ByteArray) (hP : P.size ≤ 1048576) (nb : Nat) (hw : ¬ Wants E k P.data.toList) :
  Calls Tryz.prog 142 #[.pointer (some ⟨rb, 0, none⟩), .string P, .pointer (some ⟨nb, 0, none⟩)] w fun e w' => e = .returned (.bool false) ∧ Below w.heap.size w w' := by
 have hne : up P.data.toList ≠ [] := fun e => hw (fun h => absurd e h)
 have hnd : ¬ Dir E k (up P.data.toList) := fun e => hw (fun _ => e)
 cases hl : lst P.data.toList with
 | none => exact absurd (up_none hl) hne
 | some i =>
  have hz : P.data.toList.length = P.size := by simp
  have hi : i < P.size := by have := (List.getElem?_eq_some_iff.1 (lst_some hl).1).1; omega
  rw [up_some hl] at hnd
  have hat : ∀ W, Below w.heap.size w W → Calls Tryz.prog 164 #[.pointer (some ⟨rb, 0, none⟩), .string (P.extract 0 i)] W fun e w' => e = .returned (ptr (chd E B k (P.data.toList.take i))) ∧ Below W.heap.size W w' := fun W hb => by
   have := hC W k rb rm N B M (h.below hb) hT (hm.below hb) (P.extract 0 i) (by simp; omega)
   rwa [ext_take (by omega)] at this
  rcases chd_cases E B k (P.data.toList.take i) with ⟨j, hj, hpj, e⟩ | ⟨_, e⟩
  ·rw [e] at hat
   exact hold_leaf h P hP i hl nb j hj (fun hk => hnd ⟨j, hj, hpj, hk⟩) hat
  ·rw [e] at hat
   exact hold_none P hP i hl nb hat
theorem new_any (num k : Int) (w : World) :
  Calls Tryz.prog 139 #[.int .i64 num, .int .i64 k] w fun e w' => e = .returned (.pointer (some ⟨w.heap.size, 0, none⟩)) ∧ w'.cell? ⟨w.heap.size, 0, none⟩ = some (.int .i64 num) ∧ (k = 1 → w'.cell? ⟨w.heap.size, 1, none⟩ = some (.map (some (w.heap.size + 1))) ∧ PM w' (w.heap.size + 1) 0 (fun _ => 0)) ∧ (¬ k = 1 → w'.cell? ⟨w.heap.size, 1, none⟩ = some (.map none)) ∧ Below w.heap.size w w' := by
 by_cases hk : k = 1
 ·subst hk
  refine (new_dir num w).mono ?_
  rintro e w' ⟨rfl, h1, h2, h3, _, h5⟩
  exact ⟨rfl, h1, fun _ => ⟨h2, h3⟩, fun h => absurd rfl h, h5⟩
 ·refine (new_leaf num k hk w).mono ?_
  rintro e w' ⟨rfl, h1, h2, _, h5⟩
  exact ⟨rfl, h1, fun h => absurd h hk, fun _ => h2, h5⟩
end Go.Proofs.YthbgpfjbfkiljaaGreatDoor.tt
