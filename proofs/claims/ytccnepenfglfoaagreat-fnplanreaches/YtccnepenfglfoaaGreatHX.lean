import Derived.Test.YtccnepenfglfoaaGreatRows
import Derived.Test.YtccnepenfglfoaaGreatFD
import Derived.Test.YtccnepenfglfoaaGreatLQ
import Derived.Lib.Hide
import Derived.Deep.Cut
import Derived.Deep.CutBlock
import Derived.Deep.CutRange
import Derived.Deep.LoopGhost
namespace Go.Proofs.YtccnepenfglfoaaGreat.hp
set_option linter.unusedVariables false

/-! ### Heaps of numbers, plainly -/

def gt (l : List Nat) (k : Nat) : Nat := l.getD k 0
def swp (l : List Nat) (i j : Nat) : List Nat := (l.set i (gt l j)).set j (gt l i)
theorem gt_eq {l : List Nat} {k : Nat} (h : k < l.length) : gt l k = l[k] := by simp [gt, h]
theorem gt_some {l : List Nat} {k : Nat} (h : k < l.length) : l[k]? = some (gt l k) := by simp [gt, h]
theorem swp_len (l : List Nat) (i j : Nat) : (swp l i j).length = l.length := by simp [swp]
theorem swp_gt {l : List Nat} {i j : Nat} (hi : i < l.length) (hj : j < l.length) (k : Nat) : gt (swp l i j) k = if k = j then gt l i else if k = i then gt l j else gt l k := by
  unfold swp
  simp only [gt, List.getD_eq_getElem?_getD, List.getElem?_set, List.length_set]
  by_cases h1 : k = j
  · subst h1; simp [hj]
  · by_cases h2 : k = i
    · subst h2; simp [hi, h1, Ne.symm h1]
    · simp [h1, h2, Ne.symm h1, Ne.symm h2]
theorem swp_perm {l : List Nat} {i j : Nat} (hi : i < l.length) (hj : j < l.length) : (swp l i j).Perm l := by
  have h := Array.swap_perm (xs := l.toArray) (i := i) (j := j) (by simpa using hi) (by simpa using hj)
  have h2 := Array.perm_iff_toList_perm.1 h
  have e : (l.toArray.swap i j (by simpa using hi) (by simpa using hj)).toList = swp l i j := by
    simp [Array.swap_def, swp, gt, hi, hj]
  rw [e] at h2
  exact h2

def Hp (l : List Nat) : Prop := ∀ k, 0 < k → k < l.length → gt l ((k - 1) / 2) ≤ gt l k
theorem Hp.nil : Hp [] := fun k _ h => by simp at h
theorem Hp.min {l : List Nat} (h : Hp l) : ∀ k, k < l.length → gt l 0 ≤ gt l k := by
  intro k
  induction k using Nat.strongRecOn with
  | _ k ih =>
    intro hk
    by_cases h0 : k = 0
    · subst h0; exact Nat.le_refl _
    · exact Nat.le_trans (ih ((k - 1) / 2) (by omega) (by omega)) (h k (by omega) hk)

structure Up (l : List Nat) (p : Nat) : Prop where
  lt : p < l.length
  oth : ∀ k, 0 < k → k < l.length → k ≠ p → gt l ((k - 1) / 2) ≤ gt l k
  grd : ∀ k, 0 < k → k < l.length → (k - 1) / 2 = p → 0 < p → gt l ((p - 1) / 2) ≤ gt l k
theorem Up.done {l : List Nat} {p : Nat} (h : Up l p) (hp : p = 0 ∨ gt l ((p - 1) / 2) ≤ gt l p) : Hp l := fun k h0 hk => by
  by_cases e : k = p
  · subst e
    rcases hp with h1 | h1
    · omega
    · exact h1
  · exact h.oth k h0 hk e
theorem Up.step {l : List Nat} {p : Nat} (h : Up l p) (hp : 0 < p) (hlt : gt l p < gt l ((p - 1) / 2)) : Up (swp l p ((p - 1) / 2)) ((p - 1) / 2) := by
  have hl := h.lt
  have hq : (p - 1) / 2 < l.length := by omega
  refine ⟨by rw [swp_len]; exact hq, fun k h0 hk hne => ?_, fun k h0 hk he h1 => ?_⟩
  · rw [swp_len] at hk
    rw [swp_gt hl hq, swp_gt hl hq]
    by_cases e1 : k = p
    · subst e1
      simp only [if_pos, if_neg hne]
      omega
    · simp only [if_neg hne, if_neg e1]
      by_cases e2 : (k - 1) / 2 = (p - 1) / 2
      · simp only [if_pos e2]
        have := h.oth k h0 hk e1
        rw [e2] at this
        omega
      · simp only [if_neg e2]
        by_cases e3 : (k - 1) / 2 = p
        · simp only [if_pos e3]
          exact h.grd k h0 hk e3 hp
        · simp only [if_neg e3]
          exact h.oth k h0 hk e1
  · rw [swp_len] at hk
    rw [swp_gt hl hq, swp_gt hl hq]
    have a1 : ¬ ((p - 1) / 2 - 1) / 2 = (p - 1) / 2 := by omega
    have a2 : ¬ ((p - 1) / 2 - 1) / 2 = p := by omega
    have hg := h.oth ((p - 1) / 2) h1 hq (by omega)
    simp only [if_neg a1, if_neg a2]
    have a3 : ¬ k = (p - 1) / 2 := by omega
    simp only [if_neg a3]
    by_cases e1 : k = p
    · simp only [if_pos e1]; exact hg
    · simp only [if_neg e1]
      have := h.oth k h0 hk e1
      rw [he] at this
      omega
theorem gt_app {l m : List Nat} {k : Nat} (h : k < l.length) : gt (l ++ m) k = gt l k := by simp [gt, List.getElem?_append_left h]
theorem Up.init {l : List Nat} (h : Hp l) (x : Nat) : Up (l ++ [x]) l.length := by
  refine ⟨by simp, fun k h0 hk hne => ?_, fun k h0 hk he h1 => ?_⟩
  · have hk' : k < l.length := by simp at hk; omega
    rw [gt_app hk', gt_app (by omega)]
    exact h k h0 hk'
  · simp at hk; omega

structure Dn (l : List Nat) (p : Nat) : Prop where
  oth : ∀ k, 0 < k → k < l.length → (k - 1) / 2 ≠ p → gt l ((k - 1) / 2) ≤ gt l k
  grd : ∀ k, 0 < k → k < l.length → (k - 1) / 2 = p → 0 < p → gt l ((p - 1) / 2) ≤ gt l k
theorem Dn.done {l : List Nat} {p : Nat} (h : Dn l p) (h1 : 2 * p + 1 < l.length → gt l p ≤ gt l (2 * p + 1)) (h2 : 2 * p + 2 < l.length → gt l p ≤ gt l (2 * p + 2)) : Hp l := fun k h0 hk => by
  by_cases e : (k - 1) / 2 = p
  · rw [e]
    rcases (show k = 2 * p + 1 ∨ k = 2 * p + 2 by omega) with rfl | rfl
    · exact h1 hk
    · exact h2 hk
  · exact h.oth k h0 hk e
theorem Dn.step {l : List Nat} {p c : Nat} (h : Dn l p) (hc : c < l.length) (hp : (c - 1) / 2 = p) (h0 : 0 < c) (hlt : gt l c < gt l p) (hle : ∀ k, 0 < k → k < l.length → (k - 1) / 2 = p → gt l c ≤ gt l k) : Dn (swp l p c) c := by
  have hl : p < l.length := by omega
  refine ⟨fun k k0 hk hne => ?_, fun k k0 hk he h1 => ?_⟩
  · rw [swp_len] at hk
    rw [swp_gt hl hc, swp_gt hl hc]
    simp only [if_neg hne]
    by_cases e1 : (k - 1) / 2 = p
    · simp only [if_pos e1]
      by_cases e2 : k = c
      · simp only [if_pos e2]; omega
      · simp only [if_neg e2, if_neg (show ¬ k = p by omega)]
        exact hle k k0 hk e1
    · simp only [if_neg e1]
      by_cases e2 : k = c
      · exact absurd (e2 ▸ hp) e1
      · simp only [if_neg e2]
        by_cases e3 : k = p
        · subst e3
          simp only [if_pos]
          exact h.grd c h0 hc hp k0
        · simp only [if_neg e3]
          exact h.oth k k0 hk e1
  · rw [swp_len] at hk
    rw [swp_gt hl hc, swp_gt hl hc, hp]
    simp only [if_neg (show ¬ p = c by omega), if_pos, if_neg (show ¬ k = c by omega), if_neg (show ¬ k = p by omega)]
    have := h.oth k k0 hk (by omega)
    rw [he] at this
    exact this
theorem gt_take {l : List Nat} {m k : Nat} (h : k < m) : gt (l.take m) k = gt l k := by simp [gt, h]
theorem Dn.init {l : List Nat} {m : Nat} (h : Hp l) (hm : l.length = m + 1) : Dn ((swp l 0 m).take m) 0 := by
  refine ⟨fun k h0 hk hne => ?_, fun k h0 hk he h1 => by omega⟩
  have hk' : k < m := by simp [swp_len] at hk; omega
  rw [gt_take hk', gt_take (by omega), swp_gt (by omega) (by omega), swp_gt (by omega) (by omega)]
  simp only [if_neg (show ¬ k = m by omega), if_neg (show ¬ k = 0 by omega), if_neg (show ¬ (k - 1) / 2 = m by omega), if_neg hne]
  exact h k h0 (by omega)
theorem pop_perm {l : List Nat} {m : Nat} (hm : l.length = m + 1) : l.Perm (gt l 0 :: (swp l 0 m).take m) := by
  have h := swp_perm (l := l) (i := 0) (j := m) (by omega) (by omega)
  refine h.symm.trans ?_
  have e : swp l 0 m = (swp l 0 m).take m ++ [gt l 0] := by
    have h1 := List.take_append_drop m (swp l 0 m)
    have h2 : (swp l 0 m).drop m = [gt l 0] := by
      have hlen : m < (swp l 0 m).length := by rw [swp_len]; omega
      rw [List.drop_eq_getElem_cons hlen, ← gt_eq hlen, swp_gt (by omega) (by omega), if_pos rfl, List.drop_of_length_le (by rw [swp_len]; omega)]
    rw [h2] at h1
    exact h1.symm
  rw [e, List.take_left' (by simp [swp_len]; omega)]
  exact List.perm_append_singleton _ _
theorem least_of {l l' : List Nat} {x : Nat} (h : l.Perm (x :: l')) (hm : ∀ k, k < l.length → x ≤ gt l k) : ∀ y ∈ l, x ≤ y := fun y hy => by
  obtain ⟨k, hk, e⟩ := List.getElem_of_mem hy
  have := hm k hk
  rw [gt_eq hk, e] at this
  exact this

end Go.Proofs.YtccnepenfglfoaaGreat.hp

namespace Go.Proofs.YtccnepenfglfoaaGreat.hp
open Go.ChangeShapes Go.WideShapes Go.ChangeAt Go.RowKit Go.Deep Go.Maps
set_option linter.unusedVariables false
set_option linter.unusedSimpArgs false

/-! ### Heaps of numbers in memory -/

/-- All but some blocks stays. -/
structure Oth (X : Nat → Prop) (w w' : World) : Prop where
  os : w'.os = w.os
  tape : w'.tape = w.tape
  output : w'.output = w.output
  size : w.heap.size ≤ w'.heap.size
  block : ∀ k, k < w.heap.size → ¬ X k → w'.heap[k]? = w.heap[k]?
theorem Oth.refl (X : Nat → Prop) (w : World) : Oth X w w := ⟨rfl, rfl, rfl, Nat.le_refl _, fun _ _ _ => rfl⟩
theorem Oth.trans {X : Nat → Prop} {a b c : World} (h : Oth X a b) (k : Oth X b c) : Oth X a c :=
  ⟨k.os.trans h.os, k.tape.trans h.tape, k.output.trans h.output, Nat.le_trans h.size k.size, fun i hi hx => (k.block i (Nat.lt_of_lt_of_le hi h.size) hx).trans (h.block i hi hx)⟩
theorem Oth.mono {X Y : Nat → Prop} {a b : World} (h : Oth X a b) (hy : ∀ k, k < a.heap.size → X k → Y k) : Oth Y a b := ⟨h.os, h.tape, h.output, h.size, fun i hi hx => h.block i hi fun h2 => hx (hy i hi h2)⟩
theorem Oth.below {X : Nat → Prop} {B : Nat} {a b : World} (h : Oth X a b) (hB : B ≤ a.heap.size) (hx : ∀ k, k < B → ¬ X k) : Below B a b := ⟨h.os, h.tape, h.output, h.size, fun i hi => h.block i (by omega) (hx i hi)⟩
theorem Oth.of_below {X : Nat → Prop} {a b : World} (h : Below a.heap.size a b) : Oth X a b := ⟨h.os, h.tape, h.output, h.size, fun i hi _ => h.block i hi⟩
theorem Oth.cell {X : Nat → Prop} {a b : World} (h : Oth X a b) {p : Addr} {v : Value} (hp : ¬ X p.block) (hc : a.cell? p = some v) : b.cell? p = some v :=
  (World.cell?_of_block (h.block p.block (World.block_lt_of_cell? _ _ hc) hp)).trans hc
theorem Oth.set {X : Nat → Prop} {a b : World} (h : Oth X a b) {g o : Nat} (hx : X g) (v : Value) : Oth X a (b.setCell ⟨g, o, none⟩ v) :=
  ⟨h.os, h.tape, h.output, by have := h.size; simpa using this, fun k hk hn => (ty.blk_oth (fun e => hn (by rw [e]; exact hx))).trans (h.block k hk hn)⟩
theorem Oth.drew {X : Nat → Prop} {a b : World} (h : Oth X a b) : Oth X a b.drew := ⟨h.os, h.tape, h.output, h.size, h.block⟩

/-- A row that a heap lies in. -/
structure Rw (M : Nat) (w : World) (g cap : Nat) (l : List Nat) : Prop where
  new : M ≤ g
  row : ∃ F, w.rowIs g 3 cap F ∧ ∀ k, k < l.length → F k = .int .i64 (gt l k : Int)
  le : l.length ≤ cap
  max : cap ≤ maxLen
theorem Rw.cell {M : Nat} {w : World} {g cap : Nat} {l : List Nat} (h : Rw M w g cap l) {k : Nat} (hk : k < l.length) : w.cell? ⟨g, k, none⟩ = some (.int .i64 (gt l k : Int)) := by
  obtain ⟨F, hr, hF⟩ := h.row
  have := h.le
  rw [hr.cell (by omega), hF k hk]
theorem Rw.lt {M : Nat} {w : World} {g cap : Nat} {l : List Nat} (h : Rw M w g cap l) : g < w.heap.size := by obtain ⟨F, hr, _⟩ := h.row; exact hr.lt
theorem Rw.fz {M : Nat} {w : World} {g cap : Nat} {l : List Nat} (h : Rw M w g cap l) (k : Nat) : w.frozen? ⟨g, k, none⟩ = false := by obtain ⟨F, hr, _⟩ := h.row; exact hr.frozen k
theorem Rw.kept {M : Nat} {w w' : World} {g cap : Nat} {l : List Nat} (h : Rw M w g cap l) (e : w'.heap[g]? = w.heap[g]?) : Rw M w' g cap l := by
  obtain ⟨F, hr, hF⟩ := h.row
  exact ⟨h.new, ⟨F, hr.of_block e, hF⟩, h.le, h.max⟩
theorem Rw.take {M : Nat} {w : World} {g cap : Nat} {l : List Nat} (h : Rw M w g cap l) (m : Nat) : Rw M w g cap (l.take m) := by
  obtain ⟨F, hr, hF⟩ := h.row
  have := h.le
  exact ⟨h.new, ⟨F, hr, fun k hk => by rw [List.length_take] at hk; rw [gt_take (by omega)]; exact hF k (by omega)⟩, by rw [List.length_take]; omega, h.max⟩
theorem Rw.swp {M : Nat} {w : World} {g cap : Nat} {l : List Nat} (h : Rw M w g cap l) {i j : Nat} (hi : i < l.length) (hj : j < l.length) : Rw M ((w.setCell ⟨g, i, none⟩ (.int .i64 (gt l j : Int))).setCell ⟨g, j, none⟩ (.int .i64 (gt l i : Int))) g cap (swp l i j) := by
  obtain ⟨F, hr, hF⟩ := h.row
  refine ⟨h.new, ⟨_, (hr.set i _).set j _, fun k hk => ?_⟩, by rw [swp_len]; exact h.le, h.max⟩
  rw [swp_len] at hk
  rw [swp_gt hi hj]
  by_cases e : k = j
  · simp only [if_pos e]
  · by_cases e2 : k = i
    · simp only [if_neg e, if_pos e2]
    · simp only [if_neg e, if_neg e2]; exact hF k hk

/-- A heap's slice: nil, or a row. -/
def Hv (M : Nat) (w : World) (v : Value) (l : List Nat) : Prop := (v = .slice none 0 0 ∧ l = []) ∨ ∃ g cap, v = .slice (some ⟨g, 0, none⟩) l.length cap ∧ Rw M w g cap l
theorem Hv.own {M : Nat} {w : World} {v : Value} {l : List Nat} (h : Hv M w v l) : w.ownsRow M 3 1 v l.length (fi.nV l) := by
  rcases h with ⟨rfl, rfl⟩ | ⟨g, cap, rfl, h⟩
  · exact World.ownsRow_nil _ _ _ _
  · obtain ⟨F, ⟨c, hb, hc, hcs⟩, hF⟩ := h.row
    have hle := h.le
    refine ⟨by rw [fi.nV_len, Nat.mul_one], .inr ⟨g, cap, c, rfl, h.new, hb, h.le, h.max, by rw [hc, Nat.mul_one], ?_⟩⟩
    rw [Nat.mul_one]
    apply List.ext_getElem?
    intro k
    rw [List.getElem?_take]
    by_cases hk : k < l.length
    · rw [if_pos hk, fi.nV_at hk, Array.getElem?_toList, hcs k (by omega), hF k hk, gt_eq hk]
    · rw [if_neg hk, List.getElem?_eq_none (by rw [fi.nV_len]; omega)]
theorem Hv.of_own {M : Nat} {w : World} {v : Value} {l : List Nat} (h : w.ownsRow M 3 1 v l.length (fi.nV l)) : Hv M w v l := by
  rcases h.2 with ⟨rfl, hn⟩ | ⟨g, cap, cur, rfl, hb, hg, hn, hm, hs, ht⟩
  · exact .inl ⟨rfl, List.eq_nil_of_length_eq_zero hn⟩
  · rw [Nat.mul_one] at hs ht
    refine .inr ⟨g, cap, rfl, hb, ⟨fun k => cur[k]?.getD default, ⟨cur, hg, hs, fun k hk => by rw [Array.getElem?_eq_getElem (by omega)]; simp [Array.getElem?_eq_getElem (show k < cur.size by omega)]⟩, fun k hk => ?_⟩, hn, hm⟩
    have h1 := fi.nV_at hk
    rw [← ht, List.getElem?_take, if_pos hk, Array.getElem?_toList] at h1
    show cur[k]?.getD default = _
    rw [h1, gt_eq hk]
    rfl
theorem Hv.kept {M : Nat} {w w' : World} {v : Value} {l : List Nat} (h : Hv M w v l) (e : ∀ g, M ≤ g → g < w.heap.size → v.ownBlock = some g → w'.heap[g]? = w.heap[g]?) : Hv M w' v l := by
  rcases h with h | ⟨g, cap, rfl, h⟩
  · exact .inl h
  · exact .inr ⟨g, cap, rfl, h.kept (e g h.new h.lt rfl)⟩
theorem Hv.some {M : Nat} {w : World} {v : Value} {l : List Nat} (h : Hv M w v l) (h0 : 0 < l.length) : ∃ g cap, v = .slice (some ⟨g, 0, none⟩) l.length cap ∧ Rw M w g cap l := by
  rcases h with ⟨_, rfl⟩ | h
  · simp at h0
  · exact h
theorem Hv.len {M : Nat} {w : World} {v : Value} {l : List Nat} (h : Hv M w v l) : ∃ a cap, v = .slice a l.length cap := by
  rcases h with ⟨rfl, rfl⟩ | ⟨g, cap, rfl, _⟩
  · exact ⟨_, _, rfl⟩
  · exact ⟨_, _, rfl⟩

set_option maxRecDepth 100000 in
set_option maxHeartbeats 4000000 in
theorem swap_any (M g cap : Nat) (l : List Nat) (i j : Nat) (w : World) (h : Rw M w g cap l) (hi : i < l.length) (hj : j < l.length) (hl : l.length ≤ 1000) :
    Calls Tryz.prog 81 #[.slice (some ⟨g, 0, none⟩) l.length cap, .int .i64 (i : Int), .int .i64 (j : Int)] w fun e w' => e = .returned (.tuple #[]) ∧ Rw M w' g cap (swp l i j) ∧ Oth (fun k => k = g) w w' := by
  obtain ⟨wd, hwd⟩ : ∃ z, w.drew = z := ⟨_, rfl⟩
  have hd : Rw M wd g cap l := by rw [← hwd]; exact h.kept rfl
  have HR := Lib.hid (hd.swp hi hj)
  have HO : Hid (Oth (fun k => k = g) w ((wd.setCell ⟨g, i, none⟩ (.int .i64 (gt l j : Int))).setCell ⟨g, j, none⟩ (.int .i64 (gt l i : Int)))) := by
    show Oth _ _ _
    rw [← hwd]
    exact ((Oth.refl _ _).drew.set (X := fun k => k = g) rfl _).set rfl _
  have c1 := hd.cell hi
  have c2 := hd.cell hj
  have f1 := hd.fz i
  have f2 := hd.fz j
  have f3 : (wd.setCell ⟨g, i, none⟩ (.int .i64 (gt l j : Int))).frozen? ⟨g, j, none⟩ = false := by
    obtain ⟨F, hr, _⟩ := hd.row
    exact (hr.set i _).frozen j
  have c3 : ∃ v, (wd.setCell ⟨g, i, none⟩ (.int .i64 (gt l j : Int))).cell? ⟨g, j, none⟩ = some v := by
    obtain ⟨F, hr, _⟩ := hd.row
    have := hd.le
    exact ⟨_, (hr.set i _).cell (by omega)⟩
  obtain ⟨v3, c3⟩ := c3
  obtain ⟨n, hn⟩ : ∃ n, l.length = n := ⟨_, rfl⟩
  rw [hn] at hi hj hl ⊢
  have hi0 : (0 : Int) ≤ (i : Int) := by omega
  have hj0 : (0 : Int) ≤ (j : Int) := by omega
  have hi' : (i : Int) < (n : Int) := by omega
  have hj' : (j : Int) < (n : Int) := by omega
  clear h hn hd
  go_enter Tryz.func81, Tryz.ntmps81
  refine wp_region_held_drew (S := fun _ => True) (by kernel_rfl) trivial (fun hHeld => ?_)
  rw [hwd]
  clear hwd
  refine uq (i := 0) rfl ?_
  try simp only [aP]
  refine uq (i := 1) rfl ?_
  try simp only [aP]
  refine uq (i := 2) rfl ?_
  try simp only [aP]
  refine uq (i := 3) rfl ?_
  try simp only [aP]
  refine uq (i := 4) rfl ?_
  try simp only [aP]
  refine uq (i := 5) rfl ?_
  try simp only [aP]
  refine uq (i := 8) rfl ?_
  try simp only [aP]
  refine uq (i := 9) rfl ?_
  try simp only [aP]
  refine uq (i := 6) rfl ?_
  try simp only [aP]
  refine uq (i := 10) rfl ?_
  try simp only [aP]
  refine wpAnyH_ready (rs := [7, 11]) (by kernel_rfl) (by simp) ?_
  refine cq rfl (fun K hK => ?_) (cq rfl (fun K hK => ?_) AllReadyH.nil)
  · go_simp
    try go_wp2_with fail
    refine hK.out _ _ (trivial) (fun hHeld => ?_)
    clear hK K
    try simp only [aP]
    refine rq 11 rfl fun K hK => ?_
    go_simp
    try go_wp2_with fail
    refine hK.out _ _ (trivial) (fun hHeld => ?_)
    clear hK K
    try simp only [aP]
    refine rq 12 rfl fun K hK => ?_
    go_simp
    try go_wp2_with fail
    refine hK.out _ _ (trivial) (fun hHeld => ?_)
    clear hK K
    try simp only [aP]
    refine rq 13 rfl fun K hK => ?_
    go_simp
    try go_wp2_with fail
    refine hK.out _ _ (trivial) (fun hHeld => ?_)
    clear hK K
    try simp only [aP]
    refine rq 14 rfl fun K hK => ?_
    go_simp
    try go_wp2_with fail
    refine hK.out _ _ (trivial) (fun hHeld => ?_)
    clear hK K
    try simp only [aP]
    refine rq 15 rfl fun K hK => ?_
    go_simp
    try go_wp2_with fail
    refine hK.out _ _ (trivial) (fun hHeld => ?_)
    clear hK K
    try simp only [aP]
    refine dq ?_
    go_wp2_with fail
    go_end0
    exact ⟨rfl, HR.out, HO.out⟩
  · go_simp
    try go_wp2_with fail
    refine hK.out _ _ (trivial) (fun hHeld => ?_)
    clear hK K
    try simp only [aP]
    refine rq 7 rfl fun K hK => ?_
    go_simp
    try go_wp2_with fail
    refine hK.out _ _ (trivial) (fun hHeld => ?_)
    clear hK K
    try simp only [aP]
    refine rq 12 rfl fun K hK => ?_
    go_simp
    try go_wp2_with fail
    refine hK.out _ _ (trivial) (fun hHeld => ?_)
    clear hK K
    try simp only [aP]
    refine rq 13 rfl fun K hK => ?_
    go_simp
    try go_wp2_with fail
    refine hK.out _ _ (trivial) (fun hHeld => ?_)
    clear hK K
    try simp only [aP]
    refine rq 14 rfl fun K hK => ?_
    go_simp
    try go_wp2_with fail
    refine hK.out _ _ (trivial) (fun hHeld => ?_)
    clear hK K
    try simp only [aP]
    refine rq 15 rfl fun K hK => ?_
    go_simp
    try go_wp2_with fail
    refine hK.out _ _ (trivial) (fun hHeld => ?_)
    clear hK K
    try simp only [aP]
    refine dq ?_
    go_wp2_with fail
    go_end0
    exact ⟨rfl, HR.out, HO.out⟩

end Go.Proofs.YtccnepenfglfoaaGreat.hp

namespace Go.Proofs.YtccnepenfglfoaaGreat.hp
open Go.ChangeShapes Go.WideShapes Go.ChangeAt Go.RowKit Go.Deep Go.Maps
set_option linter.unusedVariables false
set_option linter.unusedSimpArgs false

theorem Oth.then {X Y : Nat → Prop} {a b c : World} (h : Oth X a b) (k : Oth Y b c) (hy : ∀ i, i < a.heap.size → Y i → X i) : Oth X a c :=
  ⟨k.os.trans h.os, k.tape.trans h.tape, k.output.trans h.output, Nat.le_trans h.size k.size, fun i hi hx => (k.block i (Nat.lt_of_lt_of_le hi h.size) fun h2 => hx (hy i hi h2)).trans (h.block i hi hx)⟩
theorem Oth.grown {X : Nat → Prop} {a b c : World} (h : Oth X a b) {r : Option Nat} (k : b.grownBy c r) (hy : ∀ i, i < a.heap.size → r = some i → X i) : Oth X a c :=
  ⟨k.os.trans h.os, k.tape.trans h.tape, k.output.trans h.output, Nat.le_trans h.size k.size, fun i hi hx => (k.block i (Nat.lt_of_lt_of_le hi h.size) fun h2 => hx (hy i hi h2.symm)).trans (h.block i hi hx)⟩

/-- An append whose run is known, as an operation in a row. -/
theorem app_h {w w3 : World} {ops : Array Oper} {rest : List Oper} {o : Oper} {a : Act} {Q : Exit → Act → World → Prop} (hgd : o.guard = none) (s y : Operand) (t ty : TypeId) (v x v6 : Value) (ho : o.op = .call { callee := .builtin .append, args := #[s, y], argTypes := #[t, t] }) (hty : o.type = ty)
    (hs : a.eval s = v) (hx : a.eval y = x) (hr : (Builtin.append_ #[t, t] ty #[v, x]).run Tryz.prog w = .ok v6 w3) (k : wpList Tryz.prog ops Q rest (a.put o.dst v6) w3) : wpList Tryz.prog ops Q (o :: rest) a w := by
  refine wpList_plain hgd fun K hK => ?_
  unfold Oper.wp execOp
  rw [← hty] at hr
  simp only [ho, resolve, invoke, builtin, Sem.run_bind, Sem.run_pure, Result.andThen_ok, List.map_toArray, List.map_cons, List.map_nil, hs, hx, hr]
  exact hK _ _ k

/-- Where a heap's slice stands behind a field. -/
structure Ho (M S : Nat) (F : Nat → Value) (v : Value) (l : List Nat) (w : World) : Prop where
  row : w.rowIs S 101 5 fun k => if k = 4 then v else F k
  hv : Hv M w v l
  lt : S < M
  le : M ≤ w.heap.size

/-- The first step of a push: append, store. -/
theorem push_first {M S : Nat} {F : Nat → Value} {v : Value} {l : List Nat} {w : World} (h : Ho M S F v l w) (x : Nat) (hl : l.length ≤ 1000) :
    ∃ g cap w3, (Builtin.append_ #[99, 99] 99 #[v, .slice (some ⟨w.heap.size, 0, none⟩) 1 1]).run Tryz.prog (w.alloc (.cells #[.int .i64 (x : Int)] 3)) = .ok (.slice (some ⟨g, 0, none⟩) (l.length + 1) cap) w3 ∧
      w3.cell? ⟨S, 4, none⟩ = some v ∧ w3.frozen? ⟨S, 4, none⟩ = false ∧ (w3.setCell ⟨S, 4, none⟩ (.slice (some ⟨g, 0, none⟩) (l.length + 1) cap)).rowIs S 101 5 (fun k => if k = 4 then .slice (some ⟨g, 0, none⟩) (l.length + 1) cap else F k) ∧
      Rw M (w3.setCell ⟨S, 4, none⟩ (.slice (some ⟨g, 0, none⟩) (l.length + 1) cap)) g cap (l ++ [x]) ∧ Oth (fun k => k = S ∨ v.ownBlock = some k) w (w3.setCell ⟨S, 4, none⟩ (.slice (some ⟨g, 0, none⟩) (l.length + 1) cap)) ∧ (v.ownBlock = some g ∨ w.heap.size ≤ g) := by
  obtain ⟨i0, hi, hzz⟩ := Option.map_eq_some_iff.1 fi.infoI
  simp only [Prod.mk.injEq] at hzz
  obtain ⟨hz0, hz1, hz2⟩ := hzz
  have hown := h.hv.own
  obtain ⟨v', w', hr, h1, h2, h3, h4⟩ := run_append_own_at (P := Tryz.prog) (w.alloc (.cells #[.int .i64 (x : Int)] 3)) M 99 99 3 i0 _ 1 8 Tryz.underlying99 hi hz0 hz1 hz2 rfl (by omega) v l.length (fi.nV l) (hown.alloc _) ⟨w.heap.size, 0, none⟩ 1 1 (fi.nV [x]) (by simp [fi.nV]) (fa.new_one w x) (fi.nV_one _) (by unfold maxLen; omega) (by omega) (by have := h.le; simp; omega)
  have hne : some S ≠ v.ownBlock := fun e => by have := (hown.lt S e.symm).1; have := h.lt; omega
  have hrow : w'.rowIs S 101 5 (fun k => if k = 4 then v else F k) := (h.row.alloc _).of_block (h2.block S (h.row.alloc _).lt hne)
  have hHv : Hv M w' v' (l ++ [x]) := Hv.of_own (by rw [List.length_append]; unfold fi.nV; rw [List.map_append]; exact h1)
  obtain ⟨g, cap, rfl, hRw⟩ := hHv.some (by simp)
  rw [List.length_append] at hr h4
  simp only [List.length_cons, List.length_nil, Nat.zero_add] at hr h4
  have hgS : g ≠ S := fun e => by have := hRw.new; have := h.lt; omega
  refine ⟨g, cap, w', hr, hrow.cell (i := 4) (by decide), hrow.frozen 4, (hrow.set 4 _).congr fun k hk => ?_, hRw.kept (ty.blk_oth hgS), ?_, ?_⟩
  · by_cases e : k = 4
    · simp only [if_pos e]
    · simp only [if_neg e]
  · refine Oth.set (X := fun k => k = S ∨ v.ownBlock = some k) ?_ (.inl rfl) _
    refine Oth.grown (b := w.alloc (.cells #[.int .i64 (x : Int)] 3)) (Oth.of_below ((Below.refl _ _).alloc (Nat.le_refl _) _)) h2 fun i hi e => .inr e
  · rcases h4 with e | e
    · exact .inl e.symm
    · refine .inr ?_
      have := Option.some.inj e
      simp at this
      omega

set_option maxRecDepth 100000 in
set_option maxHeartbeats 4000000 in
theorem push_any (M S : Nat) (F : Nat → Value) (v : Value) (l : List Nat) (x : Nat) (w : World) (h : Ho M S F v l w) (hh : Hp l) (hl : l.length < 1000) :
    Calls Tryz.prog 68 #[.pointer (some ⟨S, 4, none⟩), .int .i64 (x : Int)] w fun e w' => e = .returned (.tuple #[]) ∧ ∃ v' l', Ho M S F v' l' w' ∧ l'.Perm (x :: l) ∧ Hp l' ∧ Oth (fun k => k = S ∨ v.ownBlock = some k) w w' ∧ (v'.ownBlock = v.ownBlock ∨ ∀ g, v'.ownBlock = some g → w.heap.size ≤ g) := by
  obtain ⟨g, cap, w3, hap, c4, f4, hrow, hRw, hoth, hfr⟩ := push_first h x (by omega)
  have cS : w.cell? ⟨S, 4, none⟩ = some v := h.row.cell (i := 4) (by decide)
  have HSM := Lib.hid h.lt
  have HSZ := Lib.hid h.le
  obtain ⟨W3, hW3⟩ : ∃ W, W = w3.setCell ⟨S, 4, none⟩ (.slice (some ⟨g, 0, none⟩) (l.length + 1) cap) := ⟨_, rfl⟩
  rw [← hW3] at hrow hRw hoth
  have HW3 := Lib.hid hW3
  have HUP : Hid (Up (l ++ [x]) l.length) := Up.init hh x
  have HPM : Hid ((l ++ [x]).Perm (x :: l)) := List.perm_append_singleton _ _
  have HFR := Lib.hid hfr
  have HRO := Lib.hid hrow
  have HRW := Lib.hid hRw
  have HOT := Lib.hid hoth
  obtain ⟨n, hn⟩ : ∃ n, l.length = n := ⟨_, rfl⟩
  have HLN : Hid (l.length = n) := hn
  rw [hn] at hap hl HUP HW3 HRO
  have hwr : IntKind.i64.wrap ((n : Int) + 1) = (n : Int) + 1 := by rw [IntKind.wrap_i64]; omega
  have cW : ∀ W : World, W.rowIs S 101 5 (fun k => if k = 4 then .slice (some ⟨g, 0, none⟩) (n + 1) cap else F k) → W.cell? ⟨S, 4, none⟩ = some (.slice (some ⟨g, 0, none⟩) (n + 1) cap) := fun W h => h.cell (i := 4) (by decide)
  have HCW := Lib.hid cW
  have c5 := HCW.out W3 HRO.out
  have HAP := Lib.hid hap
  clear h hh hn hrow hRw hoth hfr hW3 cW hap
  go_enter Tryz.func68, Tryz.ntmps68
  go_upto_region 2 with (at_builtin; refine app_h rfl _ _ _ _ _ _ _ rfl rfl rfl rfl HAP.out ?_; refine Hid.out ?_)
  refine Lib.hid ?_
  have hwn : IntKind.i64.wrap ((n : Int) + 1 - 1) = (n : Int) := by rw [IntKind.wrap_i64]; omega
  have HOX : Hid (∀ (W W' : World), Oth (fun k => k = S ∨ v.ownBlock = some k) w W → Oth (fun k => k = g) W W' → Oth (fun k => k = S ∨ v.ownBlock = some k) w W') := fun W W' h1 h2 => h1.then h2 fun i hi e => by
    subst e
    rcases HFR.out with h | h
    · exact .inr h
    · omega
  have HFX : Hid ((Value.slice (some ⟨g, 0, none⟩) (n + 1) cap).ownBlock = v.ownBlock ∨ ∀ g', (Value.slice (some ⟨g, 0, none⟩) (n + 1) cap).ownBlock = some g' → w.heap.size ≤ g') := by
    rcases HFR.out with h | h
    · exact .inl h.symm
    · exact .inr fun g' e => by have h3 : g = g' := Option.some.inj e; omega
  go_upto_region 1 with fail
  rw [← HW3.out]
  go_upto_region 2 with fail
  clear c4 cS f4 c5
  go_loopw [4, 5] (fun p _ wr => ∃ (k : Nat) (l' : List Nat), p = .int .i64 (k : Int) ∧ k ≤ n ∧ l'.length = n + 1 ∧ Up l' k ∧ l'.Perm (x :: l) ∧ (wr.rowIs S 101 5 fun k => if k = 4 then .slice (some ⟨g, 0, none⟩) (n + 1) cap else F k) ∧ Rw M wr g cap l' ∧ Oth (fun k => k = S ∨ v.ownBlock = some k) w wr) (fun p _ _ => (intOf p).toNat)
  case atStart => exact ⟨n, l ++ [x], rfl, Nat.le_refl _, by rw [List.length_append, HLN.out]; rfl, HUP.out, HPM.out, HRO.out, HRW.out, HOT.out⟩
  case round =>
    obtain ⟨k, l', rfl, hk, hlen, hup, hpm, hro, hrw, hot⟩ := hrel
    have HUP := Lib.hid hup
    have HPM := Lib.hid hpm
    have HRO := Lib.hid hro
    have HRW := Lib.hid hrw
    have HOT := Lib.hid hot
    have HLE := Lib.hid hlen
    clear hup hpm hro hrw hot hlen
    by_cases hk0 : k = 0
    · subst hk0
      go_wp2
      go_end0
      exact ⟨rfl, _, l', ⟨HRO.out, .inr ⟨g, cap, by rw [HLE.out], HRW.out⟩, HSM.out, Nat.le_trans HSZ.out HOT.out.size⟩, HPM.out, HUP.out.done (.inl rfl), HOT.out, HFX.out⟩
    · have hk1 : (0 : Int) < (k : Int) := by omega
      have hw1 : IntKind.i64.wrap ((k : Int) - 1) = (k : Int) - 1 := by rw [IntKind.wrap_i64]; omega
      go_upto_region 4 with fail
      obtain ⟨q, hqd⟩ : ∃ q, (k - 1) / 2 = q := ⟨_, rfl⟩
      rw [show ((k : Int) - 1) / 2 = (q : Int) by omega]
      have hqk : q < k := by omega
      obtain ⟨wd, hwd⟩ : ∃ z, wr.drew = z := ⟨_, rfl⟩
      have HROd : Hid (wd.rowIs S 101 5 fun k => if k = 4 then .slice (some ⟨g, 0, none⟩) (n + 1) cap else F k) := by show World.rowIs _ _ _ _ _; rw [← hwd]; exact HRO.out
      have HRWd : Hid (Rw M wd g cap l') := by show Rw _ _ _ _ _; rw [← hwd]; exact HRW.out.kept rfl
      have HOTd : Hid (Oth (fun k => k = S ∨ v.ownBlock = some k) w wd) := by show Oth _ _ _; rw [← hwd]; exact HOT.out.drew
      have cS := HCW.out wd HROd.out
      have ck := HRWd.out.cell (k := k) (by rw [HLE.out]; omega)
      have cq := HRWd.out.cell (k := q) (by rw [HLE.out]; omega)
      have hk2 : (k : Int) < (n : Int) + 1 := by omega
      have hq2 : (q : Int) < (n : Int) + 1 := by omega
      have hk3 : (0 : Int) ≤ (k : Int) := by omega
      have hq3 : (0 : Int) ≤ (q : Int) := by omega
      refine wq 13 (S := fun z => z = wd) (by kernel_rfl) hwd fun hHeld => ?_
      rw [hwd]
      rw [hwd] at hHeld
      clear hwd
      iterate 13 (refine un 13 rfl ?_; try simp only [aP])
      refine dq ?_
      by_cases hle : gt l' q ≤ gt l' k
      · have hle' : (gt l' q : Int) ≤ (gt l' k : Int) := by omega
        have HDO : Hid (Hp l') := HUP.out.done (.inr (by rw [hqd]; exact hle))
        clear hqd
        go_wp2
        first | go_end0 | refine bodyPost_ret (results_none rfl _ _ _) rfl ?_
        exact ⟨rfl, _, l', ⟨HROd.out, .inr ⟨g, cap, by rw [HLE.out], HRWd.out⟩, HSM.out, Nat.le_trans HSZ.out HOTd.out.size⟩, HPM.out, HDO.out, HOTd.out, HFX.out⟩
      · have hle' : ¬ (gt l' q : Int) ≤ (gt l' k : Int) := by omega
        have HST : Hid (Up (swp l' k q) q) := by have := HUP.out.step (by omega) (by rw [hqd]; omega); rw [hqd] at this; exact this
        have HSW := Lib.hid (swap_any M g cap l' k q wd HRWd.out (by rw [HLE.out]; omega) (by rw [HLE.out]; omega) (by rw [HLE.out]; omega))
        have HPS : Hid ((swp l' k q).Perm (x :: l)) := (swp_perm (by rw [HLE.out]; omega) (by rw [HLE.out]; omega)).trans HPM.out
        rw [HLE.out] at HSW
        have HLS : Hid ((swp l' k q).length = n + 1) := by show _ = _; rw [swp_len, HLE.out]
        clear hqd ck cq
        go_wp2_with (go_at_call 81; refine HSW.out.mono ?_; rintro e w5 ⟨rfl, h51, h52⟩; refine Hid.out ?_)
        refine Lib.hid ?_
        have HR5 : Hid (w5.rowIs S 101 5 fun k => if k = 4 then .slice (some ⟨g, 0, none⟩) (n + 1) cap else F k) := HROd.out.of_block (h52.block S HROd.out.lt (by have := HRW.out.new; have := HSM.out; omega))
        have HO5 := Lib.hid (HOX.out wd w5 HOTd.out h52)
        have HW5 := Lib.hid h51
        clear h51 h52 cS
        go_wp2
        go_roundw
        case rel => exact ⟨q, swp l' k q, rfl, by omega, HLS.out, HST.out, HPS.out, HR5.out, HW5.out, HO5.out⟩
        case measure => simp [intOf]; omega
end Go.Proofs.YtccnepenfglfoaaGreat.hp

namespace Go.Proofs.YtccnepenfglfoaaGreat.hp
open Go.ChangeShapes Go.WideShapes Go.ChangeAt Go.RowKit Go.Deep Go.Maps
set_option linter.unusedVariables false
set_option linter.unusedSimpArgs false

/-- The least so far among a place and those below it. -/
structure Lst (l : List Nat) (p m b : Nat) : Prop where
  lo : 2 * p + 1 ≤ b
  hi : b ≤ 2 * p + 3
  is : m = p ∨ (2 * p + 1 ≤ m ∧ m < b ∧ m < l.length ∧ gt l m < gt l p)
  le : gt l m ≤ gt l p
  all : ∀ k, 2 * p + 1 ≤ k → k < b → k < l.length → gt l m ≤ gt l k
theorem Lst.zero (l : List Nat) (p : Nat) : Lst l p p (2 * p + 1) := ⟨Nat.le_refl _, by omega, .inl rfl, Nat.le_refl _, fun k h1 h2 => by omega⟩
theorem Lst.yes {l : List Nat} {p m b : Nat} (h : Lst l p m b) (hb : b ≤ 2 * p + 2) (hl : b < l.length) (hlt : gt l b < gt l m) : Lst l p b (b + 1) :=
  ⟨by have := h.lo; omega, by omega, .inr ⟨h.lo, by omega, hl, by have := h.le; omega⟩, by have := h.le; omega, fun k h1 h2 h3 => by
    by_cases e : k = b
    · subst e; exact Nat.le_refl _
    · have := h.all k h1 (by omega) h3; omega⟩
theorem Lst.no {l : List Nat} {p m b : Nat} (h : Lst l p m b) (hb : b ≤ 2 * p + 2) (hl : b < l.length) (hlt : ¬ gt l b < gt l m) : Lst l p m (b + 1) :=
  ⟨by have := h.lo; omega, by omega, by rcases h.is with e | ⟨h1, h2, h3, h4⟩; exact .inl e; exact .inr ⟨h1, by omega, h3, h4⟩, h.le, fun k h1 h2 h3 => by
    by_cases e : k = b
    · subst e; omega
    · exact h.all k h1 (by omega) h3⟩
theorem Lst.end {l : List Nat} {p m b : Nat} (h : Lst l p m b) (hb : ¬ (b ≤ 2 * p + 2 ∧ b < l.length)) (hd : Dn l p) : (m = p → Hp l) ∧ (m ≠ p → Dn (swp l p m) m ∧ m < l.length ∧ p < m) := by
  have hall : ∀ k, 0 < k → k < l.length → (k - 1) / 2 = p → gt l m ≤ gt l k := fun k k0 hk e => by
    refine h.all k (by omega) ?_ hk
    have := h.hi
    omega
  refine ⟨fun e => ?_, fun e => ?_⟩
  · subst e
    exact hd.done (fun hk => hall _ (by omega) hk (by omega)) (fun hk => hall _ (by omega) hk (by omega))
  · rcases h.is with e2 | ⟨h1, h2, h3, h4⟩
    · exact absurd e2 e
    · have := h.hi
      exact ⟨hd.step h3 (by omega) (by omega) h4 hall, h3, by omega⟩

set_option maxRecDepth 100000 in
set_option maxHeartbeats 4000000 in
theorem sink_any (M g cap : Nat) (l : List Nat) (w : World) (h : Rw M w g cap l) (hd : Dn l 0) (hl : l.length ≤ 1000) :
    Calls Tryz.prog 82 #[.slice (some ⟨g, 0, none⟩) l.length cap] w fun e w' => e = .returned (.tuple #[]) ∧ ∃ l', l'.Perm l ∧ Hp l' ∧ Rw M w' g cap l' ∧ Oth (fun k => k = g) w w' := by
  have HRW0 := Lib.hid h
  have HDN0 := Lib.hid hd
  obtain ⟨n, hn⟩ : ∃ n, l.length = n := ⟨_, rfl⟩
  have HLN : Hid (l.length = n) := hn
  rw [hn] at hl ⊢
  clear h hd hn
  go_enter Tryz.func82, Tryz.ntmps82
  go_upto_region 1 with fail
  go_loopw [2, 3, 4] (fun p _ _ wr => ∃ (k : Nat) (l' : List Nat), p = .int .i64 (k : Int) ∧ k ≤ n ∧ l'.length = n ∧ Dn l' k ∧ l'.Perm l ∧ Rw M wr g cap l' ∧ Oth (fun k => k = g) w wr) (fun p _ _ _ => n + 1 - (intOf p).toNat)
  case atStart => exact ⟨0, l, rfl, Nat.zero_le _, HLN.out, HDN0.out, List.Perm.refl _, HRW0.out, Oth.refl _ _⟩
  case round =>
    obtain ⟨p, l', rfl, hp, hlen, hdn, hpm, hrw, hot⟩ := hrel
    have HDN := Lib.hid hdn
    have HPM := Lib.hid hpm
    have HRW := Lib.hid hrw
    have HOT := Lib.hid hot
    have HLE := Lib.hid hlen
    clear hdn hpm hrw hot hlen HRW0 HDN0
    have hw1 : IntKind.i64.wrap (2 * (p : Int)) = 2 * (p : Int) := by rw [IntKind.wrap_i64]; omega
    have hw2 : IntKind.i64.wrap (2 * (p : Int) + 1) = 2 * (p : Int) + 1 := by rw [IntKind.wrap_i64]; omega
    have hw3 : IntKind.i64.wrap (2 * (p : Int) + 2) = 2 * (p : Int) + 2 := by rw [IntKind.wrap_i64]; omega
    go_upto_region 3 with fail
    rw [show 2 * (p : Int) + 1 = ((2 * p + 1 : Nat) : Int) by omega]
    go_loopw [3, 4] (fun mv bv wq => ∃ (m b : Nat), mv = .int .i64 (m : Int) ∧ bv = .int .i64 (b : Int) ∧ Lst l' p m b ∧ Rw M wq g cap l' ∧ Oth (fun k => k = g) w wq) (fun _ bv _ => 2 * p + 4 - (intOf bv).toNat)
    case atStart => exact ⟨p, 2 * p + 1, rfl, rfl, Lst.zero l' p, HRW.out, HOT.out⟩
    case round =>
      obtain ⟨m, b, rfl, rfl, hls, hrwi, hoti⟩ := hrel
      have HLS := Lib.hid hls
      have HRWi := Lib.hid hrwi
      have HOTi := Lib.hid hoti
      have hb3 := hls.hi
      have hmn0 : m ≤ n := by
        rcases hls.is with e | ⟨_, _, h3, _⟩
        · omega
        · rw [HLE.out] at h3; omega
      clear hls hrwi hoti HRW HOT
      by_cases hb1 : b ≤ 2 * p + 2
      · have hb1' : (b : Int) ≤ 2 * (p : Int) + 2 := by omega
        by_cases hb2 : b < n
        · have hb2' : (b : Int) < (n : Int) := by omega
          have hwb : IntKind.i64.wrap ((b : Int) + 1) = (b : Int) + 1 := by rw [IntKind.wrap_i64]; omega
          go_upto_region 5 with fail
          obtain ⟨wd, hwd⟩ : ∃ z, wr.drew = z := ⟨_, rfl⟩
          have HRWd : Hid (Rw M wd g cap l') := by show Rw _ _ _ _ _; rw [← hwd]; exact HRWi.out.kept rfl
          have HOTd : Hid (Oth (fun k => k = g) w wd) := by show Oth _ _ _; rw [← hwd]; exact HOTi.out.drew
          have hmn1 : m < n := by
            have := HLS.out.lo
            rcases HLS.out.is with e | ⟨_, _, h3, _⟩
            · omega
            · rw [HLE.out] at h3; exact h3
          have cb := HRWd.out.cell (k := b) (by rw [HLE.out]; omega)
          have cm := HRWd.out.cell (k := m) (by rw [HLE.out]; omega)
          have hb4 : (0 : Int) ≤ (b : Int) := by omega
          have hm3 : (m : Int) < (n : Int) := by omega
          have hm4 : (0 : Int) ≤ (m : Int) := by omega
          refine wq 9 (S := fun z => z = wd) (by kernel_rfl) hwd fun hHeld => ?_
          rw [hwd]
          rw [hwd] at hHeld
          clear hwd
          iterate 9 (refine un 9 rfl ?_; try simp only [aP])
          refine dq ?_
          by_cases hlt : gt l' b < gt l' m
          · have hlt' : (gt l' b : Int) < (gt l' m : Int) := by omega
            have HL2 := Lib.hid (HLS.out.yes hb1 (by rw [HLE.out]; exact hb2) hlt)
            clear cb cm
            go_wp2
            go_roundw
            case rel => exact ⟨b, b + 1, rfl, by go_num, HL2.out, HRWd.out, HOTd.out⟩
            case measure => simp [intOf]; omega
          · have hlt' : ¬ (gt l' b : Int) < (gt l' m : Int) := by omega
            have HL2 := Lib.hid (HLS.out.no hb1 (by rw [HLE.out]; exact hb2) hlt)
            clear cb cm
            go_wp2
            go_roundw
            case rel => exact ⟨m, b + 1, rfl, by go_num, HL2.out, HRWd.out, HOTd.out⟩
            case measure => simp [intOf]; omega
        · have hb2' : ¬ (b : Int) < (n : Int) := by omega
          have HEN := Lib.hid (HLS.out.end (by rw [HLE.out]; omega) HDN.out)
          by_cases hmp : m = p
          · subst hmp
            have HPD := Lib.hid (HEN.out.1 rfl)
            clear HEN
            go_wp2
            first | go_end0 | refine bodyPost_ret (results_none rfl _ _ _) rfl ?_
            exact ⟨rfl, l', HPM.out, HPD.out, HRWi.out, HOTi.out⟩
          · have hmp' : ¬ (m : Int) = (p : Int) := by omega
            have HST := Lib.hid (HEN.out.2 hmp)
            have hmn : m < n := by have := HST.out.2.1; rw [HLE.out] at this; exact this
            have hpm2 : p < m := HST.out.2.2
            have HSW := Lib.hid (swap_any M g cap l' p m wr HRWi.out (by rw [HLE.out]; omega) (by rw [HLE.out]; omega) (by rw [HLE.out]; omega))
            rw [HLE.out] at HSW
            have HPS : Hid ((swp l' p m).Perm l) := (swp_perm (by rw [HLE.out]; omega) (by rw [HLE.out]; omega)).trans HPM.out
            clear HEN
            go_wp2_with (go_at_call 81; refine HSW.out.mono ?_; rintro e w5 ⟨rfl, h51, h52⟩; refine Hid.out ?_)
            refine Lib.hid ?_
            have HW5 := Lib.hid h51
            have HO5 := Lib.hid (HOTi.out.trans h52)
            clear h51 h52
            go_wp2
            go_roundw
            case rel => exact ⟨m, swp l' p m, rfl, by omega, by rw [swp_len]; exact HLE.out, HST.out.1, HPS.out, HW5.out, HO5.out⟩
            case measure => simp [intOf]; omega
      · have hb1' : ¬ (b : Int) ≤ 2 * (p : Int) + 2 := by omega
        have HEN := Lib.hid (HLS.out.end (by rw [HLE.out]; omega) HDN.out)
        by_cases hmp : m = p
        · subst hmp
          have HPD := Lib.hid (HEN.out.1 rfl)
          clear HEN
          go_wp2
          first | go_end0 | refine bodyPost_ret (results_none rfl _ _ _) rfl ?_
          exact ⟨rfl, l', HPM.out, HPD.out, HRWi.out, HOTi.out⟩
        · have hmp' : ¬ (m : Int) = (p : Int) := by omega
          have HST := Lib.hid (HEN.out.2 hmp)
          have hmn : m < n := by have := HST.out.2.1; rw [HLE.out] at this; exact this
          have hpm2 : p < m := HST.out.2.2
          have HSW := Lib.hid (swap_any M g cap l' p m wr HRWi.out (by rw [HLE.out]; omega) (by rw [HLE.out]; omega) (by rw [HLE.out]; omega))
          rw [HLE.out] at HSW
          have HPS : Hid ((swp l' p m).Perm l) := (swp_perm (by rw [HLE.out]; omega) (by rw [HLE.out]; omega)).trans HPM.out
          clear HEN
          go_wp2_with (go_at_call 81; refine HSW.out.mono ?_; rintro e w5 ⟨rfl, h51, h52⟩; refine Hid.out ?_)
          refine Lib.hid ?_
          have HW5 := Lib.hid h51
          have HO5 := Lib.hid (HOTi.out.trans h52)
          clear h51 h52
          go_wp2
          go_roundw
          case rel => exact ⟨m, swp l' p m, rfl, by omega, by rw [swp_len]; exact HLE.out, HST.out.1, HPS.out, HW5.out, HO5.out⟩
          case measure => simp [intOf]; omega

end Go.Proofs.YtccnepenfglfoaaGreat.hp

namespace Go.Proofs.YtccnepenfglfoaaGreat.hp
open Go.ChangeShapes Go.WideShapes Go.ChangeAt Go.RowKit Go.Deep Go.Maps
set_option linter.unusedVariables false
set_option linter.unusedSimpArgs false

set_option maxRecDepth 100000 in
set_option maxHeartbeats 4000000 in
/-- Nothing is there. -/
theorem pop_none (M S : Nat) (F : Nat → Value) (v : Value) (w : World) (h : Ho M S F v [] w) :
    Calls Tryz.prog 69 #[.pointer (some ⟨S, 4, none⟩)] w fun e w' => e = .returned (.tuple #[.int .i64 0, .bool false]) ∧ w' = w := by
  obtain ⟨a, cap, rfl⟩ := h.hv.len
  have cS : w.cell? ⟨S, 4, none⟩ = some (.slice a 0 cap) := h.row.cell (i := 4) (by decide)
  clear h
  go_enter Tryz.func69, Tryz.ntmps69
  go_wp2
  go_ret2
  exact ⟨rfl, rfl⟩

set_option maxRecDepth 100000 in
set_option maxHeartbeats 4000000 in
theorem pop_any (M S : Nat) (F : Nat → Value) (v : Value) (l : List Nat) (w : World) (h : Ho M S F v l w) (hh : Hp l) (h0 : 0 < l.length) (hl : l.length ≤ 1000) :
    Calls Tryz.prog 69 #[.pointer (some ⟨S, 4, none⟩)] w fun e w' => e = .returned (.tuple #[.int .i64 (gt l 0 : Int), .bool true]) ∧ ∃ v' l', Ho M S F v' l' w' ∧ l.Perm (gt l 0 :: l') ∧ Hp l' ∧ Oth (fun k => k = S ∨ v.ownBlock = some k) w w' ∧ v'.ownBlock = v.ownBlock := by
  obtain ⟨g, cap, rfl, hrw⟩ := h.hv.some h0
  have hcl := hrw.le
  have HSM := Lib.hid h.lt
  have HSZ := Lib.hid h.le
  have HRO := Lib.hid h.row
  have HNW := Lib.hid hrw.new
  obtain ⟨m, hm⟩ : ∃ m, l.length = m + 1 := ⟨l.length - 1, by omega⟩
  have HM := Lib.hid hm
  have cS : w.cell? ⟨S, 4, none⟩ = some (.slice (some ⟨g, 0, none⟩) l.length cap) := h.row.cell (i := 4) (by decide)
  have HSW := Lib.hid (swap_any M g cap l 0 m w hrw (by omega) (by omega) (by omega))
  have HDN := Lib.hid (Dn.init hh hm)
  have HPM := Lib.hid (pop_perm hm)
  have HLT : Hid (((swp l 0 m).take m).length = m) := by show _ = _; rw [List.length_take, swp_len, hm]; omega
  have HGM : Hid (gt (swp l 0 m) m = gt l 0) := by show _ = _; rw [swp_gt (by omega) (by omega), if_pos rfl]
  have HLS : Hid ((swp l 0 m).length = m + 1) := by show _ = _; rw [swp_len, hm]
  have hw0 : IntKind.i64.wrap ((m : Int) + 1 - 1) = (m : Int) := by rw [IntKind.wrap_i64]; omega
  have hne : ((m : Int) + 1 == 0) = false := by rw [beq_eq_false_iff_ne]; omega
  rw [hm] at hl HSW cS hcl HRO
  simp only [Int.ofNat_zero, Int.natCast_zero] at HSW
  rw [hm]
  clear h hh h0 hm hrw
  go_enter Tryz.func69, Tryz.ntmps69
  go_wp2_with (go_at_call 81; refine HSW.out.mono ?_; rintro e w5 ⟨rfl, h51, h52⟩; refine Hid.out ?_)
  refine Lib.hid ?_
  have hgS : S ≠ g := by have := HNW.out; have := HSM.out; omega
  have HR5 : Hid (w5.rowIs S 101 5 fun k => if k = 4 then .slice (some ⟨g, 0, none⟩) (m + 1) cap else F k) := HRO.out.of_block (h52.block S HRO.out.lt hgS)
  have c5 : w5.cell? ⟨S, 4, none⟩ = some (.slice (some ⟨g, 0, none⟩) (m + 1) cap) := HR5.out.cell (i := 4) (by decide)
  have f5 := HR5.out.frozen 4
  have cm : w5.cell? ⟨g, m, none⟩ = some (.int .i64 (gt l 0 : Int)) := by have := h51.cell (k := m) (by rw [HLS.out]; omega); rw [HGM.out] at this; exact this
  obtain ⟨W6, hW6⟩ : ∃ W, W = w5.setCell ⟨S, 4, none⟩ (.slice (some ⟨g, 0, none⟩) m cap) := ⟨_, rfl⟩
  have HW6 := Lib.hid hW6
  have HR6 : Hid (W6.rowIs S 101 5 fun k => if k = 4 then .slice (some ⟨g, 0, none⟩) m cap else F k) := by
    show World.rowIs _ _ _ _ _
    rw [hW6]
    refine (HR5.out.set 4 _).congr fun k hk => ?_
    by_cases e : k = 4
    · simp only [if_pos e]
    · simp only [if_neg e]
  have HX6 : Hid (Rw M W6 g cap ((swp l 0 m).take m)) := by
    show Rw _ _ _ _ _
    rw [hW6]
    exact (h51.take m).kept (ty.blk_oth (Ne.symm hgS))
  have HO6 : Hid (Oth (fun k => k = S ∨ some g = some k) w W6) := by
    show Oth _ _ _
    rw [hW6]
    exact (Oth.set (X := fun k => k = S ∨ some g = some k) (h52.mono fun k _ e => .inr (by rw [e])) (.inl rfl) _)
  have c6 : W6.cell? ⟨S, 4, none⟩ = some (.slice (some ⟨g, 0, none⟩) m cap) := HR6.out.cell (i := 4) (by decide)
  have HSK := Lib.hid (sink_any M g cap _ W6 HX6.out HDN.out (by rw [HLT.out]; omega))
  rw [HLT.out] at HSK
  have hm2 : (m : Int) < (m : Int) + 1 := by omega
  have hm3 : (0 : Int) ≤ (m : Int) := by omega
  have hm4 : (m : Int) ≤ (cap : Int) := by omega
  clear hW6 h51 h52 cS
  go_upto_region 8 with fail
  rw [← HW6.out]
  clear c5 f5 cm
  go_wp2_with (go_at_call 82; refine HSK.out.mono ?_; rintro e w7 ⟨rfl, l7, h71, h72, h73, h74⟩; refine Hid.out ?_)
  refine Lib.hid ?_
  have HLL : Hid (l7.length = m) := by show _ = _; rw [h71.length_eq, HLT.out]
  have HR7 : Hid (w7.rowIs S 101 5 fun k => if k = 4 then .slice (some ⟨g, 0, none⟩) m cap else F k) := HR6.out.of_block (h74.block S HR6.out.lt hgS)
  have HO7 : Hid (Oth (fun k => k = S ∨ some g = some k) w w7) := HO6.out.then h74 fun i _ e => .inr (by rw [e])
  have HEN : Hid (∃ v' l', Ho M S F v' l' w7 ∧ l.Perm (gt l 0 :: l') ∧ Hp l' ∧ Oth (fun k => k = S ∨ (Value.slice (some ⟨g, 0, none⟩) (m + 1) cap).ownBlock = some k) w w7 ∧ v'.ownBlock = (Value.slice (some ⟨g, 0, none⟩) (m + 1) cap).ownBlock) :=
    ⟨_, l7, ⟨HR7.out, .inr ⟨g, cap, by rw [HLL.out], h73⟩, HSM.out, Nat.le_trans HSZ.out HO7.out.size⟩, HPM.out.trans (h71.symm.cons _), h72, HO7.out, rfl⟩
  clear h71 h72 h73 h74
  go_wp2
  go_ret2
  exact ⟨rfl, HEN.out⟩
end Go.Proofs.YtccnepenfglfoaaGreat.hp

