import Derived.Test.YtcpmgellfaeejaaGreatDoorH07
import Derived.Test.YtcpmgellfaeejaaGreatDoorH06
import Derived.Maps.Own
import Derived.Maps.OwnOps
import Derived.Maps.OwnSet
import Derived.Handy
import Derived.RangeFuncCalls
import Derived.RangeFuncLeaves
import Derived.Shelf.Abstract
import Derived.Shelf.RegionOpen
import Derived.WalkKit
import Derived.OwnWalkIn
import Derived.TacticsInMore
import Derived.LoopNIn
import Derived.LoopIn
import Derived.Deep.RegionHeld3
namespace Go.Proofs.YtcpmgellfaeejaaGreatDoor.tt
open Go.ChangeShapes Go.WideShapes Go.ChangeAt Go.RowKit Go.Deep Go.Maps
set_option linter.unusedVariables false
set_option linter.unusedSimpArgs false
def AtC (E : Nat → En) : Prop := ∀ (W : World) (k rb rm N : Nat) (B M : Nat → Nat), Br W E k rb rm N B M → Tr E k → ML W → ∀ U : ByteArray, U.size ≤ 1048576 → Calls Tryz.prog 135 #[.pointer (some ⟨rb, 0, none⟩), .string U] W fun e w' => e = .returned (ptr (chd E B k U.data.toList)) ∧ Below W.heap.size W w'
theorem lst_zero {s : ByteArray} (h : pOk s = true) : lst s.data.toList ≠ some 0 := fun e => by
 have h1 := (lst_some e).1
 unfold pOk at h
 cases hl : s.data.toList with
 | nil => rw [hl] at h1; simp at h1
 | cons b l =>
  rw [hl] at h1 h
  have hb : b = 47 := by simpa using h1
  rw [pk, if_pos hb, name_nil] at h
  simp at h
def Wants (E : Nat → En) (k : Nat) (p : List UInt8) : Prop := up p ≠ [] → Dir E k (up p)
def Put (w w' : World) (E : Nat → En) (k rm N : Nat) (B M : Nat → Nat) (p : List UInt8) (nb : Nat) : Prop := ∃ w1 mb pre name, Below w.heap.size w w1 ∧ w1.grownBy w' (some mb) ∧ p = pre ++ name ∧ lst name = none ∧ ((pre = [] ∧ mb = rm) ∨ ∃ j, j < k ∧ (E j).kind = 1 ∧ mb = M j ∧ pre = pth E j ++ [47]) ∧ PM w' mb (N + 1) (fun x => if x = name then nb + 1 else fM E B k pre x)
theorem cut_at {l : List UInt8} {i : Nat} (h : lst l = some i) : l = (l.take i ++ [47]) ++ l.drop (i + 1) ∧ lst (l.drop (i + 1)) = none := by
 obtain ⟨h1, h2⟩ := lst_some h
 obtain ⟨hlt, he⟩ := List.getElem?_eq_some_iff.1 h1
 constructor
 ·have := List.take_append_drop i l
  rw [List.drop_eq_getElem_cons hlt, he] at this
  rw [List.append_assoc]
  exact this.symm
 ·refine lst_no fun j e => ?_
  rw [List.getElem?_drop] at e
  exact h2 (i + 1 + j) (by omega) e
theorem up_some {l : List UInt8} {i : Nat} (h : lst l = some i) : up l = l.take i := by unfold up; rw [h]
theorem up_none {l : List UInt8} (h : lst l = none) : up l = [] := by unfold up; rw [h]
theorem take_ne {l : List UInt8} {i : Nat} (h : lst l = some i) (h0 : i ≠ 0) : l.take i ≠ [] := fun e => by
 have := congrArg List.length e
 have hlt := (List.getElem?_eq_some_iff.1 (lst_some h).1).1
 rw [List.length_take, List.length_nil] at this
 omega
theorem hold_yes {w : World} {E : Nat → En} {k rb rm N : Nat} {B M : Nat → Nat} (h : Br w E k rb rm N B M) (hT : Tr E k) (hm : ML w) (hC : AtC E) (P : ByteArray) (hP : P.size ≤ 1048576) (hpk : pOk P = true) (nb : Nat) (hN : N ≤ 100000) (hw : Wants E k P.data.toList) :
  Calls Tryz.prog 102 #[.pointer (some ⟨rb, 0, none⟩), .string P, .pointer (some ⟨nb, 0, none⟩)] w fun e w' => e = .returned (.bool true) ∧ Put w w' E k rm N B M P.data.toList nb := by
 cases hl : lst P.data.toList with
 | none =>
  refine (hold_root h P hP hl nb hN).mono ?_
  rintro e w' ⟨rfl, hg, hp⟩
  exact ⟨rfl, w, rm, [], P.data.toList, Below.refl _ _, hg, rfl, hl, .inl ⟨rfl, rfl⟩, hp⟩
 | some i =>
  have hi0 : i ≠ 0 := fun e => by subst e; exact lst_zero hpk hl
  have hz : P.data.toList.length = P.size := by simp
  have hi : i < P.size := by have := (List.getElem?_eq_some_iff.1 (lst_some hl).1).1; omega
  obtain ⟨j, hj, hpj, hk⟩ := hw (by rw [up_some hl]; exact take_ne hl hi0)
  rw [up_some hl] at hpj
  have hat : ∀ W, Below w.heap.size w W → Calls Tryz.prog 135 #[.pointer (some ⟨rb, 0, none⟩), .string (P.extract 0 i)] W fun e w' => e = .returned (.pointer (some ⟨B j, 0, none⟩)) ∧ Below W.heap.size W w' := fun W hb => by
   have := hC W k rb rm N B M (h.below hb) hT (hm.below hb) (P.extract 0 i) (by simp; omega)
   rw [ext_take (by omega), chd_yes hT.asc hj hpj] at this
   exact this
  refine (hold_dir h P hP i hl nb j hN hj hk hat).mono ?_
  rintro e w' ⟨rfl, w1, hb1, hg, hp⟩
  obtain ⟨c1, c2⟩ := cut_at hl
  exact ⟨rfl, w1, M j, pth E j ++ [47], P.data.toList.drop (i + 1), hb1, hg, by rw [hpj]; exact c1, c2, .inr ⟨j, hj, hk, rfl, rfl⟩, hp⟩
theorem hold_not {w : World} {E : Nat → En} {k rb rm N : Nat} {B M : Nat → Nat} (h : Br w E k rb rm N B M) (hT : Tr E k) (hm : ML w) (hC : AtC E) (P : ByteArray) (hP : P.size ≤ 1048576) (nb : Nat) (hw : ¬ Wants E k P.data.toList) :
  Calls Tryz.prog 102 #[.pointer (some ⟨rb, 0, none⟩), .string P, .pointer (some ⟨nb, 0, none⟩)] w fun e w' => e = .returned (.bool false) ∧ Below w.heap.size w w' := by
 have hne : up P.data.toList ≠ [] := fun e => hw (fun h => absurd e h)
 have hnd : ¬ Dir E k (up P.data.toList) := fun e => hw (fun _ => e)
 cases hl : lst P.data.toList with
 | none => exact absurd (up_none hl) hne
 | some i =>
  have hz : P.data.toList.length = P.size := by simp
  have hi : i < P.size := by have := (List.getElem?_eq_some_iff.1 (lst_some hl).1).1; omega
  rw [up_some hl] at hnd
  have hat : ∀ W, Below w.heap.size w W → Calls Tryz.prog 135 #[.pointer (some ⟨rb, 0, none⟩), .string (P.extract 0 i)] W fun e w' => e = .returned (ptr (chd E B k (P.data.toList.take i))) ∧ Below W.heap.size W w' := fun W hb => by
   have := hC W k rb rm N B M (h.below hb) hT (hm.below hb) (P.extract 0 i) (by simp; omega)
   rwa [ext_take (by omega)] at this
  rcases chd_cases E B k (P.data.toList.take i) with ⟨j, hj, hpj, e⟩ | ⟨_, e⟩
  ·rw [e] at hat
   exact hold_leaf h P hP i hl nb j hj (fun hk => hnd ⟨j, hj, hpj, hk⟩) hat
  ·rw [e] at hat
   exact hold_none P hP i hl nb hat
theorem new_any (num k : Int) (w : World) :
  Calls Tryz.prog 99 #[.int .i64 num, .int .i64 k] w fun e w' => e = .returned (.pointer (some ⟨w.heap.size, 0, none⟩)) ∧ w'.cell? ⟨w.heap.size, 0, none⟩ = some (.int .i64 num) ∧ (k = 1 → w'.cell? ⟨w.heap.size, 1, none⟩ = some (.map (some (w.heap.size + 1))) ∧ PM w' (w.heap.size + 1) 0 (fun _ => 0)) ∧ (¬ k = 1 → w'.cell? ⟨w.heap.size, 1, none⟩ = some (.map none)) ∧ Below w.heap.size w w' := by
 by_cases hk : k = 1
 ·subst hk
  refine (new_dir num w).mono ?_
  rintro e w' ⟨rfl, h1, h2, h3, _, h5⟩
  exact ⟨rfl, h1, fun _ => ⟨h2, h3⟩, fun h => absurd rfl h, h5⟩
 ·refine (new_leaf num k hk w).mono ?_
  rintro e w' ⟨rfl, h1, h2, _, h5⟩
  exact ⟨rfl, h1, fun h => absurd h hk, fun _ => h2, h5⟩
end Go.Proofs.YtcpmgellfaeejaaGreatDoor.tt

namespace Go.Proofs.YtcpmgellfaeejaaGreatDoor.tt
open Go.ChangeShapes Go.WideShapes Go.ChangeAt Go.RowKit Go.Deep Go.Maps Go.Shelf Go.Proofs.YtcpmgellfaeejaaGreatDoor.rt
attribute [local go_sem] Oper.semAt_some
set_option linter.unusedVariables false
set_option linter.unusedSimpArgs false
def jo : List (List UInt8) → List UInt8
 | [] => []
 | [x] => x
 | x :: y :: r => x ++ 47 :: jo (y :: r)
theorem jo_snoc : ∀ (pre : List (List UInt8)) (x : List UInt8), pre ≠ [] → jo (pre ++ [x]) = jo pre ++ 47 :: x
 | [], _, h => absurd rfl h
 | [a], x, _ => by simp [jo]
 | a :: b :: r, x, _ => by
  have := jo_snoc (b :: r) x (by simp)
  simp only [List.cons_append] at this ⊢
  rw [jo, this, jo]
  simp
theorem spl_ne (cur l : List UInt8) : spl cur l ≠ [] := fun e => by
 have := spl_len l cur
 rw [e] at this
 simp at this
theorem jo_cons (x : List UInt8) (r : List (List UInt8)) (h : r ≠ []) : jo (x :: r) = x ++ 47 :: jo r := by
 cases r with
 | nil => exact absurd rfl h
 | cons y r => rfl
theorem jo_spl : ∀ (l cur : List UInt8), jo (spl cur l) = cur ++ l
 | [], cur => by simp [spl, jo]
 | b :: l, cur => by
  rw [spl]
  by_cases hb : b = 47
  ·rw [if_pos hb, jo_cons _ _ (spl_ne _ _), jo_spl l [], hb]; simp
  ·rw [if_neg hb, jo_spl l (cur ++ [b])]; simp
theorem spl_plain : ∀ (l cur : List UInt8), (∀ i : Nat, cur[i]? ≠ some 47) → ∀ x ∈ spl cur l, lst x = none
 | [], cur, h, x, hx => by
  simp [spl] at hx
  subst hx
  exact lst_no h
 | b :: l, cur, h, x, hx => by
  rw [spl] at hx
  by_cases hb : b = 47
  ·rw [if_pos hb] at hx
   rcases List.mem_cons.1 hx with rfl | hx
   ·exact lst_no h
   ·exact spl_plain l [] (by simp) x hx
  ·rw [if_neg hb] at hx
   refine spl_plain l (cur ++ [b]) (fun i e => ?_) x hx
   rcases Nat.lt_or_ge i cur.length with hi | hi
   ·rw [List.getElem?_append_left hi] at e; exact h i e
   ·rw [List.getElem?_append_right hi] at e
    cases hd : i - cur.length with
    | zero => rw [hd] at e; simp at e; exact hb e
    | succ m => rw [hd] at e; simp at e
theorem jo_app : ∀ (a b : List (List UInt8)), a ≠ [] → b ≠ [] → jo (a ++ b) = jo a ++ 47 :: jo b
 | [], _, h, _ => absurd rfl h
 | [x], b, _, hb => by rw [List.singleton_append, jo_cons _ _ hb]; rfl
 | x :: y :: r, b, _, hb => by
  have := jo_app (y :: r) b (by simp) hb
  simp only [List.cons_append] at this ⊢
  rw [jo, this, jo]
  simp
def nd (E : Nat → En) (B : Nat → Nat) (k rb : Nat) (pre : List ByteArray) : Nat := if pre = [] then rb + 1 else chd E B k (jo (pre.map (·.data.toList)))
theorem nd_all (E : Nat → En) (B : Nat → Nat) (k rb : Nat) (U : ByteArray) : nd E B k rb (PL U) = chd E B k U.data.toList := by
 have h : (PL U).map (·.data.toList) = spl [] U.data.toList := by unfold PL; rw [List.map_map]; exact (List.map_congr_left (fun x _ => by simp)).trans (List.map_id _)
 unfold nd
 rw [h, jo_spl, if_neg]
 ·rfl
 ·intro e
  rw [e] at h
  exact spl_ne [] U.data.toList h.symm
theorem nd_dead {E : Nat → En} {B : Nat → Nat} {k rb : Nat} (hT : Tr E k) {U : ByteArray} {pre : List ByteArray} (hp : pre <+: PL U) (h : nd E B k rb pre = 0) : chd E B k U.data.toList = 0 := by
 rw [← nd_all E B k rb U]
 obtain ⟨r, hr⟩ := hp
 unfold nd at h ⊢
 by_cases hn : pre = []
 ·rw [if_pos hn] at h; cases h
 ·rw [if_neg hn] at h
  rw [← hr, if_neg (by simp [hn])]
  by_cases hr0 : r = []
  ·rw [hr0, List.append_nil]; exact h
  ·rw [List.map_append, jo_app _ _ (by simpa using hn) (by simpa using hr0)]
   exact chd_dead hT _ _ _ (Nat.le_refl _) h
theorem PL_plain {U x : ByteArray} (h : x ∈ PL U) : lst x.data.toList = none ∧ x.size ≤ U.size := by
 unfold PL at h
 obtain ⟨l, hl, rfl⟩ := List.mem_map.1 h
 refine ⟨by simpa using spl_plain _ [] (by simp) l hl, ?_⟩
 have := spl_small _ _ l hl
 have e : (ByteArray.mk l.toArray).size = l.length := by simp [ByteArray.size]
 rw [e]
 simpa using this
end Go.Proofs.YtcpmgellfaeejaaGreatDoor.tt

namespace Go.Proofs.YtcpmgellfaeejaaGreatDoor.tt
open Go.ChangeShapes Go.WideShapes Go.ChangeAt Go.RowKit Go.Deep Go.Maps Go.Shelf Go.Proofs.YtcpmgellfaeejaaGreatDoor.rt
attribute [local go_sem] Oper.semAt_some
set_option linter.unusedVariables false
set_option linter.unusedSimpArgs false
theorem look_nil (x : ByteArray) (hx : x.size ≤ 1048576) (w : World) : (Instr.lookup 143 (.map none) (.string x) false).run Tryz.prog w = .ok (ptr 0) w := by
 have hK := string_keyed Tryz.underlying9
 rcases hK.find w (key9 x hx) [] (by simp) with ⟨f1, _⟩ | ⟨j, e0, _, f2, _⟩
 ·simp [Instr.lookup, run_underlying Tryz.underlying143, hK.check w _ (key9 x hx), f1, Tryz.zeroValue77 w, Result.andThen, ptr]
 ·simp at f2
theorem step {W : World} {E : Nat → En} {k rb rm N : Nat} {B M : Nat → Nat} (h : Br W E k rb rm N B M) (hT : Tr E k) {pre : List ByteArray} {b : Nat} (hb : nd E B k rb pre = b + 1) {x : ByteArray} (hx : lst x.data.toList = none) (hxs : x.size ≤ 1048576) :
  ∃ m, W.cell? ⟨b, 1, none⟩ = some (.map m) ∧ (Instr.lookup 143 (.map m) (.string x) false).run Tryz.prog W = .ok (ptr (nd E B k rb (pre ++ [x]))) W := by
 have hn2 : nd E B k rb (pre ++ [x]) = chd E B k (jo ((pre ++ [x]).map (·.data.toList))) := by unfold nd; rw [if_neg (by simp)]
 rw [hn2, List.map_append]
 by_cases hp : pre = []
 ·subst hp
  have : rb = b := by simpa [nd] using hb
  subst this
  refine ⟨some rm, h.root1, ?_⟩
  rw [h.rootM.look x hxs, fM, if_pos hx]
  rfl
 ·unfold nd at hb
  rw [if_neg hp] at hb
  rw [List.map_cons, List.map_nil, jo_snoc _ _ (by simpa using hp)]
  rcases chd_cases E B k (jo (pre.map (·.data.toList))) with ⟨j, hj, hpj, e⟩ | ⟨_, e⟩
  ·obtain rfl : B j = b := by omega
   rw [← hpj]
   by_cases hk : (E j).kind = 1
   ·obtain ⟨c, pm⟩ := h.dir j hj hk
    refine ⟨_, c, ?_⟩
    rw [pm.look x hxs, fM, if_pos hx]
    simp
   ·refine ⟨_, h.leaf j hj hk, ?_⟩
    rw [look_nil x hxs, chd_leaf hT hj hk hx]
  ·omega
end Go.Proofs.YtcpmgellfaeejaaGreatDoor.tt

namespace Go.Proofs.YtcpmgellfaeejaaGreatDoor.tt
open Go.ChangeShapes Go.WideShapes Go.ChangeAt Go.RowKit Go.Deep Go.Maps Go.Shelf Go.Proofs.YtcpmgellfaeejaaGreatDoor.rt
attribute [local go_sem] Oper.semAt_some
set_option linter.unusedVariables false
set_option linter.unusedSimpArgs false
structure AI (E : Nat → En) (B : Nat → Nat) (k rb : Nat) (w : World) (pre : List ByteArray) (W : World) : Prop where
 b : Boxed W w.heap.size 77 (ptr (nd E B k rb pre))
 n : nd E B k rb pre ≠ 0
 r : Boxed W (w.heap.size + 1) 77 (.pointer none)
 l : Below w.heap.size w W
structure AX (E : Nat → En) (B : Nat → Nat) (k rb : Nat) (w : World) (pre : List ByteArray) (W : World) : Prop where
 n : nd E B k rb pre = 0
 r : Boxed W (w.heap.size + 1) 77 (.pointer none)
 l : Below w.heap.size w W
theorem AI.grow {E : Nat → En} {B : Nat → Nat} {k rb : Nat} {w : World} {pre : List ByteArray} {W W' : World} {row : Option Nat} (h : AI E B k rb w pre W) (hg : W.grownBy W' row) (hr : ∀ j, row = some j → w.heap.size + 1 < j) : AI E B k rb w pre W' :=
 ⟨h.b.kept hg (fun e => by have := hr _ e.symm; omega), h.n, h.r.kept hg (fun e => by have := hr _ e.symm; omega), h.l.grown hg h.l.size (fun j e => by have := hr j e; omega)⟩
theorem AX.grow {E : Nat → En} {B : Nat → Nat} {k rb : Nat} {w : World} {pre : List ByteArray} {W W' : World} {row : Option Nat} (h : AX E B k rb w pre W) (hg : W.grownBy W' row) (hr : ∀ j, row = some j → w.heap.size + 1 < j) : AX E B k rb w pre W' :=
 ⟨h.n, h.r.kept hg (fun e => by have := hr _ e.symm; omega), h.l.grown hg h.l.size (fun j e => by have := hr j e; omega)⟩
theorem kb_set {W : World} {B b : Nat} (h : b < B) (v : Value) : Kb B W (W.setCell ⟨b, 0, none⟩ v) :=
 ⟨(KeepsWalks.setCell W _ v).size, Below.heap_setCell _ _ _ _ (by show _ ≠ b; omega), Below.heap_setCell _ _ _ _ (by show _ ≠ b; omega), Below.heap_setCell _ _ _ _ (by show _ ≠ b; omega)⟩
set_option maxHeartbeats 4000000 in
set_option maxRecDepth 100000 in
theorem at_any (E : Nat → En) : AtC E := by
 intro w k rb rm N B M hBr hT hm U hU
 have HBR : Hid (∀ W, Below w.heap.size w W → Br W E k rb rm N B M) := fun W hb => hBr.below hb
 have HT : Hid (Tr E k) := hT
 have hrb : rb < w.heap.size := World.block_lt_of_cell? _ _ hBr.root0
 clear hBr hT hm
 refine (callsIn_wide (n := 3)).1 ?_
 refine callsIn_of_wp_marks Tryz.func135 rfl trivial ?_ rfl
 simp only [Tryz.ntmps135, List.size_toArray, List.length_cons, List.length_nil, Nat.reduceAdd, Nat.reduceSub, Array.replicate_succ, Array.replicate_zero, List.push_toArray, List.append_toArray, List.nil_append, List.cons_append]
 gi_wp2_with (refine ⟨trivial, ?_⟩; gi_at_call 160; refine (callsIn_wide.2 (seq_any U _)).mono ?_; rintro e w' ⟨rfl, rfl⟩)
 have bB := ((((Boxed.new w 77 (.pointer (some ⟨rb, 0, none⟩))).alloc (.cells #[.pointer none] 77)).alloc (.cells #[.string U] 9)).alloc (.cells #[.string ⟨#[47]⟩] 9)).alloc (.cells #[.int .i64 0] 3)
 have bR := (((Boxed.new (w.alloc (.cells #[.pointer (some ⟨rb, 0, none⟩)] 77)) 77 (.pointer none)).alloc (.cells #[.string U] 9)).alloc (.cells #[.string ⟨#[47]⟩] 9)).alloc (.cells #[.int .i64 0] 3)
 have b2 := ((Boxed.new ((w.alloc (.cells #[.pointer (some ⟨rb, 0, none⟩)] 77)).alloc (.cells #[.pointer none] 77)) 9 (.string U)).alloc (.cells #[.string ⟨#[47]⟩] 9)).alloc (.cells #[.int .i64 0] 3)
 have b3 := (Boxed.new (((w.alloc (.cells #[.pointer (some ⟨rb, 0, none⟩)] 77)).alloc (.cells #[.pointer none] 77)).alloc (.cells #[.string U] 9)) 9 (.string ⟨#[47]⟩)).alloc (.cells #[.int .i64 0] 3)
 have b4 := Boxed.new ((((w.alloc (.cells #[.pointer (some ⟨rb, 0, none⟩)] 77)).alloc (.cells #[.pointer none] 77)).alloc (.cells #[.string U] 9)).alloc (.cells #[.string ⟨#[47]⟩] 9)) 3 (.int .i64 0)
 simp only [World.size_alloc] at bR b2 b3 b4
 have hB0 : Below w.heap.size w (((((w.alloc (.cells #[.pointer (some ⟨rb, 0, none⟩)] 77)).alloc (.cells #[.pointer none] 77)).alloc (.cells #[.string U] 9)).alloc (.cells #[.string ⟨#[47]⟩] 9)).alloc (.cells #[.int .i64 0] 3)) := (((((Below.refl _ w).alloc (Nat.le_refl _) _).alloc (by simp) _).alloc (by simp; omega) _).alloc (by simp; omega) _).alloc (by simp; omega) _
 have hsz : (((((w.alloc (.cells #[.pointer (some ⟨rb, 0, none⟩)] 77)).alloc (.cells #[.pointer none] 77)).alloc (.cells #[.string U] 9)).alloc (.cells #[.string ⟨#[47]⟩] 9)).alloc (.cells #[.int .i64 0] 3)).heap.size = w.heap.size + 5 := by simp
 obtain ⟨W0, hW0⟩ : ∃ W0, ((((w.alloc (.cells #[.pointer (some ⟨rb, 0, none⟩)] 77)).alloc (.cells #[.pointer none] 77)).alloc (.cells #[.string U] 9)).alloc (.cells #[.string ⟨#[47]⟩] 9)).alloc (.cells #[.int .i64 0] 3) = W0 := ⟨_, rfl⟩
 rw [hW0] at bB bR b2 b3 b4 hB0 hsz ⊢
 clear hW0
 refine range_t (by decide) (gf := 171) (lb := #[.pointer (some ⟨w.heap.size + 1 + 1 + 1, 0, none⟩), .pointer (some ⟨w.heap.size + 1 + 1, 0, none⟩), .pointer (some ⟨w.heap.size + 1 + 1 + 1 + 1, 0, none⟩)]) rfl (enters_of Tryz.func171 (by kernel_rfl) rfl)
  (split_hands 2 (w.heap.size + 1 + 1) U hU W0 (by decide) ⟨b2, b3, b4⟩) (fun r e => by rw [e]; omega)
  (fun A X C h1 h2 => ⟨Nat.le_trans h1.1 h2.1, h2.2.1.trans h1.2.1, h2.2.2.1.trans h1.2.2.1, h2.2.2.2.trans h1.2.2.2⟩)
  (fun W l o o' hl h1 h2 h3 => ⟨by simp, World.putObj_heap_other (by omega), World.putObj_heap_other (by omega), World.putObj_heap_other (by omega)⟩) rfl
  (AI E B k rb w) (AX E B k rb w)
  (fun s W W' row h hg hr => h.grow hg (fun j e => by have := (hr j e).1; omega)) (fun s W W' row h hg hr => h.grow hg (fun j e => by have := (hr j e).1; omega))
  (fun s W W' row h hg hr => h.grow hg (fun j e => by have := hr j e; omega)) (fun s W W' row h hg hr => h.grow hg (fun j e => by have := hr j e; omega))
  ⟨bB, by simp [nd], bR, hB0⟩
  (fun x => { tmps := #[.pointer (some ⟨rb, 0, none⟩), .string U, .pointer (some ⟨w.heap.size, 0, none⟩), undef, .pointer (some ⟨w.heap.size + 1, 0, none⟩), .string x, .string U, .func (.func 171) #[] #[.pointer (some ⟨w.heap.size + 1 + 1 + 1, 0, none⟩), .pointer (some ⟨w.heap.size + 1 + 1, 0, none⟩), .pointer (some ⟨w.heap.size + 1 + 1 + 1 + 1, 0, none⟩)], .string x, undef, undef, undef, undef, undef, undef, undef, undef, undef], defers := [] })
  ?assign ?body ?done ?stop
 case assign =>
  intro l x W K hK
  gi_wp2
  exact hK
 case body =>
  intro l pre x W hi hp
  obtain ⟨hx, hxs⟩ := PL_plain (hp.subset (by simp : x ∈ pre ++ [x]))
  obtain ⟨b, hb⟩ : ∃ b, nd E B k rb pre = b + 1 := ⟨nd E B k rb pre - 1, by have := hi.n; omega⟩
  have hc : W.cell? ⟨w.heap.size, 0, none⟩ = some (.pointer (some ⟨b, 0, none⟩)) := by have := hi.b.cell; rwa [hb] at this
  have hf := hi.b.frozen
  have hcr := hi.r.cell
  have hfr := hi.r.frozen
  obtain ⟨m, hcm, hlk⟩ := step (HBR.out W hi.l) HT.out hb hx (by omega)
  cases hnx : nd E B k rb (pre ++ [x]) with
  | zero =>
   rw [hnx] at hlk
   have hlk' : (Instr.lookup 143 (.map m) (.string x) false).run Tryz.prog W = .ok (.pointer none) W := hlk
   clear hlk
   gi_wp2
   exact ⟨((KeepsOthers.setCell _ _ _).trans (KeepsOthers.setCell _ _ _)).from _, ⟨hnx, (hi.r.other (by omega) _).set _, (hi.l.setCell (p := ⟨w.heap.size, 0, none⟩) (Nat.le_refl _) _).setCell (p := ⟨w.heap.size + 1, 0, none⟩) (by simp) _⟩⟩
  | succ c =>
   rw [hnx] at hlk
   have hlk' : (Instr.lookup 143 (.map m) (.string x) false).run Tryz.prog W = .ok (.pointer (some ⟨c, 0, none⟩)) W := hlk
   clear hlk
   gi_wp2
   refine ⟨(KeepsOthers.setCell _ _ _).from _, kb_set (by omega) _, ⟨?_, by omega, hi.r.other (by omega) _, hi.l.setCell (p := ⟨w.heap.size, 0, none⟩) (Nat.le_refl _) _⟩⟩
   rw [hnx]
   exact hi.b.set _
 case done =>
  intro D W hD hi hK
  obtain ⟨b, hb⟩ : ∃ b, nd E B k rb (PL U) = b + 1 := ⟨nd E B k rb (PL U) - 1, by have := hi.n; omega⟩
  have hc : W.cell? ⟨w.heap.size, 0, none⟩ = some (.pointer (some ⟨b, 0, none⟩)) := by have := hi.b.cell; rwa [hb] at this
  have hcr := hi.r.cell
  have hfr := hi.r.frozen
  gi_wp2
  have hK' := (KeepsOthers.setCell W ⟨w.heap.size + 1, 0, none⟩ (.pointer (some ⟨b, 0, none⟩))).same D _ hK rfl
  refine ⟨by simp, .inl ⟨_, _, rfl, run_takeDeferred hK', ?_⟩⟩
  have hc5 := cell_kept (hi.r.set (.pointer (some ⟨b, 0, none⟩))).cell (grownBy_putObj' _ D (.deferred none)) (fun r e => by cases e; exact ⟨_, hK', rfl⟩)
  refine ⟨.pointer (some ⟨b, 0, none⟩), ?_, ?_, (hi.l.setCell (p := ⟨w.heap.size + 1, 0, none⟩) (by simp) _).trans (belowK_b (w := w) (Nat.le_refl _) _ D _ _ (by omega) hK' rfl rfl)⟩
  ·simp [results, Tryz.f135, go_sem, hc5]
  ·rw [← nd_all E B k rb U, hb]; rfl
 case stop =>
  intro D pre W hD hp hx hK
  have hcr := hx.r.cell
  gi_wp2
  refine ⟨by simp, .inl ⟨_, _, rfl, run_takeDeferred hK, ?_⟩⟩
  have hc5 := cell_kept hcr (grownBy_putObj' _ D (.deferred none)) (fun r e => by cases e; exact ⟨_, hK, rfl⟩)
  refine ⟨.pointer none, ?_, ?_, hx.l.trans (belowK_b (w := w) (Nat.le_refl _) _ D _ _ (by omega) hK rfl rfl)⟩
  ·simp [results, Tryz.f135, go_sem, hc5]
  ·rw [nd_dead HT.out hp hx.n]; rfl
end Go.Proofs.YtcpmgellfaeejaaGreatDoor.tt

namespace Go.Proofs.YtcpmgellfaeejaaGreatDoor.rf
open Go.RowKit Go.Shelf Go.Proofs.YtcpmgellfaeejaaGreatDoor.rt Go.Maps
attribute [local go_sem] Oper.semAt_some
set_option linter.unusedVariables false
set_option linter.unusedSimpArgs false
def pcs (d : ByteArray) : List ByteArray := (List.range (d.size - 12)).map fun i => d.extract i (i + 13)
def PW (E : Nat → tt.En) : Nat → List ByteArray
 | 0 => []
 | k + 1 => PW E k ++ pcs (E k).data
theorem pcs_len (d : ByteArray) : (pcs d).length = d.size - 12 := by simp [pcs]
theorem pcs_take {d : ByteArray} {m : Nat} (h : m < d.size - 12) : (pcs d).take (m + 1) = (pcs d).take m ++ [d.extract m (m + 13)] := by
 unfold pcs
 rw [List.take_add_one]
 simp [h]
theorem PW_split {E : Nat → tt.En} {i : Nat} : ∀ {N : Nat}, i < N → ∃ R, PW E N = PW E i ++ (pcs (E i).data ++ R)
 | N + 1, h => by
  rcases Nat.lt_or_ge i N with h' | h'
  ·obtain ⟨R, hR⟩ := PW_split (E := E) h'
   exact ⟨R ++ pcs (E N).data, by rw [PW, hR]; simp⟩
  ·obtain rfl : i = N := by omega
   exact ⟨[], by simp [PW]⟩
theorem mem_pcs {d x : ByteArray} : x ∈ pcs d ↔ ∃ i, i + 13 ≤ d.size ∧ x = d.extract i (i + 13) := by
 unfold pcs
 simp only [List.mem_map, List.mem_range]
 constructor
 ·rintro ⟨i, hi, rfl⟩
  exact ⟨i, by omega, rfl⟩
 ·rintro ⟨i, hi, rfl⟩
  exact ⟨i, by omega, rfl⟩
theorem mem_PW {E : Nat → tt.En} {x : ByteArray} : ∀ {N : Nat}, x ∈ PW E N ↔ ∃ k, k < N ∧ x ∈ pcs (E k).data
 | 0 => by simp [PW]
 | N + 1 => by
  rw [PW, List.mem_append, mem_PW]
  constructor
  ·rintro (⟨k, hk, h⟩ | h)
   ·exact ⟨k, by omega, h⟩
   ·exact ⟨N, by omega, h⟩
  ·rintro ⟨k, hk, h⟩
   rcases Nat.lt_or_ge k N with h' | h'
   ·exact .inl ⟨k, h', h⟩
   ·obtain rfl : k = N := by omega
    exact .inr h
theorem inE_PW {E : Nat → tt.En} {N : Nat} {p : List UInt8} (hp : p.length = 13) : InE E N p ↔ ∃ x ∈ PW E N, x.data.toList = p := by
 constructor
 ·rintro ⟨k, hk, i, hi, e⟩
  rw [hp] at hi e
  refine ⟨(E k).data.extract i (i + 13), mem_PW.2 ⟨k, hk, mem_pcs.2 ⟨i, by simpa using hi, rfl⟩⟩, by rw [ext_at]; exact e⟩
 ·rintro ⟨x, hx, e⟩
  obtain ⟨k, hk, h⟩ := mem_PW.1 hx
  obtain ⟨i, hi, rfl⟩ := mem_pcs.1 h
  rw [ext_at] at e
  exact ⟨k, hk, i, by rw [hp]; simpa using hi, by rw [hp]; exact e⟩
def KC (W W' : World) : Prop := W.heap.size ≤ W'.heap.size ∧ ∀ (j : Nat) cs t f, W.heap[j]? = some (.cells cs t f) → W'.heap[j]? = some (.cells cs t f)
theorem KC.cell {W W' : World} {b o : Nat} {v : Value} (h : KC W W') (hc : W.cell? ⟨b, o, none⟩ = some v) : W'.cell? ⟨b, o, none⟩ = some v := by
 obtain ⟨cs, t, f, hb⟩ : ∃ cs t f, W.heap[b]? = some (.cells cs t f) := by
  unfold World.cell? at hc
  simp only at hc
  split at hc
  ·next cs t f e => exact ⟨_, _, _, e⟩
  all_goals simp at hc
 exact (World.cell?_of_block (a := ⟨b, o, none⟩) ((h.2 b cs t f hb).trans hb.symm)).trans hc
theorem KC.trans {A B C : World} (h : KC A B) (k : KC B C) : KC A C := ⟨Nat.le_trans h.1 k.1, fun j cs t f e => k.2 j cs t f (h.2 j cs t f e)⟩
theorem KC.en {W W' : World} {b o n : Nat} {E : Nat → tt.En} (h : KC W W') (hE : tt.EnR W b o n E) : tt.EnR W' b o n E := fun i hi => by
 obtain ⟨h0, h1, h2, h3⟩ := hE i hi
 exact ⟨h.cell h0, h.cell h1, h.cell h2, h.cell h3⟩
set_option maxRecDepth 100000 in
set_option maxHeartbeats 2000000 in
theorem words_hands (n tb : Nat) (E : Nat → tt.En) (b o N cap : Nat) (w : World) (hn : 1 ≤ n) (ht : w.cell? ⟨tb, 0, none⟩ = some (.slice (some ⟨b, o, none⟩) N cap)) (hE : tt.EnR w b o N E) (hS : tt.SmE N E) (hN : N ≤ 1048576) :
  Hands n Tryz.prog 147 #[.pointer (some ⟨tb, 0, none⟩)] KC (fun _ => False) (PW E N) w := by
 intro l J Jx W hW hJ hJx hY h0
 have hc0 : W.cell? ⟨tb, 0, none⟩ = some (.slice (some ⟨b, o, none⟩) N cap) := (hW.cell (p := ⟨tb, 0, none⟩) (World.block_lt_of_cell? _ _ ht)).trans ht
 have hE0 := hE.below hW
 have HS : Hid (tt.SmE N E) := hS
 clear hS
 refine callsIn_of_wp Tryz.func147 rfl trivial ?_ rfl
 simp only [Tryz.ntmps147, List.size_toArray, List.length_cons, List.length_nil, Nat.reduceAdd, Nat.reduceSub, Array.replicate_succ, Array.replicate_zero, List.push_toArray, List.append_toArray, List.nil_append, List.cons_append]
 gi_wp2
 gi_loopw [8] (fun y wr => ∃ i : Nat, i ≤ N ∧ y = .int .i64 (i : Int) ∧ tt.EnR wr b o N E ∧ J (PW E i) wr) (fun y _ => N - (intOf y).toNat)
 case atStart => exact ⟨0, Nat.zero_le _, rfl, hE0, h0⟩
 case round =>
  obtain ⟨i, hi, rfl, hEw, hJw⟩ := hrel
  have HEW : Hid (tt.EnR wr b o N E) := hEw
  have HJW : Hid (J (PW E i) wr) := hJw
  clear hJw
  by_cases hil : i < N
  ·have hil' : (i : Int) < (N : Int) := by omega
   have hi0 : (0 : Int) ≤ (i : Int) := by omega
   obtain ⟨e0, e1, e2, e3⟩ := hEw i hil
   have hds := (HS.out i hil).2
   obtain ⟨R, hR⟩ := PW_split (E := E) hil
   have HPW : Hid (PW E N = PW E i ++ (pcs (E i).data ++ R)) := hR
   have HPX : Hid (PW E (i + 1) = PW E i ++ pcs (E i).data) := rfl
   obtain ⟨d, hd⟩ : ∃ d, (E i).data = d := ⟨_, rfl⟩
   obtain ⟨d0, hd0⟩ : ∃ d, (E i).path = d := ⟨_, rfl⟩
   obtain ⟨d1, hd1⟩ : ∃ d, (E i).kind = d := ⟨_, rfl⟩
   obtain ⟨d3, hd3⟩ : ∃ d, (E i).exec = d := ⟨_, rfl⟩
   rw [hd] at e2 hds HPW HPX
   rw [hd0] at e0
   rw [hd1] at e1
   rw [hd3] at e3
   clear hR hd hd0 hd1 hd3 hEw
   obtain ⟨wo, rfl⟩ : ∃ wo, wo = wr := ⟨_, rfl⟩
   gi_wp2
   gi_loopw [5] (fun y wr => ∃ m : Nat, m ≤ d.size - 12 ∧ y = .int .i64 ((m + 13 : Nat) : Int) ∧ tt.EnR wr b o N E ∧ wr.cell? ⟨wo.heap.size, 2, none⟩ = some (.string d) ∧ J (PW E i ++ (pcs d).take m) wr) (fun y _ => d.size + 14 - (intOf y).toNat)
   case atStart =>
    refine ⟨0, Nat.zero_le _, rfl, HEW.out.below ((Below.refl _ _).alloc (Nat.le_refl _) _), by simp [go_sem], ?_⟩
    rw [List.take_zero, List.append_nil]
    exact hJ _ _ _ none HJW.out (World.grownBy_alloc _ _ _) (fun r e => by cases e)
   case round =>
    obtain ⟨m, hm, rfl, hEr, hbx, hJr⟩ := hrel
    have HER : Hid (tt.EnR wr b o N E) := hEr
    clear hEr
    by_cases hml : m < d.size - 12
    ·have hml' : (m : Int) + 13 ≤ (d.size : Int) := by omega
     have hm0 : (0 : Int) ≤ (m : Int) := by omega
     have hm1 : (m : Int) ≤ (m : Int) + 13 := by omega
     have hw1 : IntKind.i64.wrap (m : Int) = (m : Int) := by rw [IntKind.wrap_i64]; omega
     have HTK : Hid ((pcs d).take (m + 1) = (pcs d).take m ++ [d.extract m (m + 13)]) := pcs_take hml
     obtain ⟨fn, tmps, assign, body, hy, hR⟩ := hY (PW E i ++ (pcs d).take m) (d.extract m (m + 13)) wr hJr ⟨(pcs d).drop (m + 1) ++ R, by rw [HPW.out, List.append_assoc (PW E i), ← HTK.out, List.append_assoc, ← List.append_assoc ((pcs d).take (m + 1)), List.take_append_drop]⟩
     gi_wp2
     refine hR.mono ?_
     rintro e W3 (⟨rfl, hJ3, hk3⟩ | ⟨rfl, hJx3⟩)
     ·have hE3 := hk3.en HER.out
      have hb3 := hk3.cell hbx
      gi_wp2
      go_roundw
      case rel => exact ⟨m + 1, by omega, by go_num, hE3, hb3, by rw [HTK.out, ← List.append_assoc]; exact hJ3⟩
      case measure => simp [intOf]; omega
     ·gi_wp2
      refine bodyPost_ret (results_none rfl _ _ _) rfl ?_
      exact ⟨⟨_, rfl⟩, .inr ⟨_, ⟨(pcs d).drop (m + 1) ++ R, by rw [HPW.out, List.append_assoc (PW E i), ← HTK.out, List.append_assoc, ← List.append_assoc ((pcs d).take (m + 1)), List.take_append_drop]⟩, hJx3⟩⟩
    ·have hml' : ¬ (m : Int) + 13 ≤ (d.size : Int) := by omega
     have HJN : Hid (J (PW E (i + 1)) wr) := by
      have h := hJr
      rw [List.take_of_length_le (by rw [pcs_len]; omega), ← HPX.out] at h
      exact h
     clear hJr
     gi_wp2
     go_roundw
     case rel => exact ⟨i + 1, by omega, by go_num, HER.out, HJN.out⟩
     case measure => simp [intOf]; omega
  ·have hil' : ¬ (i : Int) < (N : Int) := by omega
   obtain rfl : i = N := by omega
   gi_wp2
   go_end0
   exact ⟨⟨_, rfl⟩, .inl HJW.out⟩
end Go.Proofs.YtcpmgellfaeejaaGreatDoor.rf

namespace Go.Proofs.YtcpmgellfaeejaaGreatDoor.rf
open Go.ChangeShapes Go.WideShapes Go.ChangeAt Go.RowKit Go.Deep Go.Shelf Go.Sort Go.Maps
set_option linter.unusedVariables false
set_option linter.unusedSimpArgs false
theorem keyS (t : ByteArray) (ht : t.size ≤ 1048576) : keyOf Tryz.prog 9 (.string t) = some (.string t.data.toList) := WideMaps.keyOf_string_mk Tryz.underlying9 (by unfold maxLen; omega)
theorem keyedS : Keyed Tryz.prog 9 := string_keyed Tryz.underlying9
abbrev OwM (w : World) (b n : Nat) (D : DataW Unit) : Prop := w.ownsMap Tryz.prog 9 unitElem b n D
set_option maxRecDepth 100000 in
theorem add_any (t : ByteArray) (ht : t.size ≤ 1048576) (b n : Nat) (hn : n ≤ 100000000) (D : DataW Unit) (w : World) (h : OwM w b n D) :
  Calls Tryz.prog 79 #[.map (some b), .string t] w fun e w' => (∃ v, e = .returned v) ∧ OwM w' b (n + 1) (D.put (.string t.data.toList) (.agg [])) ∧ w.grownBy w' (some b) := by
 have hkey := keyS t ht
 go_enter Tryz.func79, Tryz.ntmps79
 go_wp2_with (first
  | (at_mapUpdate; refine wpList_mapUpdate_own _ rfl _ _ _ 58 rfl 9 99 keyedS Tryz.underlying58 _ b n D rfl h (by unfold maxLen; omega) _ _ _ rfl rfl hkey _ [] unitElem_mk ?_; intro wu hownu hgu)
  | go_in)
 go_returns
 exact ⟨⟨_, rfl⟩, hownu, hgu⟩
set_option maxRecDepth 100000 in
theorem has_any (t : ByteArray) (ht : t.size ≤ 1048576) (b n : Nat) (D : DataW Unit) (w : World) (h : OwM w b n D) :
  Calls Tryz.prog 41 #[.map (some b), .string t] w fun e w' => e = .returned (.bool (Maps.has D (.string t.data.toList))) ∧ Below w.heap.size w w' := by
 have hkey := keyS t ht
 go_enter Tryz.func41, Tryz.ntmps41
 go_wp2_with (first
  | (at_lookup; refine wpList_lookup_own_unit _ rfl _ _ 58 rfl 9 99 keyedS Tryz.underlying58 (Tryz.zeroValue99 _) b n D rfl h _ _ rfl hkey ?_)
  | go_in)
 go_ret
 exact ⟨rfl, (Below.refl _ _).alloc (Nat.le_refl _) _⟩
theorem clear_own {w : World} {b n : Nat} {D : DataW Unit} (h : OwM w b n D) : ∃ w1, (∀ ty : TypeId, (Builtin.clear_ #[58] ty #[.map (some b)]).run Tryz.prog w = .ok (.tuple #[]) w1) ∧ OwM w1 b 0 (.map []) ∧ w.grownBy w1 (some b) := by
 obtain ⟨es, clock, hb, F, hs, hD⟩ := h
 have hlt := (Array.getElem?_eq_some_iff.1 hb).1
 refine ⟨ChangeMaps.setBlock w b (.map #[] clock), fun ty => ?_, ⟨#[], clock, ?_, ⟨by simp, MapKept.stamped_empty clock, by simp⟩, Nat.le_refl _, rfl⟩, ⟨rfl, rfl, rfl, by simp [ChangeMaps.setBlock], fun k hk hne => ?_⟩⟩
 ·have hset : (setObj b (.map #[] clock)).run Tryz.prog w = .ok () (ChangeMaps.setBlock w b (.map #[] clock)) := by
   simp [setObj, Sem.run, ChangeMaps.setBlock, hb]
  simp [Builtin.clear_, go_sem, MapKept.run_getObj_map hb, hset, Result.andThen, Tryz.underlying58]
 ·simp [ChangeMaps.setBlock, hlt]
 ·have : k ≠ b := fun e => hne (by rw [e])
  simp only [ChangeMaps.setBlock]
  rw [Array.getElem?_setIfInBounds_ne (fun e => this e.symm)]
def WM (w : World) (b : Nat) (l : List (List UInt8)) : Prop := ∃ n D, OwM w b n D ∧ ∀ y, Maps.has D (.string y) = true ↔ ∃ a ∈ l, a.take 13 = y
theorem has_put {D : DataW Unit} (hm : IsMap D) (t y : List UInt8) : Maps.has (D.put (.string t) (.agg [])) (.string y) = true ↔ (Maps.has D (.string y) = true ∨ y = t) := by
 by_cases e : y = t
 ·subst e
  rw [has_put_same hm (show WideAt.IsKeyLit (.string y) from trivial)]
  simp
 ·rw [has_put_other (by simpa using e)]
  simp [e]
theorem mk_map (W : World) : (Instr.makeMap 58 none).run Tryz.prog W = .ok (.map (some W.heap.size)) (W.alloc (.map #[] 0)) := by
 simp [Instr.makeMap, go_sem]
def LkR (w w' : World) (e : Ending) (l : List (List UInt8)) : Prop := ∃ g c b1 b2, e = .returned (.agg #[.slice (some ⟨g, 0, none⟩) l.length c, .map (some b1), .map (some b2)]) ∧ w.heap.size ≤ g ∧ w.heap.size ≤ b1 ∧ w.heap.size ≤ b2 ∧ b1 ≠ b2 ∧ c ≤ maxLen ∧ sr.Blk w' g c l ∧ WM w' b1 l ∧ OwM w' b2 0 (.map [])
theorem ret3 {fn : Func} {i : Tmp} (hf : fn.results = #[.cell i 85]) {tmps : Array Value} {W : World} {b : Nat} {v0 v1 v2 : Value} {R : Ending → World → Prop} (h4 : tmps.getD i undef = .pointer (some ⟨b, 0, none⟩))
  (k0 : W.cell? ⟨b, 0, none⟩ = some v0) (k1 : W.cell? ⟨b, 1, none⟩ = some v1) (k2 : W.cell? ⟨b, 2, none⟩ = some v2) (hR : R (.returned (.agg #[v0, v1, v2])) W) :
  bodyPost Tryz.prog fn R Exit.ret { tmps := tmps, defers := [] } W := by
 have h4' : tmps[i]?.getD undef = .pointer (some ⟨b, 0, none⟩) := by simpa using h4
 exact bodyPost_ret (v := .agg #[v0, v1, v2]) (by simp [results, hf, go_sem, h4', k0, k1, k2]) rfl hR
theorem blk_oth {w : World} {b c i : Nat} {v : Value} (h : c ≠ b) : (w.setCell ⟨b, i, none⟩ v).heap[c]? = w.heap[c]? := by
 simp only [World.setCell]
 rw [Array.getElem?_modify, if_neg (fun e => h e.symm)]
theorem set_oth {w : World} {b i j : Nat} {v : Value} (h : i ≠ j) : (w.setCell ⟨b, i, none⟩ v).cell? ⟨b, j, none⟩ = w.cell? ⟨b, j, none⟩ := World.cell?_setCell_other w ⟨b, i, none⟩ ⟨b, j, none⟩ v (by simp [h])
set_option maxRecDepth 100000 in
set_option maxHeartbeats 4000000 in
theorem lookoutFor_any (xs : List (List UInt8)) (hx : ∀ x ∈ xs, x.length ≤ 1048576) (v : Value) (w : World) (hR : sr.StrR w v xs) (hn : xs.length ≤ 4000) (hT : wd.TabB w) :
  Calls Tryz.prog 67 #[v] w fun e w' => LkR w w' e (sr.adr xs) ∧ Below w.heap.size w w' := by
 have HAM : Hid (∀ W, Below w.heap.size w W → Calls Tryz.prog 113 #[v] W fun e w' => (∃ g c, e = .returned (.slice (some ⟨g, 0, none⟩) (sr.adr xs).length c) ∧ W.heap.size ≤ g ∧ c ≤ maxLen ∧ sr.Blk w' g c (sr.adr xs)) ∧ Below W.heap.size W w') := fun W h => sr.among_any xs hx v W (hR.below h) hn (hT.below h)
 have HAL : Hid (∀ a ∈ sr.adr xs, 15 ≤ a.length ∧ a.length ≤ 1048576) := fun a ha => by
  unfold sr.adr at ha
  rw [sr.fold_mem, List.mem_filter] at ha
  rcases ha with h | ⟨h1, h2⟩
  ·cases h
  ·exact ⟨adr_long h2, hx a h1⟩
 have hal := sr.adr_len xs
 obtain ⟨l, hl⟩ : ∃ l, sr.adr xs = l := ⟨_, rfl⟩
 rw [hl] at HAM HAL hal ⊢
 obtain ⟨N, hNN⟩ : ∃ t, l.length = t := ⟨_, rfl⟩
 have HXN : Hid (l.length = N) := hNN
 have hN4 : N ≤ 4000 := by omega
 clear hl hR hT hx hn hal
 have hmm : ∀ W : World, (Instr.makeMap 58 none).run Tryz.prog W = .ok (.map (some W.heap.size)) (W.alloc (.map #[] 0)) := mk_map
 go_enter Tryz.func67, Tryz.ntmps67
 rw [hNN] at HAM
 clear hNN
 go_wp2_with (go_at_call 113; refine (HAM.out _ ((Below.refl _ _).alloc (Nat.le_refl _) _)).mono ?_; rintro e w1 ⟨⟨g, c, rfl, hg, hcm, hbk⟩, hl1⟩; refine Hid.out ?_)
 refine Lib.hid ?_
 rw [World.size_alloc] at hg
 have hs1 : w.heap.size + 1 ≤ w1.heap.size := by have := hl1.size; rwa [World.size_alloc] at this
 have HB1 : Hid (Below w.heap.size w w1) := ((Below.refl _ _).alloc (Nat.le_refl _) _).trans (hl1.mono (by rw [World.size_alloc]; omega))
 obtain ⟨kk1, kk2⟩ := bcell hl1
 have HZ : Hid (w1.cell? ⟨w.heap.size, 0, none⟩ = some (.slice none 0 0) ∧ w1.cell? ⟨w.heap.size, 1, none⟩ = some (.map none) ∧ w1.cell? ⟨w.heap.size, 2, none⟩ = some (.map none)) := ⟨(kk1 _ _ (by simp)).trans (by simp [go_sem]), (kk1 _ _ (by simp)).trans (by simp [go_sem]), (kk1 _ _ (by simp)).trans (by simp [go_sem])⟩
 have HZF : Hid (∀ o, w1.frozen? ⟨w.heap.size, o, none⟩ = false) := fun o => (kk2 _ _ (by simp)).trans (by simp [go_sem])
 have HBK : Hid (sr.Blk w1 g c l) := hbk
 have hglt : g < w1.heap.size := hbk.lt
 clear hbk hl1 kk1 kk2
 obtain ⟨W3, hW3⟩ : ∃ W3, W3 = ((w1.alloc (.map #[] 0)).alloc (.map #[] 0)).alloc (.cells #[.slice (some ⟨g, 0, none⟩) N c, .map (some w1.heap.size), .map (some (w1.heap.size + 1))] 85) := ⟨_, rfl⟩
 have HB3 : Hid (Below w1.heap.size w1 W3) := by show Below _ _ _; rw [hW3]; exact (((Below.refl _ _).alloc (Nat.le_refl _) _).alloc (by simp) _).alloc (by simp; omega) _
 have HS3 : Hid (W3.heap.size = w1.heap.size + 3) := by show _ = _; rw [hW3]; simp
 have HBX : Hid (∀ W, W3.grownBy W (some w1.heap.size) → W.cell? ⟨w1.heap.size + 1 + 1, 0, none⟩ = some (.slice (some ⟨g, 0, none⟩) N c) ∧ W.cell? ⟨w1.heap.size + 1 + 1, 1, none⟩ = some (.map (some w1.heap.size)) ∧ W.cell? ⟨w1.heap.size + 1 + 1, 2, none⟩ = some (.map (some (w1.heap.size + 1)))) := fun W h => by
  have hk : ∀ o v, W3.cell? ⟨w1.heap.size + 1 + 1, o, none⟩ = some v → W.cell? ⟨w1.heap.size + 1 + 1, o, none⟩ = some v := fun o v hc => h.cell hc (fun e => by have := Option.some.inj e; simp at this; omega)
  exact ⟨hk _ _ (by rw [hW3]; simp [go_sem]), hk _ _ (by rw [hW3]; simp [go_sem]), hk _ _ (by rw [hW3]; simp [go_sem])⟩
 have HM1 : Hid (OwM W3 w1.heap.size 0 (.map [])) := by
  show OwM _ _ _ _
  rw [hW3]
  exact ((World.ownsMap_made w1 Tryz.prog 9 _).alloc _).alloc _
 have HM2 : Hid (OwM W3 (w1.heap.size + 1) 0 (.map [])) := by
  show OwM _ _ _ _
  rw [hW3]
  have := (World.ownsMap_made (w1.alloc (.map #[] 0)) Tryz.prog 9 (unitElem (H := Unit))).alloc (.cells #[.slice (some ⟨g, 0, none⟩) N c, .map (some w1.heap.size), .map (some (w1.heap.size + 1))] 85)
  rwa [World.size_alloc] at this
 have HW3 : Hid (W3 = ((w1.alloc (.map #[] 0)).alloc (.map #[] 0)).alloc (.cells #[.slice (some ⟨g, 0, none⟩) N c, .map (some w1.heap.size), .map (some (w1.heap.size + 1))] 85)) := hW3
 clear hW3
 go_wp2
 clear hmm
 go_loopw [5, 14] (fun _ x wr => ∃ i : Nat, i ≤ N ∧ x = .int .i64 (i : Int) ∧ (∃ D, OwM wr w1.heap.size i D ∧ ∀ y, Maps.has D (.string y) = true ↔ ∃ a ∈ l.take i, a.take 13 = y) ∧ W3.grownBy wr (some w1.heap.size)) (fun _ x _ => N - (intOf x).toNat)
 case atStart => exact ⟨0, Nat.zero_le _, rfl, ⟨_, by rw [← HW3.out]; exact HM1.out, fun y => by simp [Maps.has]⟩, by rw [← HW3.out]; exact ⟨rfl, rfl, rfl, Nat.le_refl _, fun _ _ _ => rfl⟩⟩
 case round =>
  obtain ⟨i, hi, rfl, ⟨D, d1, d2⟩, hgr⟩ := hrel
  have HD1 : Hid (OwM wr w1.heap.size i D) := d1
  have HD2 : Hid (∀ y, Maps.has D (.string y) = true ↔ ∃ a ∈ l.take i, a.take 13 = y) := d2
  have HG : Hid (W3.grownBy wr (some w1.heap.size)) := hgr
  clear d1 d2
  by_cases hil : i < N
  ·have hil' : (i : Int) < (N : Int) := by omega
   have hi0 : (0 : Int) ≤ (i : Int) := by omega
   obtain ⟨x, hx⟩ : ∃ x, l[i]? = some x := ⟨_, List.getElem?_eq_getElem (by rw [HXN.out]; exact hil)⟩
   obtain ⟨hx15, hxl⟩ := HAL.out x (List.mem_of_getElem? hx)
   have c0 : wr.cell? ⟨g, i, none⟩ = some (.string ⟨x.toArray⟩) := by
    have hb3 := HBK.out.kept (HB3.out.block g hglt)
    have hb4 := hb3.kept (w' := wr) (HG.out.block g (by have := HS3.out; omega) (fun e => by have := Option.some.inj e; omega))
    obtain ⟨bb, off, cap, e, _, _, hcc⟩ := hb4.row' hcm
    cases e
    have := hcc i x hx
    rwa [Nat.zero_add] at this
   obtain ⟨q0, q1, q2⟩ := HBX.out _ hgr
   have hsz : (⟨x.toArray⟩ : ByteArray).size = x.length := by show x.toArray.size = _; simp
   have hext : ((⟨x.toArray⟩ : ByteArray).extract 0 13).data.toList = x.take 13 := by rw [tt.bytes_ext]; simp
   have HAD : Hid (∀ W, OwM W w1.heap.size i D → Calls Tryz.prog 79 #[.map (some w1.heap.size), .string ((⟨x.toArray⟩ : ByteArray).extract 0 13)] W fun e w' => (∃ v, e = .returned v) ∧ OwM w' w1.heap.size (i + 1) (D.put (.string (x.take 13)) (.agg [])) ∧ W.grownBy w' (some w1.heap.size)) := fun W h => by
    have := add_any ((⟨x.toArray⟩ : ByteArray).extract 0 13) (by simp; omega) w1.heap.size i (by omega) D W h
    rwa [hext] at this
   have HST : Hid (∀ y, Maps.has (D.put (.string (x.take 13)) (.agg [])) (.string y) = true ↔ ∃ a ∈ l.take (i + 1), a.take 13 = y) := fun y => by
    have htk : l.take (i + 1) = l.take i ++ [x] := by rw [List.take_add_one, hx]; rfl
    rw [has_put HD1.out.isMap, HD2.out y, htk]
    constructor
    ·rintro (⟨a, ha, e⟩ | e)
     ·exact ⟨a, List.mem_append.2 (.inl ha), e⟩
     ·exact ⟨x, by simp, e.symm⟩
    ·rintro ⟨a, ha, e⟩
     rcases List.mem_append.1 ha with h | h
     ·exact .inl ⟨a, h, e⟩
     ·have : a = x := by simpa using h
      subst this
      exact .inr e.symm
   have HQ1 : Hid (∀ W, W3.grownBy W (some w1.heap.size) → W.cell? ⟨w1.heap.size + 1 + 1, 1, none⟩ = some (.map (some w1.heap.size))) := fun W h => (HBX.out W h).2.1
   obtain ⟨s, hs⟩ : ∃ s : ByteArray, (⟨x.toArray⟩ : ByteArray) = s := ⟨_, rfl⟩
   rw [hs] at c0 HAD hsz
   have h13 : (13 : Int) ≤ (s.size : Int) := by omega
   clear hs hsz hext hx hx15 hxl hgr
   go_wp2_with fail
   go_region_held3 (fun W => W.cell? ⟨w1.heap.size + 1 + 1, 1, none⟩ = some (.map (some w1.heap.size)))
    (first | exact q1 | exact HQ1.out _ hg2 | go_keep)
    (((go_at_call 79; refine (HAD.out _ HD1.out.drew).mono ?_; rintro e w2 ⟨⟨vv, rfl⟩, ho2, hg2'⟩; have hg2 : W3.grownBy w2 (some w1.heap.size) := ⟨hg2'.os.trans HG.out.os, hg2'.tape.trans HG.out.tape, hg2'.output.trans HG.out.output, Nat.le_trans HG.out.size hg2'.size, fun k hk hne => (hg2'.block k (Nat.lt_of_lt_of_le hk HG.out.size) hne).trans (HG.out.block k hk hne)⟩)))
   go_wp2_with fail
   go_roundw
   case rel => exact ⟨i + 1, by omega, by go_num, ⟨_, ho2, HST.out⟩, hg2⟩
   case measure => simp [intOf]; omega
  ·have hil' : ¬ (i : Int) < (N : Int) := by omega
   obtain rfl : i = N := by omega
   obtain ⟨q0, q1, q2⟩ := HBX.out _ hgr
   have hs3 := HS3.out
   have hkz : ∀ o, wr.cell? ⟨w.heap.size, o, none⟩ = w1.cell? ⟨w.heap.size, o, none⟩ := fun o => World.cell?_of_block (a := ⟨w.heap.size, o, none⟩) ((hgr.block w.heap.size (by omega) (fun e => by have := Option.some.inj e; omega)).trans (HB3.out.block w.heap.size (by omega)))
   have hfz : ∀ o, wr.frozen? ⟨w.heap.size, o, none⟩ = false := fun o => (World.frozen?_of_block (a := ⟨w.heap.size, o, none⟩) ((hgr.block w.heap.size (by omega) (fun e => by have := Option.some.inj e; omega)).trans (HB3.out.block w.heap.size (by omega)))).trans (HZF.out o)
   have z0 := (hkz 0).trans HZ.out.1
   have z1 := (hkz 1).trans HZ.out.2.1
   have z2 := (hkz 2).trans HZ.out.2.2
   clear hgr hkz
   go_wp2
   have k0 : (((wr.setCell ⟨w.heap.size, 0, none⟩ (.slice (some ⟨g, 0, none⟩) i c)).setCell ⟨w.heap.size, 1, none⟩ (.map (some w1.heap.size))).setCell ⟨w.heap.size, 2, none⟩ (.map (some (w1.heap.size + 1)))).cell? ⟨w.heap.size, 0, none⟩ = some (.slice (some ⟨g, 0, none⟩) i c) := (set_oth (by omega)).trans ((set_oth (by omega)).trans (World.cell?_setCell_same _ _ _ z0))
   have k1 : (((wr.setCell ⟨w.heap.size, 0, none⟩ (.slice (some ⟨g, 0, none⟩) i c)).setCell ⟨w.heap.size, 1, none⟩ (.map (some w1.heap.size))).setCell ⟨w.heap.size, 2, none⟩ (.map (some (w1.heap.size + 1)))).cell? ⟨w.heap.size, 1, none⟩ = some (.map (some w1.heap.size)) := (set_oth (by omega)).trans (World.cell?_setCell_same _ _ _ ((set_oth (by omega)).trans z1))
   have k2 : (((wr.setCell ⟨w.heap.size, 0, none⟩ (.slice (some ⟨g, 0, none⟩) i c)).setCell ⟨w.heap.size, 1, none⟩ (.map (some w1.heap.size))).setCell ⟨w.heap.size, 2, none⟩ (.map (some (w1.heap.size + 1)))).cell? ⟨w.heap.size, 2, none⟩ = some (.map (some (w1.heap.size + 1))) := World.cell?_setCell_same _ _ _ ((set_oth (by omega)).trans ((set_oth (by omega)).trans z2))
   have hbk : ∀ j, j ≠ w.heap.size → (((wr.setCell ⟨w.heap.size, 0, none⟩ (.slice (some ⟨g, 0, none⟩) i c)).setCell ⟨w.heap.size, 1, none⟩ (.map (some w1.heap.size))).setCell ⟨w.heap.size, 2, none⟩ (.map (some (w1.heap.size + 1)))).heap[j]? = wr.heap[j]? := fun j h => by rw [blk_oth h, blk_oth h, blk_oth h]
   have mk : ∀ {b n : Nat} {D : DataW Unit}, b ≠ w.heap.size → OwM wr b n D → OwM (((wr.setCell ⟨w.heap.size, 0, none⟩ (.slice (some ⟨g, 0, none⟩) i c)).setCell ⟨w.heap.size, 1, none⟩ (.map (some w1.heap.size))).setCell ⟨w.heap.size, 2, none⟩ (.map (some (w1.heap.size + 1)))) b n D := fun {b n D} hne h => ((h.setCell hne _).setCell hne _).setCell hne _
   have hgk : ∀ k, k < W3.heap.size → k ≠ w1.heap.size → wr.heap[k]? = W3.heap[k]? := fun k h1 h2 => HG.out.block k h1 (fun e => h2 (Option.some.inj e))
   refine ret3 Tryz.results67 rfl k0 k1 k2 ⟨⟨g, c, w1.heap.size, w1.heap.size + 1, by rw [HXN.out], by omega, by omega, by omega, by omega, hcm, ?_, ⟨i, D, mk (by omega) HD1.out, fun y => ?_⟩, mk (by omega) (HM2.out.kept HG.out (by simp))⟩, ?_⟩
   ·exact (HBK.out.kept (HB3.out.block g hglt)).kept ((hbk g (by omega)).trans (hgk g (by omega) (by omega)))
   ·have := HD2.out y
    rwa [List.take_of_length_le (by rw [HXN.out]; exact Nat.le_refl _)] at this
   ·have hb : Below w.heap.size w wr := ⟨HG.out.os.trans (HB3.out.os.trans HB1.out.os), HG.out.tape.trans (HB3.out.tape.trans HB1.out.tape), HG.out.output.trans (HB3.out.output.trans HB1.out.output), by have := HG.out.size; omega, fun k hk => (hgk k (by omega) (by omega)).trans ((HB3.out.block k (by omega)).trans (HB1.out.block k hk))⟩
    exact ((hb.setCell (Nat.le_refl _) _).setCell (Nat.le_refl _) _).setCell (Nat.le_refl _) _
end Go.Proofs.YtcpmgellfaeejaaGreatDoor.rf
