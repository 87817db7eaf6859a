import Derived.Test.YtddnhnpfcelicaaGreatDoorTP
import Derived.Test.YtddnhnpfcelicaaGreatDoorTT1
import Derived.RangeFuncCalls
import Derived.RangeFuncLeaves
import Derived.Shelf.Abstract
import Derived.Shelf.RegionOpen
import Derived.WalkKit
import Derived.OwnWalkIn
import Derived.TacticsInMore
import Derived.LoopNIn
import Derived.LoopIn
import Derived.Test.YtddnhnpfcelicaaGreatDoorRT
import Derived.Test.YtddnhnpfcelicaaGreatDoorTW
namespace Go.Proofs.YtddnhnpfcelicaaGreatDoor.tt
open Go.RowKit Go.Shelf Go.Proofs.YtddnhnpfcelicaaGreatDoor.rt
attribute [local go_sem] Oper.semAt_some
set_option linter.unusedVariables false
set_option linter.unusedSimpArgs false

end Go.Proofs.YtddnhnpfcelicaaGreatDoor.tt
namespace Go.Proofs
open Go.Shelf
def YtddnhnpfcelicaaGreatDoor.tt.laysIX_ren : Go.Shelf.Ren := ⟨fun | 143 => 126 | 219 => 131 | 217 => 135 | 225 => 136 | 224 => 137 | 267 => 138 | 266 => 141 | 314 => 142 | n => n, fun | 9 => 9 | 3 => 3 | 4 => 4 | 5 => 5 | 46 => 104 | 146 => 143 | 51 => 142 | n => n, fun | 1 => 1 | n => n⟩
theorem YtddnhnpfcelicaaGreatDoor.tt.laysIX : Go.Proofs.Lays.n143 Tryz.prog YtddnhnpfcelicaaGreatDoor.tt.laysIX_ren := {
  mixed := by kernel_rfl
  f143 := Tryz.func126.trans (congrArg some (by kernel_rfl))
  f217 := Tryz.func135.trans (congrArg some (by kernel_rfl))
  f219 := Tryz.func131.trans (congrArg some (by kernel_rfl))
  f224 := Tryz.func137.trans (congrArg some (by kernel_rfl))
  f225 := Tryz.func136.trans (congrArg some (by kernel_rfl))
  f266 := Tryz.func141.trans (congrArg some (by kernel_rfl))
  f267 := Tryz.func138.trans (congrArg some (by kernel_rfl))
  f314 := Tryz.func142.trans (congrArg some (by kernel_rfl))
  t3 := Tryz.underlying3
  a3 := Tryz.isAgg3
  z3 := Tryz.sizeOf3
  v3 := Tryz.zeroValue3
  t4 := Tryz.underlying4
  a4 := Tryz.isAgg4
  z4 := Tryz.sizeOf4
  v4 := Tryz.zeroValue4
  t5 := Tryz.underlying5
  a5 := Tryz.isAgg5
  z5 := Tryz.sizeOf5
  v5 := Tryz.zeroValue5
  t9 := Tryz.underlying9
  a9 := Tryz.isAgg9
  z9 := Tryz.sizeOf9
  v9 := Tryz.zeroValue9
  t46 := Tryz.underlying104
  a46 := Tryz.isAgg104
  z46 := Tryz.sizeOf104
  v46 := Tryz.zeroValue104
  t51 := Tryz.underlying142
  a51 := Tryz.isAgg142
  z51 := Tryz.sizeOf142
  v51 := Tryz.zeroValue142
  t146 := Tryz.underlying143
  a146 := Tryz.isAgg143
  z146 := Tryz.sizeOf143
  v146 := Tryz.zeroValue143
  g1 := by kernel_rfl }
end Go.Proofs
namespace Go.Proofs.YtddnhnpfcelicaaGreatDoor.tt
open Go.RowKit Go.Shelf Go.Proofs.YtddnhnpfcelicaaGreatDoor.rt
attribute [local go_sem] Oper.semAt_some
set_option linter.unusedVariables false
set_option linter.unusedSimpArgs false
theorem ix_ren : laysIX_ren.f 143 = 126 := by kernel_rfl

theorem seq_any (s : ByteArray) (w : World) :
    Calls Tryz.prog 130 #[.string s, .string ⟨#[47]⟩] w fun e w' => e = .returned (.func (.func 140) #[] #[.pointer (some ⟨w.heap.size + 1, 0, none⟩), .pointer (some ⟨w.heap.size, 0, none⟩), .pointer (some ⟨w.heap.size + 1 + 1, 0, none⟩)]) ∧ w' = ((w.alloc (.cells #[.string s] 9)).alloc (.cells #[.string ⟨#[47]⟩] 9)).alloc (.cells #[.int .i64 0] 3) := by
  have HS : Hid (Calls Tryz.prog 134 #[.string s, .string ⟨#[47]⟩, .int .i64 0] w fun e w' => e = .returned (.func (.func 140) #[] #[.pointer (some ⟨w.heap.size + 1, 0, none⟩), .pointer (some ⟨w.heap.size, 0, none⟩), .pointer (some ⟨w.heap.size + 1 + 1, 0, none⟩)]) ∧ w' = ((w.alloc (.cells #[.string s] 9)).alloc (.cells #[.string ⟨#[47]⟩] 9)).alloc (.cells #[.int .i64 0] 3)) := by
    unfold Hid
    go_enter Tryz.func134, Tryz.ntmps134
    go_wp2
    go_ret
    exact ⟨rfl, rfl⟩
  go_enter Tryz.func130, Tryz.ntmps130
  go_wp2_with (go_at_call 134; refine HS.out.mono ?_; rintro e w1 ⟨rfl, rfl⟩)
  go_ret
  exact ⟨rfl, rfl⟩

theorem index_any (u : ByteArray) (w : World) :
    Calls Tryz.prog 126 #[.string u, .string ⟨#[47]⟩] w fun e w' => e = .returned (.int .i64 (Lib.index u.data.toList sl)) ∧ w' = w := by
  have := Any.strings_Index_one laysIX u 47 w
  rw [← Lib.index_one] at this
  exact this

/-- The three boxes of the iterator over a text's pieces. -/
structure Sq (W : World) (B : Nat) (u : ByteArray) : Prop where
  s : Boxed W B 9 (.string u)
  p : Boxed W (B + 1) 9 (.string ⟨#[47]⟩)
  v : Boxed W (B + 1 + 1) 3 (.int .i64 0)

def Kb (B : Nat) (W W' : World) : Prop := W.heap.size ≤ W'.heap.size ∧ W'.heap[B]? = W.heap[B]? ∧ W'.heap[B + 1]? = W.heap[B + 1]? ∧ W'.heap[B + 1 + 1]? = W.heap[B + 1 + 1]?
theorem Sq.kb {W W' : World} {B : Nat} {u : ByteArray} (h : Sq W B u) (k : Kb B W W') : Sq W' B u := ⟨k.2.1.trans h.s, k.2.2.1.trans h.p, k.2.2.2.trans h.v⟩
theorem Sq.set {W : World} {B : Nat} {u : ByteArray} (h : Sq W B u) (u' : ByteArray) : Sq (W.setCell ⟨B, 0, none⟩ (.string u')) B u' := ⟨h.s.set _, h.p.other (by omega) _, h.v.other (by omega) _⟩
theorem Sq.below {W W' : World} {B : Nat} {u : ByteArray} (h : Sq W B u) (k : Below W.heap.size W W') : Sq W' B u := h.kb ⟨k.size, k.block _ h.s.lt, k.block _ h.p.lt, k.block _ h.v.lt⟩

def PL (s : ByteArray) : List ByteArray := (spl [] s.data.toList).map fun x => ⟨x.toArray⟩
def szAt (W : World) (B : Nat) : Nat := match W.cell? ⟨B, 0, none⟩ with | some (.string u) => u.size | _ => 0
theorem szAt_of {W : World} {B : Nat} {u : ByteArray} (h : Sq W B u) : szAt W B = u.size := by unfold szAt; rw [h.s.cell]

theorem PL_miss {u : ByteArray} (h : Lib.index u.data.toList sl = -1) : PL u = [u] := by unfold PL; rw [spl_miss _ _ h]; rfl
theorem ix_lt {u : ByteArray} {i : Nat} (h : Lib.index u.data.toList sl = (i : Int)) : i < u.size := by
  have h' : Lib.indexByte u.data.toList 47 = i := by rw [← Lib.index_one]; exact h
  have := (List.getElem?_eq_some_iff.1 (Lib.indexByte_some h').1).1
  simpa using this
theorem PL_hit {u : ByteArray} {i : Nat} (h : Lib.index u.data.toList sl = (i : Int)) : PL u = u.extract 0 i :: PL (u.extract (i + 1) u.size) := by
  have hi := ix_lt h
  unfold PL
  rw [spl_hit _ _ _ h, List.map_cons, ext_drop (by omega)]
  congr 1
  apply ByteArray.ext
  apply Array.ext'
  simp

set_option maxRecDepth 100000 in
set_option maxHeartbeats 2000000 in
theorem split_hands (n B : Nat) (s : ByteArray) (hs : s.size ≤ 1048576) (w : World) (hn : 1 ≤ n) (hS : Sq w B s) :
    Hands n Tryz.prog 140 #[.pointer (some ⟨B + 1, 0, none⟩), .pointer (some ⟨B, 0, none⟩), .pointer (some ⟨B + 1 + 1, 0, none⟩)] (Kb B) (fun r => r = B) (PL s) w := by
  intro l J Jx W hW hJ hJx hY h0
  have hsW : Sq W B s := hS.below hW
  refine callsIn_of_wp Tryz.func140 rfl trivial ?_ rfl
  simp only [Tryz.ntmps140, List.size_toArray, List.length_cons, List.length_nil, Nat.reduceAdd, Nat.reduceSub, Array.replicate_succ, Array.replicate_zero, List.push_toArray, List.append_toArray, List.nil_append, List.cons_append]
  have hp0 := hsW.p.cell
  have hz1 : (ByteArray.mk #[47]).size = 1 := rfl
  gi_wp2
  gi_loopw [7, 8] (fun _ _ wr => ∃ (pre : List ByteArray) (u : ByteArray), PL s = pre ++ PL u ∧ u.size ≤ s.size ∧ Sq wr B u ∧ J pre wr) (fun _ _ wr => szAt wr B)
  case atStart => exact ⟨[], s, rfl, Nat.le_refl _, hsW, h0⟩
  case round =>
    obtain ⟨pre, u, hpl, hus, hsq, hJw⟩ := hrel
    have HPL : Hid (PL s = pre ++ PL u) := hpl
    have hc := hsq.s.cell
    have hcp := hsq.p.cell
    have hcv := hsq.v.cell
    have hB : B < wr.heap.size := hsq.s.lt
    clear hpl hp0
    by_cases hm : Lib.index u.data.toList sl = -1
    · have HI : Hid (Calls Tryz.prog 126 #[.string u, .string ⟨#[47]⟩] wr fun e w' => e = .returned (.int .i64 (-1)) ∧ w' = wr) := by
        have := index_any u wr
        rw [hm] at this
        exact this
      have HL : Hid (PL u = [u]) := PL_miss hm
      clear hm
      obtain ⟨fn, tmps, assign, body, hy, hR⟩ := hY pre u wr hJw ⟨[], by rw [HPL.out, HL.out]; simp⟩
      gi_wp2_with (refine ⟨trivial, ?_⟩; gi_at_call 126; refine (callsIn_wide.2 HI.out).mono ?_; rintro e w1 ⟨rfl, hw⟩; have hw2 := hw.symm; subst hw2; clear hw)
      refine hR.mono ?_
      rintro e W3 (⟨rfl, hJ3, hk3⟩ | ⟨rfl, hJx3⟩)
      · gi_wp2
        go_end0
        exact ⟨⟨_, rfl⟩, .inl (by rw [HPL.out, HL.out]; exact hJ3)⟩
      · gi_wp2
        go_end0
        exact ⟨⟨_, rfl⟩, .inr ⟨_, by rw [HPL.out, HL.out]; exact List.prefix_refl _, hJx3⟩⟩
    · have hge := Lib.index_ge u.data.toList sl
      obtain ⟨i, hi⟩ : ∃ i : Nat, Lib.index u.data.toList sl = (i : Int) := ⟨(Lib.index u.data.toList sl).toNat, by omega⟩
      have hlt := ix_lt hi
      have HI : Hid (Calls Tryz.prog 126 #[.string u, .string ⟨#[47]⟩] wr fun e w' => e = .returned (.int .i64 (i : Int)) ∧ w' = wr) := by
        have := index_any u wr
        rw [hi] at this
        exact this
      have HL : Hid (PL u = u.extract 0 i :: PL (u.extract (i + 1) u.size)) := PL_hit hi
      have hin : ¬ (i : Int) < 0 := by omega
      clear hm hge hi
      obtain ⟨fn, tmps, assign, body, hy, hR⟩ := hY pre (u.extract 0 i) wr hJw ⟨PL (u.extract (i + 1) u.size), by rw [HPL.out, HL.out]; simp⟩
      gi_wp2_with (refine ⟨trivial, ?_⟩; gi_at_call 126; refine (callsIn_wide.2 HI.out).mono ?_; rintro e w1 ⟨rfl, hw⟩; have hw2 := hw.symm; subst hw2; clear hw)
      refine hR.mono ?_
      rintro e W3 (⟨rfl, hJ3, hk3⟩ | ⟨rfl, hJx3⟩)
      · have hsq3 := hsq.kb hk3
        have hc3 := hsq3.s.cell
        have hf3 := hsq3.s.frozen
        have hcp3 := hsq3.p.cell
        have hlt1 : (i : Int) + 1 ≤ (u.size : Int) := by omega
        gi_wp2
        go_roundw
        case rel => exact ⟨pre ++ [u.extract 0 i], u.extract (i + 1) u.size, by rw [HPL.out, HL.out]; simp, by simp; omega, hsq3.set _, hJ _ _ _ _ hJ3 (grownBy_setCell' _ _ _) (fun r e => by cases e; rfl)⟩
        case measure => rw [szAt_of (hsq3.set _), szAt_of hsq]; simp; omega
      · gi_wp2
        refine bodyPost_ret (results_none rfl _ _ _) rfl ?_
        exact ⟨⟨_, rfl⟩, .inr ⟨_, ⟨PL (u.extract (i + 1) u.size), by rw [HPL.out, HL.out]; simp⟩, hJx3⟩⟩

end Go.Proofs.YtddnhnpfcelicaaGreatDoor.tt

namespace Go.Proofs.YtddnhnpfcelicaaGreatDoor.tt
open Go.ChangeShapes Go.WideShapes Go.ChangeAt Go.RowKit Go.Deep Go.Maps Go.Shelf Go.Proofs.YtddnhnpfcelicaaGreatDoor.rt
attribute [local go_sem] Oper.semAt_some
set_option linter.unusedVariables false
set_option linter.unusedSimpArgs false

/-! ### Trees of files: (*branch).at -/

def jo : List (List UInt8) → List UInt8
  | [] => []
  | [x] => x
  | x :: y :: r => x ++ 47 :: jo (y :: r)

theorem jo_snoc : ∀ (pre : List (List UInt8)) (x : List UInt8), pre ≠ [] → jo (pre ++ [x]) = jo pre ++ 47 :: x
  | [], _, h => absurd rfl h
  | [a], x, _ => by simp [jo]
  | a :: b :: r, x, _ => by
    have := jo_snoc (b :: r) x (by simp)
    simp only [List.cons_append] at this ⊢
    rw [jo, this, jo]
    simp

theorem spl_ne (cur l : List UInt8) : spl cur l ≠ [] := fun e => by
  have := spl_len l cur
  rw [e] at this
  simp at this

theorem jo_cons (x : List UInt8) (r : List (List UInt8)) (h : r ≠ []) : jo (x :: r) = x ++ 47 :: jo r := by
  cases r with
  | nil => exact absurd rfl h
  | cons y r => rfl

theorem jo_spl : ∀ (l cur : List UInt8), jo (spl cur l) = cur ++ l
  | [], cur => by simp [spl, jo]
  | b :: l, cur => by
    rw [spl]
    by_cases hb : b = 47
    · rw [if_pos hb, jo_cons _ _ (spl_ne _ _), jo_spl l [], hb]; simp
    · rw [if_neg hb, jo_spl l (cur ++ [b])]; simp

theorem spl_plain : ∀ (l cur : List UInt8), (∀ i : Nat, cur[i]? ≠ some 47) → ∀ x ∈ spl cur l, lst x = none
  | [], cur, h, x, hx => by
    simp [spl] at hx
    subst hx
    exact lst_no h
  | b :: l, cur, h, x, hx => by
    rw [spl] at hx
    by_cases hb : b = 47
    · rw [if_pos hb] at hx
      rcases List.mem_cons.1 hx with rfl | hx
      · exact lst_no h
      · exact spl_plain l [] (by simp) x hx
    · rw [if_neg hb] at hx
      refine spl_plain l (cur ++ [b]) (fun i e => ?_) x hx
      rcases Nat.lt_or_ge i cur.length with hi | hi
      · rw [List.getElem?_append_left hi] at e; exact h i e
      · rw [List.getElem?_append_right hi] at e
        cases hd : i - cur.length with
        | zero => rw [hd] at e; simp at e; exact hb e
        | succ m => rw [hd] at e; simp at e

theorem jo_app : ∀ (a b : List (List UInt8)), a ≠ [] → b ≠ [] → jo (a ++ b) = jo a ++ 47 :: jo b
  | [], _, h, _ => absurd rfl h
  | [x], b, _, hb => by rw [List.singleton_append, jo_cons _ _ hb]; rfl
  | x :: y :: r, b, _, hb => by
    have := jo_app (y :: r) b (by simp) hb
    simp only [List.cons_append] at this ⊢
    rw [jo, this, jo]
    simp

/-- Where the walk stands behind the pieces pre. -/
def nd (E : Nat → En) (B : Nat → Nat) (k rb : Nat) (pre : List ByteArray) : Nat := if pre = [] then rb + 1 else chd E B k (jo (pre.map (·.data.toList)))

theorem nd_all (E : Nat → En) (B : Nat → Nat) (k rb : Nat) (U : ByteArray) : nd E B k rb (PL U) = chd E B k U.data.toList := by
  have h : (PL U).map (·.data.toList) = spl [] U.data.toList := by unfold PL; rw [List.map_map]; exact (List.map_congr_left (fun x _ => by simp)).trans (List.map_id _)
  unfold nd
  rw [h, jo_spl, if_neg]
  · rfl
  · intro e
    rw [e] at h
    exact spl_ne [] U.data.toList h.symm

theorem nd_dead {E : Nat → En} {B : Nat → Nat} {k rb : Nat} (hT : Tr E k) {U : ByteArray} {pre : List ByteArray} (hp : pre <+: PL U) (h : nd E B k rb pre = 0) : chd E B k U.data.toList = 0 := by
  rw [← nd_all E B k rb U]
  obtain ⟨r, hr⟩ := hp
  unfold nd at h ⊢
  by_cases hn : pre = []
  · rw [if_pos hn] at h; cases h
  · rw [if_neg hn] at h
    rw [← hr, if_neg (by simp [hn])]
    by_cases hr0 : r = []
    · rw [hr0, List.append_nil]; exact h
    · rw [List.map_append, jo_app _ _ (by simpa using hn) (by simpa using hr0)]
      exact chd_dead hT _ _ _ (Nat.le_refl _) h

theorem PL_plain {U x : ByteArray} (h : x ∈ PL U) : lst x.data.toList = none ∧ x.size ≤ U.size := by
  unfold PL at h
  obtain ⟨l, hl, rfl⟩ := List.mem_map.1 h
  refine ⟨by simpa using spl_plain _ [] (by simp) l hl, ?_⟩
  have := spl_small _ _ l hl
  have e : (ByteArray.mk l.toArray).size = l.length := by simp [ByteArray.size]
  rw [e]
  simpa using this

end Go.Proofs.YtddnhnpfcelicaaGreatDoor.tt

namespace Go.Proofs.YtddnhnpfcelicaaGreatDoor.tt
open Go.ChangeShapes Go.WideShapes Go.ChangeAt Go.RowKit Go.Deep Go.Maps Go.Shelf Go.Proofs.YtddnhnpfcelicaaGreatDoor.rt
attribute [local go_sem] Oper.semAt_some
set_option linter.unusedVariables false
set_option linter.unusedSimpArgs false

/-! ### Trees of files: (*branch).at -/

theorem look_nil (x : ByteArray) (hx : x.size ≤ 1048576) (w : World) : (Instr.lookup 131 (.map none) (.string x) false).run Tryz.prog w = .ok (ptr 0) w := by
  have hK := string_keyed Tryz.underlying9
  rcases hK.find w (key9 x hx) [] (by simp) with ⟨f1, _⟩ | ⟨j, e0, _, f2, _⟩
  · simp [Instr.lookup, run_underlying Tryz.underlying131, hK.check w _ (key9 x hx), f1, Tryz.zeroValue124 w, Result.andThen, ptr]
  · simp at f2

theorem step {W : World} {E : Nat → En} {k rb rm N : Nat} {B M : Nat → Nat} (h : Br W E k rb rm N B M) (hT : Tr E k) {pre : List ByteArray} {b : Nat} (hb : nd E B k rb pre = b + 1) {x : ByteArray} (hx : lst x.data.toList = none) (hxs : x.size ≤ 1048576) :
    ∃ m, W.cell? ⟨b, 1, none⟩ = some (.map m) ∧ (Instr.lookup 131 (.map m) (.string x) false).run Tryz.prog W = .ok (ptr (nd E B k rb (pre ++ [x]))) W := by
  have hn2 : nd E B k rb (pre ++ [x]) = chd E B k (jo ((pre ++ [x]).map (·.data.toList))) := by unfold nd; rw [if_neg (by simp)]
  rw [hn2, List.map_append]
  by_cases hp : pre = []
  · subst hp
    have : rb = b := by simpa [nd] using hb
    subst this
    refine ⟨some rm, h.root1, ?_⟩
    rw [h.rootM.look x hxs, fM, if_pos hx]
    rfl
  · unfold nd at hb
    rw [if_neg hp] at hb
    rw [List.map_cons, List.map_nil, jo_snoc _ _ (by simpa using hp)]
    rcases chd_cases E B k (jo (pre.map (·.data.toList))) with ⟨j, hj, hpj, e⟩ | ⟨_, e⟩
    · obtain rfl : B j = b := by omega
      rw [← hpj]
      by_cases hk : (E j).kind = 1
      · obtain ⟨c, pm⟩ := h.dir j hj hk
        refine ⟨_, c, ?_⟩
        rw [pm.look x hxs, fM, if_pos hx]
        simp
      · refine ⟨_, h.leaf j hj hk, ?_⟩
        rw [look_nil x hxs, chd_leaf hT hj hk hx]
    · omega

end Go.Proofs.YtddnhnpfcelicaaGreatDoor.tt

namespace Go.Proofs.YtddnhnpfcelicaaGreatDoor.tt
open Go.ChangeShapes Go.WideShapes Go.ChangeAt Go.RowKit Go.Deep Go.Maps Go.Shelf Go.Proofs.YtddnhnpfcelicaaGreatDoor.rt
attribute [local go_sem] Oper.semAt_some
set_option linter.unusedVariables false
set_option linter.unusedSimpArgs false

/-! ### Trees of files: (*branch).at -/

/-- Behind the pieces pre. -/
structure AI (E : Nat → En) (B : Nat → Nat) (k rb : Nat) (w : World) (pre : List ByteArray) (W : World) : Prop where
  b : Boxed W w.heap.size 124 (ptr (nd E B k rb pre))
  n : nd E B k rb pre ≠ 0
  r : Boxed W (w.heap.size + 1) 124 (.pointer none)
  l : Below w.heap.size w W
/-- Where the walk has ended. -/
structure AX (E : Nat → En) (B : Nat → Nat) (k rb : Nat) (w : World) (pre : List ByteArray) (W : World) : Prop where
  n : nd E B k rb pre = 0
  r : Boxed W (w.heap.size + 1) 124 (.pointer none)
  l : Below w.heap.size w W

theorem AI.grow {E : Nat → En} {B : Nat → Nat} {k rb : Nat} {w : World} {pre : List ByteArray} {W W' : World} {row : Option Nat} (h : AI E B k rb w pre W) (hg : W.grownBy W' row) (hr : ∀ j, row = some j → w.heap.size + 1 < j) : AI E B k rb w pre W' :=
  ⟨h.b.kept hg (fun e => by have := hr _ e.symm; omega), h.n, h.r.kept hg (fun e => by have := hr _ e.symm; omega), h.l.grown hg h.l.size (fun j e => by have := hr j e; omega)⟩
theorem AX.grow {E : Nat → En} {B : Nat → Nat} {k rb : Nat} {w : World} {pre : List ByteArray} {W W' : World} {row : Option Nat} (h : AX E B k rb w pre W) (hg : W.grownBy W' row) (hr : ∀ j, row = some j → w.heap.size + 1 < j) : AX E B k rb w pre W' :=
  ⟨h.n, h.r.kept hg (fun e => by have := hr _ e.symm; omega), h.l.grown hg h.l.size (fun j e => by have := hr j e; omega)⟩

theorem kb_set {W : World} {B b : Nat} (h : b < B) (v : Value) : Kb B W (W.setCell ⟨b, 0, none⟩ v) :=
  ⟨(KeepsWalks.setCell W _ v).size, Below.heap_setCell _ _ _ _ (by show _ ≠ b; omega), Below.heap_setCell _ _ _ _ (by show _ ≠ b; omega), Below.heap_setCell _ _ _ _ (by show _ ≠ b; omega)⟩

set_option maxHeartbeats 4000000 in
set_option maxRecDepth 100000 in
theorem at_any (E : Nat → En) : AtC E := by
  intro w k rb rm N B M hBr hT hm U hU
  have HBR : Hid (∀ W, Below w.heap.size w W → Br W E k rb rm N B M) := fun W hb => hBr.below hb
  have HT : Hid (Tr E k) := hT
  have hrb : rb < w.heap.size := World.block_lt_of_cell? _ _ hBr.root0
  clear hBr hT hm
  refine (callsIn_wide (n := 3)).1 ?_
  refine callsIn_of_wp_marks Tryz.func123 rfl trivial ?_ rfl
  simp only [Tryz.ntmps123, List.size_toArray, List.length_cons, List.length_nil, Nat.reduceAdd, Nat.reduceSub, Array.replicate_succ, Array.replicate_zero, List.push_toArray, List.append_toArray, List.nil_append, List.cons_append]
  gi_wp2_with (refine ⟨trivial, ?_⟩; gi_at_call 130; refine (callsIn_wide.2 (seq_any U _)).mono ?_; rintro e w' ⟨rfl, rfl⟩)
  have bB := ((((Boxed.new w 124 (.pointer (some ⟨rb, 0, none⟩))).alloc (.cells #[.pointer none] 124)).alloc (.cells #[.string U] 9)).alloc (.cells #[.string ⟨#[47]⟩] 9)).alloc (.cells #[.int .i64 0] 3)
  have bR := (((Boxed.new (w.alloc (.cells #[.pointer (some ⟨rb, 0, none⟩)] 124)) 124 (.pointer none)).alloc (.cells #[.string U] 9)).alloc (.cells #[.string ⟨#[47]⟩] 9)).alloc (.cells #[.int .i64 0] 3)
  have b2 := ((Boxed.new ((w.alloc (.cells #[.pointer (some ⟨rb, 0, none⟩)] 124)).alloc (.cells #[.pointer none] 124)) 9 (.string U)).alloc (.cells #[.string ⟨#[47]⟩] 9)).alloc (.cells #[.int .i64 0] 3)
  have b3 := (Boxed.new (((w.alloc (.cells #[.pointer (some ⟨rb, 0, none⟩)] 124)).alloc (.cells #[.pointer none] 124)).alloc (.cells #[.string U] 9)) 9 (.string ⟨#[47]⟩)).alloc (.cells #[.int .i64 0] 3)
  have b4 := Boxed.new ((((w.alloc (.cells #[.pointer (some ⟨rb, 0, none⟩)] 124)).alloc (.cells #[.pointer none] 124)).alloc (.cells #[.string U] 9)).alloc (.cells #[.string ⟨#[47]⟩] 9)) 3 (.int .i64 0)
  simp only [World.size_alloc] at bR b2 b3 b4
  have hB0 : Below w.heap.size w (((((w.alloc (.cells #[.pointer (some ⟨rb, 0, none⟩)] 124)).alloc (.cells #[.pointer none] 124)).alloc (.cells #[.string U] 9)).alloc (.cells #[.string ⟨#[47]⟩] 9)).alloc (.cells #[.int .i64 0] 3)) := (((((Below.refl _ w).alloc (Nat.le_refl _) _).alloc (by simp) _).alloc (by simp; omega) _).alloc (by simp; omega) _).alloc (by simp; omega) _
  have hsz : (((((w.alloc (.cells #[.pointer (some ⟨rb, 0, none⟩)] 124)).alloc (.cells #[.pointer none] 124)).alloc (.cells #[.string U] 9)).alloc (.cells #[.string ⟨#[47]⟩] 9)).alloc (.cells #[.int .i64 0] 3)).heap.size = w.heap.size + 5 := by simp
  obtain ⟨W0, hW0⟩ : ∃ W0, ((((w.alloc (.cells #[.pointer (some ⟨rb, 0, none⟩)] 124)).alloc (.cells #[.pointer none] 124)).alloc (.cells #[.string U] 9)).alloc (.cells #[.string ⟨#[47]⟩] 9)).alloc (.cells #[.int .i64 0] 3) = W0 := ⟨_, rfl⟩
  rw [hW0] at bB bR b2 b3 b4 hB0 hsz ⊢
  clear hW0
  refine range_t (by decide) (gf := 140) (lb := #[.pointer (some ⟨w.heap.size + 1 + 1 + 1, 0, none⟩), .pointer (some ⟨w.heap.size + 1 + 1, 0, none⟩), .pointer (some ⟨w.heap.size + 1 + 1 + 1 + 1, 0, none⟩)]) rfl (enters_of Tryz.func140 (by kernel_rfl) rfl)
    (split_hands 2 (w.heap.size + 1 + 1) U hU W0 (by decide) ⟨b2, b3, b4⟩) (fun r e => by rw [e]; omega)
    (fun A X C h1 h2 => ⟨Nat.le_trans h1.1 h2.1, h2.2.1.trans h1.2.1, h2.2.2.1.trans h1.2.2.1, h2.2.2.2.trans h1.2.2.2⟩)
    (fun W l o o' hl h1 h2 h3 => ⟨by simp, World.putObj_heap_other (by omega), World.putObj_heap_other (by omega), World.putObj_heap_other (by omega)⟩) rfl
    (AI E B k rb w) (AX E B k rb w)
    (fun s W W' row h hg hr => h.grow hg (fun j e => by have := (hr j e).1; omega)) (fun s W W' row h hg hr => h.grow hg (fun j e => by have := (hr j e).1; omega))
    (fun s W W' row h hg hr => h.grow hg (fun j e => by have := hr j e; omega)) (fun s W W' row h hg hr => h.grow hg (fun j e => by have := hr j e; omega))
    ⟨bB, by simp [nd], bR, hB0⟩
    (fun x => { tmps := #[.pointer (some ⟨rb, 0, none⟩), .string U, .pointer (some ⟨w.heap.size, 0, none⟩), undef, .pointer (some ⟨w.heap.size + 1, 0, none⟩), .string x, .string U, .func (.func 140) #[] #[.pointer (some ⟨w.heap.size + 1 + 1 + 1, 0, none⟩), .pointer (some ⟨w.heap.size + 1 + 1, 0, none⟩), .pointer (some ⟨w.heap.size + 1 + 1 + 1 + 1, 0, none⟩)], .string x, undef, undef, undef, undef, undef, undef, undef, undef, undef], defers := [] })
    ?assign ?body ?done ?stop
  case assign =>
    intro l x W K hK
    gi_wp2
    exact hK
  case body =>
    intro l pre x W hi hp
    obtain ⟨hx, hxs⟩ := PL_plain (hp.subset (by simp : x ∈ pre ++ [x]))
    obtain ⟨b, hb⟩ : ∃ b, nd E B k rb pre = b + 1 := ⟨nd E B k rb pre - 1, by have := hi.n; omega⟩
    have hc : W.cell? ⟨w.heap.size, 0, none⟩ = some (.pointer (some ⟨b, 0, none⟩)) := by have := hi.b.cell; rwa [hb] at this
    have hf := hi.b.frozen
    have hcr := hi.r.cell
    have hfr := hi.r.frozen
    obtain ⟨m, hcm, hlk⟩ := step (HBR.out W hi.l) HT.out hb hx (by omega)
    cases hnx : nd E B k rb (pre ++ [x]) with
    | zero =>
      rw [hnx] at hlk
      have hlk' : (Instr.lookup 131 (.map m) (.string x) false).run Tryz.prog W = .ok (.pointer none) W := hlk
      clear hlk
      gi_wp2
      exact ⟨((KeepsOthers.setCell _ _ _).trans (KeepsOthers.setCell _ _ _)).from _, ⟨hnx, (hi.r.other (by omega) _).set _, (hi.l.setCell (p := ⟨w.heap.size, 0, none⟩) (Nat.le_refl _) _).setCell (p := ⟨w.heap.size + 1, 0, none⟩) (by simp) _⟩⟩
    | succ c =>
      rw [hnx] at hlk
      have hlk' : (Instr.lookup 131 (.map m) (.string x) false).run Tryz.prog W = .ok (.pointer (some ⟨c, 0, none⟩)) W := hlk
      clear hlk
      gi_wp2
      refine ⟨(KeepsOthers.setCell _ _ _).from _, kb_set (by omega) _, ⟨?_, by omega, hi.r.other (by omega) _, hi.l.setCell (p := ⟨w.heap.size, 0, none⟩) (Nat.le_refl _) _⟩⟩
      rw [hnx]
      exact hi.b.set _
  case done =>
    intro D W hD hi hK
    obtain ⟨b, hb⟩ : ∃ b, nd E B k rb (PL U) = b + 1 := ⟨nd E B k rb (PL U) - 1, by have := hi.n; omega⟩
    have hc : W.cell? ⟨w.heap.size, 0, none⟩ = some (.pointer (some ⟨b, 0, none⟩)) := by have := hi.b.cell; rwa [hb] at this
    have hcr := hi.r.cell
    have hfr := hi.r.frozen
    gi_wp2
    have hK' := (KeepsOthers.setCell W ⟨w.heap.size + 1, 0, none⟩ (.pointer (some ⟨b, 0, none⟩))).same D _ hK rfl
    refine ⟨by simp, .inl ⟨_, _, rfl, run_takeDeferred hK', ?_⟩⟩
    have hc5 := cell_kept (hi.r.set (.pointer (some ⟨b, 0, none⟩))).cell (grownBy_putObj' _ D (.deferred none)) (fun r e => by cases e; exact ⟨_, hK', rfl⟩)
    refine ⟨.pointer (some ⟨b, 0, none⟩), ?_, ?_, (hi.l.setCell (p := ⟨w.heap.size + 1, 0, none⟩) (by simp) _).trans (belowK_b (w := w) (Nat.le_refl _) _ D _ _ (by omega) hK' rfl rfl)⟩
    · simp [results, Tryz.f123, go_sem, hc5]
    · rw [← nd_all E B k rb U, hb]; rfl
  case stop =>
    intro D pre W hD hp hx hK
    have hcr := hx.r.cell
    gi_wp2
    refine ⟨by simp, .inl ⟨_, _, rfl, run_takeDeferred hK, ?_⟩⟩
    have hc5 := cell_kept hcr (grownBy_putObj' _ D (.deferred none)) (fun r e => by cases e; exact ⟨_, hK, rfl⟩)
    refine ⟨.pointer none, ?_, ?_, hx.l.trans (belowK_b (w := w) (Nat.le_refl _) _ D _ _ (by omega) hK rfl rfl)⟩
    · simp [results, Tryz.f123, go_sem, hc5]
    · rw [nd_dead HT.out hp hx.n]; rfl

end Go.Proofs.YtddnhnpfcelicaaGreatDoor.tt

