import Derived.Test.YtabhgmpbokkjlaaDoorTP
import Derived.Test.YtabhgmpbokkjlaaDoorTV
import Derived.RangeFuncCalls
import Derived.RangeFuncLeaves
import Derived.Shelf.Abstract
import Derived.Shelf.RegionOpen
import Derived.WalkKit
import Derived.OwnWalkIn
import Derived.TacticsInMore
import Derived.LoopNIn
import Derived.LoopIn
import Derived.Test.YtabhgmpbokkjlaaDoorRT
namespace Go.Proofs.YtabhgmpbokkjlaaDoor.tt
open Go.RowKit Go.Shelf Go.Proofs.YtabhgmpbokkjlaaDoor.rt
attribute [local go_sem] Oper.semAt_some
set_option linter.unusedVariables false
set_option linter.unusedSimpArgs false

end Go.Proofs.YtabhgmpbokkjlaaDoor.tt
namespace Go.Proofs
open Go.Shelf
def YtabhgmpbokkjlaaDoor.tt.laysIX_ren : Go.Shelf.Ren := ⟨fun | 143 => 103 | 219 => 125 | 217 => 138 | 225 => 139 | 224 => 140 | 267 => 141 | 266 => 144 | 314 => 145 | n => n, fun | 9 => 9 | 3 => 3 | 4 => 4 | 5 => 5 | 46 => 109 | 146 => 138 | 51 => 133 | n => n, fun | 1 => 1 | n => n⟩
theorem YtabhgmpbokkjlaaDoor.tt.laysIX : Go.Proofs.Lays.n143 Tryd.prog YtabhgmpbokkjlaaDoor.tt.laysIX_ren := {
  mixed := by kernel_rfl
  f143 := Tryd.func103.trans (congrArg some (by kernel_rfl))
  f217 := Tryd.func138.trans (congrArg some (by kernel_rfl))
  f219 := Tryd.func125.trans (congrArg some (by kernel_rfl))
  f224 := Tryd.func140.trans (congrArg some (by kernel_rfl))
  f225 := Tryd.func139.trans (congrArg some (by kernel_rfl))
  f266 := Tryd.func144.trans (congrArg some (by kernel_rfl))
  f267 := Tryd.func141.trans (congrArg some (by kernel_rfl))
  f314 := Tryd.func145.trans (congrArg some (by kernel_rfl))
  t3 := Tryd.underlying3
  a3 := Tryd.isAgg3
  z3 := Tryd.sizeOf3
  v3 := Tryd.zeroValue3
  t4 := Tryd.underlying4
  a4 := Tryd.isAgg4
  z4 := Tryd.sizeOf4
  v4 := Tryd.zeroValue4
  t5 := Tryd.underlying5
  a5 := Tryd.isAgg5
  z5 := Tryd.sizeOf5
  v5 := Tryd.zeroValue5
  t9 := Tryd.underlying9
  a9 := Tryd.isAgg9
  z9 := Tryd.sizeOf9
  v9 := Tryd.zeroValue9
  t46 := Tryd.underlying109
  a46 := Tryd.isAgg109
  z46 := Tryd.sizeOf109
  v46 := Tryd.zeroValue109
  t51 := Tryd.underlying133
  a51 := Tryd.isAgg133
  z51 := Tryd.sizeOf133
  v51 := Tryd.zeroValue133
  t146 := Tryd.underlying138
  a146 := Tryd.isAgg138
  z146 := Tryd.sizeOf138
  v146 := Tryd.zeroValue138
  g1 := by kernel_rfl }
end Go.Proofs
namespace Go.Proofs.YtabhgmpbokkjlaaDoor.tt
open Go.RowKit Go.Shelf Go.Proofs.YtabhgmpbokkjlaaDoor.rt
attribute [local go_sem] Oper.semAt_some
set_option linter.unusedVariables false
set_option linter.unusedSimpArgs false
theorem ix_ren : laysIX_ren.f 143 = 103 := by kernel_rfl

theorem seq_any (s : ByteArray) (w : World) :
    Calls Tryd.prog 89 #[.string s, .string ⟨#[47]⟩] w fun e w' => e = .returned (.func (.func 128) #[] #[.pointer (some ⟨w.heap.size + 1, 0, none⟩), .pointer (some ⟨w.heap.size, 0, none⟩), .pointer (some ⟨w.heap.size + 1 + 1, 0, none⟩)]) ∧ w' = ((w.alloc (.cells #[.string s] 9)).alloc (.cells #[.string ⟨#[47]⟩] 9)).alloc (.cells #[.int .i64 0] 3) := by
  have HS : Hid (Calls Tryd.prog 109 #[.string s, .string ⟨#[47]⟩, .int .i64 0] w fun e w' => e = .returned (.func (.func 128) #[] #[.pointer (some ⟨w.heap.size + 1, 0, none⟩), .pointer (some ⟨w.heap.size, 0, none⟩), .pointer (some ⟨w.heap.size + 1 + 1, 0, none⟩)]) ∧ w' = ((w.alloc (.cells #[.string s] 9)).alloc (.cells #[.string ⟨#[47]⟩] 9)).alloc (.cells #[.int .i64 0] 3)) := by
    unfold Hid
    go_enter Tryd.func109, Tryd.ntmps109
    go_wp2
    go_ret
    exact ⟨rfl, rfl⟩
  go_enter Tryd.func89, Tryd.ntmps89
  go_wp2_with (go_at_call 109; refine HS.out.mono ?_; rintro e w1 ⟨rfl, rfl⟩)
  go_ret
  exact ⟨rfl, rfl⟩

theorem index_any (u : ByteArray) (w : World) :
    Calls Tryd.prog 103 #[.string u, .string ⟨#[47]⟩] w fun e w' => e = .returned (.int .i64 (Lib.index u.data.toList sl)) ∧ w' = w := by
  have := Any.strings_Index_one laysIX u 47 w
  rw [← Lib.index_one] at this
  exact this

/-- The three boxes of the iterator over a text's pieces. -/
structure Sq (W : World) (B : Nat) (u : ByteArray) : Prop where
  s : Boxed W B 9 (.string u)
  p : Boxed W (B + 1) 9 (.string ⟨#[47]⟩)
  v : Boxed W (B + 1 + 1) 3 (.int .i64 0)

def Kb (B : Nat) (W W' : World) : Prop := W.heap.size ≤ W'.heap.size ∧ W'.heap[B]? = W.heap[B]? ∧ W'.heap[B + 1]? = W.heap[B + 1]? ∧ W'.heap[B + 1 + 1]? = W.heap[B + 1 + 1]?
theorem Sq.kb {W W' : World} {B : Nat} {u : ByteArray} (h : Sq W B u) (k : Kb B W W') : Sq W' B u := ⟨k.2.1.trans h.s, k.2.2.1.trans h.p, k.2.2.2.trans h.v⟩
theorem Sq.set {W : World} {B : Nat} {u : ByteArray} (h : Sq W B u) (u' : ByteArray) : Sq (W.setCell ⟨B, 0, none⟩ (.string u')) B u' := ⟨h.s.set _, h.p.other (by omega) _, h.v.other (by omega) _⟩
theorem Sq.below {W W' : World} {B : Nat} {u : ByteArray} (h : Sq W B u) (k : Below W.heap.size W W') : Sq W' B u := h.kb ⟨k.size, k.block _ h.s.lt, k.block _ h.p.lt, k.block _ h.v.lt⟩

def PL (s : ByteArray) : List ByteArray := (spl [] s.data.toList).map fun x => ⟨x.toArray⟩
def szAt (W : World) (B : Nat) : Nat := match W.cell? ⟨B, 0, none⟩ with | some (.string u) => u.size | _ => 0
theorem szAt_of {W : World} {B : Nat} {u : ByteArray} (h : Sq W B u) : szAt W B = u.size := by unfold szAt; rw [h.s.cell]

theorem PL_miss {u : ByteArray} (h : Lib.index u.data.toList sl = -1) : PL u = [u] := by unfold PL; rw [spl_miss _ _ h]; rfl
theorem ix_lt {u : ByteArray} {i : Nat} (h : Lib.index u.data.toList sl = (i : Int)) : i < u.size := by
  have h' : Lib.indexByte u.data.toList 47 = i := by rw [← Lib.index_one]; exact h
  have := (List.getElem?_eq_some_iff.1 (Lib.indexByte_some h').1).1
  simpa using this
theorem PL_hit {u : ByteArray} {i : Nat} (h : Lib.index u.data.toList sl = (i : Int)) : PL u = u.extract 0 i :: PL (u.extract (i + 1) u.size) := by
  have hi := ix_lt h
  unfold PL
  rw [spl_hit _ _ _ h, List.map_cons, ext_drop (by omega)]
  congr 1
  apply ByteArray.ext
  apply Array.ext'
  simp

set_option maxRecDepth 100000 in
set_option maxHeartbeats 2000000 in
theorem split_hands (n B : Nat) (s : ByteArray) (hs : s.size ≤ 1048576) (w : World) (hn : 1 ≤ n) (hS : Sq w B s) :
    Hands n Tryd.prog 128 #[.pointer (some ⟨B + 1, 0, none⟩), .pointer (some ⟨B, 0, none⟩), .pointer (some ⟨B + 1 + 1, 0, none⟩)] (Kb B) (fun r => r = B) (PL s) w := by
  intro l J Jx W hW hJ hJx hY h0
  have hsW : Sq W B s := hS.below hW
  refine callsIn_of_wp Tryd.func128 rfl trivial ?_ rfl
  simp only [Tryd.ntmps128, List.size_toArray, List.length_cons, List.length_nil, Nat.reduceAdd, Nat.reduceSub, Array.replicate_succ, Array.replicate_zero, List.push_toArray, List.append_toArray, List.nil_append, List.cons_append]
  have hp0 := hsW.p.cell
  have hz1 : (ByteArray.mk #[47]).size = 1 := rfl
  gi_wp2
  gi_loopw [7, 8] (fun _ _ wr => ∃ (pre : List ByteArray) (u : ByteArray), PL s = pre ++ PL u ∧ u.size ≤ s.size ∧ Sq wr B u ∧ J pre wr) (fun _ _ wr => szAt wr B)
  case atStart => exact ⟨[], s, rfl, Nat.le_refl _, hsW, h0⟩
  case round =>
    obtain ⟨pre, u, hpl, hus, hsq, hJw⟩ := hrel
    have HPL : Hid (PL s = pre ++ PL u) := hpl
    have hc := hsq.s.cell
    have hcp := hsq.p.cell
    have hcv := hsq.v.cell
    have hB : B < wr.heap.size := hsq.s.lt
    clear hpl hp0
    by_cases hm : Lib.index u.data.toList sl = -1
    · have HI : Hid (Calls Tryd.prog 103 #[.string u, .string ⟨#[47]⟩] wr fun e w' => e = .returned (.int .i64 (-1)) ∧ w' = wr) := by
        have := index_any u wr
        rw [hm] at this
        exact this
      have HL : Hid (PL u = [u]) := PL_miss hm
      clear hm
      obtain ⟨fn, tmps, assign, body, hy, hR⟩ := hY pre u wr hJw ⟨[], by rw [HPL.out, HL.out]; simp⟩
      gi_wp2_with (refine ⟨trivial, ?_⟩; gi_at_call 103; refine (callsIn_wide.2 HI.out).mono ?_; rintro e w1 ⟨rfl, hw⟩; have hw2 := hw.symm; subst hw2; clear hw)
      refine hR.mono ?_
      rintro e W3 (⟨rfl, hJ3, hk3⟩ | ⟨rfl, hJx3⟩)
      · gi_wp2
        go_end0
        exact ⟨⟨_, rfl⟩, .inl (by rw [HPL.out, HL.out]; exact hJ3)⟩
      · gi_wp2
        go_end0
        exact ⟨⟨_, rfl⟩, .inr ⟨_, by rw [HPL.out, HL.out]; exact List.prefix_refl _, hJx3⟩⟩
    · have hge := Lib.index_ge u.data.toList sl
      obtain ⟨i, hi⟩ : ∃ i : Nat, Lib.index u.data.toList sl = (i : Int) := ⟨(Lib.index u.data.toList sl).toNat, by omega⟩
      have hlt := ix_lt hi
      have HI : Hid (Calls Tryd.prog 103 #[.string u, .string ⟨#[47]⟩] wr fun e w' => e = .returned (.int .i64 (i : Int)) ∧ w' = wr) := by
        have := index_any u wr
        rw [hi] at this
        exact this
      have HL : Hid (PL u = u.extract 0 i :: PL (u.extract (i + 1) u.size)) := PL_hit hi
      have hin : ¬ (i : Int) < 0 := by omega
      clear hm hge hi
      obtain ⟨fn, tmps, assign, body, hy, hR⟩ := hY pre (u.extract 0 i) wr hJw ⟨PL (u.extract (i + 1) u.size), by rw [HPL.out, HL.out]; simp⟩
      gi_wp2_with (refine ⟨trivial, ?_⟩; gi_at_call 103; refine (callsIn_wide.2 HI.out).mono ?_; rintro e w1 ⟨rfl, hw⟩; have hw2 := hw.symm; subst hw2; clear hw)
      refine hR.mono ?_
      rintro e W3 (⟨rfl, hJ3, hk3⟩ | ⟨rfl, hJx3⟩)
      · have hsq3 := hsq.kb hk3
        have hc3 := hsq3.s.cell
        have hf3 := hsq3.s.frozen
        have hcp3 := hsq3.p.cell
        have hlt1 : (i : Int) + 1 ≤ (u.size : Int) := by omega
        gi_wp2
        go_roundw
        case rel => exact ⟨pre ++ [u.extract 0 i], u.extract (i + 1) u.size, by rw [HPL.out, HL.out]; simp, by simp; omega, hsq3.set _, hJ _ _ _ _ hJ3 (grownBy_setCell' _ _ _) (fun r e => by cases e; rfl)⟩
        case measure => rw [szAt_of (hsq3.set _), szAt_of hsq]; simp; omega
      · gi_wp2
        refine bodyPost_ret (results_none rfl _ _ _) rfl ?_
        exact ⟨⟨_, rfl⟩, .inr ⟨_, ⟨PL (u.extract (i + 1) u.size), by rw [HPL.out, HL.out]; simp⟩, hJx3⟩⟩

end Go.Proofs.YtabhgmpbokkjlaaDoor.tt
