import Derived.Test.YtheponigjofknaaDoorRME
import Derived.RangeFuncCalls
import Derived.RangeFuncLeaves
import Derived.Shelf.Abstract
import Derived.Shelf.RegionOpen
import Derived.WalkKit
import Derived.OwnWalkIn
import Derived.TacticsInMore
import Derived.LoopNIn
import Derived.LoopIn
import Derived.Test.YtheponigjofknaaDoorRT
namespace Go.Proofs.YtheponigjofknaaDoor.mt
open Go.RowKit Go.Shelf Go.Proofs.YtheponigjofknaaDoor.rt
attribute [local go_sem] Oper.semAt_some
set_option linter.unusedVariables false
set_option linter.unusedSimpArgs false

/-! ### strings.Lines -/

theorem lseq_any (s : ByteArray) (w : World) :
    Calls Tryd.prog 36 #[.string s] w fun e w' => e = .returned (.func (.func 59) #[] #[.pointer (some ⟨w.heap.size, 0, none⟩)]) ∧ w' = w.alloc (.cells #[.string s] 9) := by
  go_enter Tryd.func36, Tryd.ntmps36
  go_wp2
  go_ret
  exact ⟨rfl, rfl⟩

def Kb (B : Nat) (W W' : World) : Prop := W.heap.size ≤ W'.heap.size ∧ W'.heap[B]? = W.heap[B]?
def PLL (s : ByteArray) : List ByteArray := (rawL s.data.toList).map BA
def szAt (W : World) (B : Nat) : Nat := match W.cell? ⟨B, 0, none⟩ with | some (.string u) => u.size | _ => 0
theorem szAt_of {W : World} {B : Nat} {u : ByteArray} (h : Boxed W B 9 (.string u)) : szAt W B = u.size := by unfold szAt; rw [h.cell]
theorem bx_kb {W W' : World} {B : Nat} {u : ByteArray} (h : Boxed W B 9 (.string u)) (k : Kb B W W') : Boxed W' B 9 (.string u) := k.2.trans h
theorem bx_below {W W' : World} {B : Nat} {u : ByteArray} (h : Boxed W B 9 (.string u)) (k : Below W.heap.size W W') : Boxed W' B 9 (.string u) := (k.block _ h.lt).trans h

theorem PLL_nil {u : ByteArray} (h : u.size = 0) : PLL u = [] := by
  have : u.data.toList = [] := List.eq_nil_of_length_eq_zero (by simpa using h)
  unfold PLL
  rw [this]
  rfl
theorem PLL_none {u : ByteArray} (h : Lib.indexByte u.data.toList 10 = -1) (hu : ¬ u.size = 0) : PLL u = [u] := by
  unfold PLL
  rw [rawL_none h (fun e => hu (by have := congrArg List.length e; simpa using this)), List.map_cons, List.map_nil, BA_of]
theorem PLL_hit {u : ByteArray} {i : Nat} (h : Lib.indexByte u.data.toList 10 = (i : Int)) : i < u.size ∧ PLL u = u.extract 0 (i + 1) :: PLL (u.extract (i + 1) u.size) := by
  obtain ⟨h1, h2⟩ := rawL_hit h
  have hz : u.data.toList.length = u.size := by simp
  refine ⟨by omega, ?_⟩
  unfold PLL
  rw [h2, List.map_cons]
  congr 1
  · apply ByteArray.ext
    apply Array.ext'
    rw [ext_list]
    simp [BA]
  · rw [ext_list, List.take_of_length_le (by simp)]

set_option maxRecDepth 100000 in
set_option maxHeartbeats 2000000 in
theorem lines_hands (n B : Nat) (s : ByteArray) (hs : s.size ≤ 1048576) (w : World) (hn : 1 ≤ n) (hS : Boxed w B 9 (.string s)) :
    Hands n Tryd.prog 59 #[.pointer (some ⟨B, 0, none⟩)] (Kb B) (fun r => r = B) (PLL s) w := by
  intro l J Jx W hW hJ hJx hY h0
  have hsW : Boxed W B 9 (.string s) := (hW.block _ hS.lt).trans hS
  refine callsIn_of_wp Tryd.func59 rfl trivial ?_ rfl
  simp only [Tryd.ntmps59, List.size_toArray, List.length_cons, List.length_nil, Nat.reduceAdd, Nat.reduceSub, Array.replicate_succ, Array.replicate_zero, List.push_toArray, List.append_toArray, List.nil_append, List.cons_append]
  gi_wp2
  gi_loopw [3] (fun _ wr => ∃ (pre : List ByteArray) (u : ByteArray), PLL s = pre ++ PLL u ∧ u.size ≤ s.size ∧ Boxed wr B 9 (.string u) ∧ J pre wr) (fun _ wr => szAt wr B)
  case atStart => exact ⟨[], s, rfl, Nat.le_refl _, hsW, h0⟩
  case round =>
    obtain ⟨pre, u, hpl, hus, hsq, hJw⟩ := hrel
    have HPL : Hid (PLL s = pre ++ PLL u) := hpl
    have hc := hsq.cell
    have hf := hsq.frozen
    have hB : B < wr.heap.size := hsq.lt
    clear hpl
    by_cases hz : u.size = 0
    · have HL : Hid (PLL u = []) := PLL_nil hz
      have hz' : ¬ (0 : Int) < (u.size : Int) := by omega
      clear hz
      gi_wp2
      go_end0
      exact ⟨⟨_, rfl⟩, .inl (by rw [HPL.out, HL.out, List.append_nil]; exact hJw)⟩
    have hz' : (0 : Int) < (u.size : Int) := by omega
    by_cases hm : Lib.indexByte u.data.toList 10 = -1
    · have HI : Hid (Calls Tryd.prog 60 #[.string u, .int .u8 10] wr fun e w' => e = .returned (.int .i64 (-1)) ∧ w' = wr) := by
        have := iix_any u wr
        rw [hm] at this
        exact this
      have HL : Hid (PLL u = [u]) := PLL_none hm hz
      clear hm hz
      obtain ⟨fn, tmps, assign, body, hy, hR⟩ := hY pre u (wr.setCell ⟨B, 0, none⟩ (.string ⟨#[]⟩)) (hJ _ _ _ _ hJw (grownBy_setCell' _ _ _) (fun r e => by cases e; rfl)) ⟨[], by rw [HPL.out, HL.out]; simp⟩
      gi_wp2_with (refine ⟨trivial, ?_⟩; gi_at_call 60; refine (callsIn_wide.2 HI.out).mono ?_; rintro e w1 ⟨rfl, hw⟩; have hw2 := hw.symm; subst hw2; clear hw)
      refine hR.mono ?_
      rintro e W3 (⟨rfl, hJ3, hk3⟩ | ⟨rfl, hJx3⟩)
      · have hsq3 : Boxed W3 B 9 (.string ⟨#[]⟩) := bx_kb (hsq.set _) hk3
        gi_wp2
        go_roundw
        case rel => exact ⟨pre ++ [u], ⟨#[]⟩, by rw [HPL.out, HL.out, PLL_nil rfl]; simp, Nat.zero_le _, hsq3, hJ3⟩
        case measure => rw [szAt_of hsq3, szAt_of hsq]; show 0 < u.size; omega
      · gi_wp2
        refine bodyPost_ret (results_none rfl _ _ _) rfl ?_
        exact ⟨⟨_, rfl⟩, .inr ⟨_, ⟨[], by rw [HPL.out, HL.out]; simp⟩, hJx3⟩⟩
    · have hge := Lib.indexByte_ge u.data.toList 10
      obtain ⟨i, hi⟩ : ∃ i : Nat, Lib.indexByte u.data.toList 10 = (i : Int) := ⟨(Lib.indexByte u.data.toList 10).toNat, by omega⟩
      obtain ⟨hlt, hL⟩ := PLL_hit hi
      have HI : Hid (Calls Tryd.prog 60 #[.string u, .int .u8 10] wr fun e w' => e = .returned (.int .i64 (i : Int)) ∧ w' = wr) := by
        have := iix_any u wr
        rw [hi] at this
        exact this
      have HL : Hid (PLL u = u.extract 0 (i + 1) :: PLL (u.extract (i + 1) u.size)) := hL
      have hin : (0 : Int) ≤ (i : Int) := by omega
      have hlt1 : (i : Int) + 1 ≤ (u.size : Int) := by omega
      have hlt0 : (0 : Int) ≤ (i : Int) + 1 := by omega
      have hwr : wrap64 ((i : Int) + 1) = (i : Int) + 1 := by unfold wrap64; omega
      have hnl : ¬ (u.size : Int) < (i : Int) + 1 := by omega
      have hng : ¬ (i : Int) + 1 < 0 := by omega
      clear hm hge hi hL hz
      have hm : Tryd.prog.follows .mixedOrders = true := by kernel_rfl
      have hm2 : Tryd.prog.follows .lateStores = true := by kernel_rfl
      gi_wp2_with (refine ⟨trivial, ?_⟩; gi_at_call 60; refine (callsIn_wide.2 HI.out).mono ?_; rintro e w1 ⟨rfl, hw⟩; have hw2 := hw.symm; subst hw2; clear hw)
      gi_region
      obtain ⟨fn, tmps, assign, body, hy, hR⟩ := hY pre (u.extract 0 (i + 1)) (wr.setCell ⟨B, 0, none⟩ (.string (u.extract (i + 1) u.size))).drew (hJ _ _ _ none (hJ _ _ _ _ hJw (grownBy_setCell' _ _ _) (fun r e => by cases e; rfl)) ⟨rfl, rfl, rfl, Nat.le_refl _, fun _ _ _ => rfl⟩ (fun r e => by cases e)) ⟨PLL (u.extract (i + 1) u.size), by rw [HPL.out, HL.out]; simp⟩
      gi_wp2
      refine hR.mono ?_
      rintro e W3 (⟨rfl, hJ3, hk3⟩ | ⟨rfl, hJx3⟩)
      · have hsq3 : Boxed W3 B 9 (.string (u.extract (i + 1) u.size)) := bx_kb (W := (wr.setCell ⟨B, 0, none⟩ (.string (u.extract (i + 1) u.size))).drew) (hsq.set (.string (u.extract (i + 1) u.size))) hk3
        gi_wp2
        go_roundw
        case rel => exact ⟨pre ++ [u.extract 0 (i + 1)], u.extract (i + 1) u.size, by rw [HPL.out, HL.out]; simp, by simp; omega, hsq3, hJ3⟩
        case measure => rw [szAt_of hsq3, szAt_of hsq]; simp; omega
      · gi_wp2
        refine bodyPost_ret (results_none rfl _ _ _) rfl ?_
        exact ⟨⟨_, rfl⟩, .inr ⟨_, ⟨PLL (u.extract (i + 1) u.size), by rw [HPL.out, HL.out]; simp⟩, hJx3⟩⟩

end Go.Proofs.YtheponigjofknaaDoor.mt
