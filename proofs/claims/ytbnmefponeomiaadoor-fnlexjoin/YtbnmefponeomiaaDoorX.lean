import Derived.Test.YtbnmefponeomiaaDoorW
import Derived.RangeFuncNested
import Derived.RangeFuncBound
import Derived.RangeFuncCalls
import Derived.RangeFuncLeaves
import Derived.Shelf.Abstract
import Derived.Shelf.RegionOpen
import Derived.WalkKit
import Derived.OwnWalkIn
import Derived.TacticsInMore
import Derived.LoopNIn
import Derived.LoopIn
namespace Go.Proofs.YtbnmefponeomiaaDoor.lx
open Go.RowKit Go.Shelf
attribute [local go_sem] Oper.semAt_some
set_option linter.unusedVariables false
set_option linter.unusedSimpArgs false

/-- What the iterator hands over. -/
structure Y where
  k : Int
  t : ByteArray
  n : Int
  a : Int
  f : Bool
def encY (y : Y) : Array Value := #[.agg #[.int .i64 y.k, .string y.t, .int .i64 y.n, .int .i64 y.a], .bool y.f]
def yl (z : Lx × Nat) : Y := ⟨z.1.kind, ⟨z.1.text.toArray⟩, z.1.num, (z.2 : Int), true⟩
def yf (p : Int) : Y := ⟨0, ⟨#[]⟩, 0, p, false⟩
def YL (s : ByteArray) (q : Nat) : List Y := (lexP s q).1.map yl ++ (if (lexP s q).2 = -1 then [] else [yf (lexP s q).2])

theorem YL_past {s : ByteArray} {p q : Nat} (h : lexP s p = lexP s q) : YL s p = YL s q := by unfold YL; rw [h]
theorem YL_end {s : ByteArray} {q : Nat} (h : s.size ≤ q) : YL s q = [] := by unfold YL; rw [lexP_end h]; rfl
theorem YL_none {s : ByteArray} {q : Nat} (h : lexP s q = ([], (q : Int))) : YL s q = [yf (q : Int)] := by
  unfold YL
  rw [h]
  have : ¬ ((q : Int) = -1) := by omega
  simp [this]
theorem YL_some {s : ByteArray} {q : Nat} {x : Lx} (h : lexP s q = ((x, q) :: (lexP s (q + x.size)).1, (lexP s (q + x.size)).2)) : YL s q = yl (x, q) :: YL s (q + x.size) := by
  unfold YL
  rw [h]
  simp

/-- What the iterator reads of memory. -/
def Sees (n0 Bs : Nat) (s : ByteArray) (W : World) : Prop := (∃ t fr, W.heap[Bs]? = some (.cells #[.string s] t fr)) ∧ es.EscB W ∧ SigB W

/-- What a round that goes on keeps. -/
def Kq (n0 Bs : Nat) (W W' : World) : Prop := Below n0 W W' ∧ W'.heap[Bs]? = W.heap[Bs]?
theorem Kq.trans {n0 Bs : Nat} {A B C : World} (h : Kq n0 Bs A B) (k : Kq n0 Bs B C) : Kq n0 Bs A C := ⟨h.1.trans k.1, k.2.trans h.2⟩
theorem Kq.refl (n0 Bs : Nat) (A : World) : Kq n0 Bs A A := ⟨Below.refl _ _, rfl⟩
theorem kq_of_below {n0 Bs m : Nat} {W W' : World} (h : Below m W W') (h1 : n0 ≤ m) (h2 : Bs < m) : Kq n0 Bs W W' := ⟨h.mono h1, h.block _ h2⟩

theorem Sees.cell {n0 Bs : Nat} {s : ByteArray} {W : World} (h : Sees n0 Bs s W) : W.cell? ⟨Bs, 0, none⟩ = some (.string s) := by
  obtain ⟨⟨t, fr, h⟩, _⟩ := h
  simp [World.cell?, h]

theorem Sees.kq {n0 Bs : Nat} {s : ByteArray} {W W' : World} (h : Sees n0 Bs s W) (hb : Kq n0 Bs W W') (h2 : 2 < n0 ∧ 1 < n0) : Sees n0 Bs s W' := by
  obtain ⟨⟨t0, fr0, h1⟩, ⟨t, fr, h3⟩, ⟨t', fr', h4⟩⟩ := h
  refine ⟨⟨t0, fr0, hb.2.trans h1⟩, ⟨t, fr, ?_⟩, ⟨t', fr', ?_⟩⟩
  · rw [hb.1.block _ (by omega)]; exact h3
  · rw [hb.1.block _ (by omega)]; exact h4

theorem grown_of_below {W W' : World} (h : Below W.heap.size W W') : W.grownBy W' none := ⟨h.os, h.tape, h.output, h.size, fun k hk _ => h.block k hk⟩

set_option maxHeartbeats 2000000 in
theorem iter_stops (n Bs n0 : Nat) (s : ByteArray) (hs : s.size ≤ 20000) (w : World) (hn : 1 ≤ n) (hB : Bs < w.heap.size) (h2 : 2 < n0 ∧ 1 < n0) (hn0 : n0 ≤ w.heap.size) (hse : Sees n0 Bs s w) :
    SeqStopsK Fence.wide n Tryd.prog 44 #[.pointer (some ⟨Bs, 0, none⟩)] encY (Kq n0 Bs) (fun xs => xs = YL s 0) (fun pre => pre <+: YL s 0) (YL s 0).length w := by
  intro l J Jx W hW hJ hJx hY h0
  have hsW : Sees n0 Bs s W := hse.kq (kq_of_below hW hn0 hB) h2
  have hBW0 : Bs < W.heap.size := Nat.lt_of_lt_of_le hB hW.size
  have hnW : n0 ≤ W.heap.size := Nat.le_trans hn0 hW.size
  refine callsIn_of_wp Tryd.func44 rfl trivial ?_ rfl
  simp only [Tryd.ntmps44, List.size_toArray, List.length_cons, List.length_nil, Nat.reduceAdd, Nat.reduceSub, Array.replicate_succ, Array.replicate_zero, List.push_toArray, List.append_toArray, List.nil_append, List.cons_append]
  have hc0 := hsW.cell
  gi_wp2_with (refine ⟨trivial, ?_⟩; gi_at_call 45; refine (callsIn_wide.2 (past_any s hs 0 (Nat.zero_le _) _)).mono ?_; rintro e w' ⟨q0, rfl, hq0, hw⟩; have hw2 := hw.symm; subst hw2; clear hw)
  gi_loopw [3, 4, 5] (fun i _ _ wr => ∃ (pre : List Y) (q : Nat), q ≤ s.size ∧ i = .int .i64 (q : Int) ∧ (∀ (h : q < s.size), isBlank s[q] = false ∧ isB 35 s[q] = false) ∧ YL s 0 = pre ++ YL s q ∧ Sees n0 Bs s wr ∧ W.heap.size ≤ wr.heap.size ∧ J pre wr) (fun i _ _ _ => s.size - (intOf i).toNat)
  case atStart => exact ⟨[], q0, hq0.2.1, rfl, hq0.2.2.2, by rw [List.nil_append]; exact YL_past hq0.2.2.1, hsW, Nat.le_refl _, h0⟩
  case round =>
    obtain ⟨pre, q, hq, rfl, hnb, hyl, hsee, hsz, hJw⟩ := hrel
    have HY : Hid (YL s 0 = pre ++ YL s q) := hyl
    have HB : Hid (∀ (h : q < s.size), isBlank s[q] = false ∧ isB 35 s[q] = false) := hnb
    have hc := hsee.cell
    have hBW : Bs < wr.heap.size := Nat.lt_of_lt_of_le hBW0 hsz
    have hn2 : n0 ≤ wr.heap.size := Nat.le_trans hnW hsz
    clear hnb hyl hc0
    by_cases hlt : q < s.size
    · have hlti : (q : Int) < (s.size : Int) := by omega
      cases ho : one (suf s q) with
      | none =>
        have HC : Hid (Calls Tryd.prog 46 #[.string s, .int .i64 (q : Int)] wr fun e w' => e = .returned (.tuple #[.agg #[.int .i64 0, .string ⟨#[]⟩, .int .i64 0, .int .i64 0], .int .i64 0]) ∧ Below wr.heap.size wr w') := by
          have := lexAt_any s hs q hlt wr hsee.2.1 hsee.2.2
          rw [ho] at this
          exact this
        have HL : Hid (YL s q = [yf (q : Int)]) := YL_none (lexP_none hlt (HB.out hlt).1 (HB.out hlt).2 ho)
        clear ho
        gi_wp2_with (refine ⟨trivial, ?_⟩; gi_at_call 46; refine (callsIn_wide.2 HC.out).mono ?_; rintro e w1 ⟨rfl, hl1⟩; have hcc : w1.cell? ⟨Bs, 0, none⟩ = some (.string s) := (hl1.cell (p := ⟨Bs, 0, none⟩) (by show Bs < _; omega)).trans hc; obtain ⟨fn, tmps, assign, body, hy, hR⟩ := hY pre (yf (q : Int)) (w1.alloc (.cells #[.int .i64 0, .string ⟨#[]⟩, .int .i64 0, .int .i64 (q : Int)] 39)) (hJ _ _ _ none hJw (grown_of_below (hl1.alloc hl1.size _)) (fun r e => by cases e)) (by rw [HY.out, HL.out]; simp); dsimp only [encY, yf] at hy)
        refine hR.mono ?_
        rintro e W3 (⟨rfl, hJ3, hk3⟩ | ⟨rfl, hJx3⟩)
        · gi_wp2
          refine bodyPost_ret (results_none rfl _ _ _) rfl ?_
          exact ⟨⟨_, rfl⟩, .inl ⟨pre ++ [yf (q : Int)], by rw [HY.out, HL.out], hJ3⟩⟩
        · gi_wp2
          refine bodyPost_ret (results_none rfl _ _ _) rfl ?_
          exact ⟨⟨_, rfl⟩, .inr ⟨pre ++ [yf (q : Int)], by rw [HY.out, HL.out]; exact List.prefix_refl _, hJx3⟩⟩
      | some x =>
        have hx1 := one_size ho
        have hsl := suf_len s q
        have HC : Hid (Calls Tryd.prog 46 #[.string s, .int .i64 (q : Int)] wr fun e w' => e = .returned (.tuple #[.agg #[.int .i64 x.kind, .string ⟨x.text.toArray⟩, .int .i64 x.num, .int .i64 0], .int .i64 (x.size : Int)]) ∧ Below wr.heap.size wr w') := by
          have := lexAt_any s hs q hlt wr hsee.2.1 hsee.2.2
          rw [ho] at this
          exact this
        have HL : Hid (YL s q = yl (x, q) :: YL s (q + x.size)) := YL_some (lexP_some hlt (HB.out hlt).1 (HB.out hlt).2 ho)
        have HP : Hid (∀ W, Calls Tryd.prog 45 #[.string s, .int .i64 ((q : Int) + (x.size : Int))] W fun e w' => ∃ q' : Nat, e = .returned (.int .i64 (q' : Int)) ∧ Past s (q + x.size) q' ∧ w' = W) := fun W => by
          have := past_any s hs (q + x.size) (by omega) W
          rwa [Int.natCast_add] at this
        have hx0 : decide (0 < x.size) = true := by simp; omega
        have hxn : 0 < x.size := by omega
        have hx2 : ((x.size : Int) == 0) = false := by simp; omega
        clear ho
        gi_wp2_with (refine ⟨trivial, ?_⟩; gi_at_call 46; refine (callsIn_wide.2 HC.out).mono ?_; rintro e w1 ⟨rfl, hl1⟩; have hsee1 : Sees n0 Bs s w1 := hsee.kq (kq_of_below hl1 hn2 hBW) h2; have hcc := hsee1.cell; obtain ⟨fn, tmps, assign, body, hy, hR⟩ := hY pre (yl (x, q)) (w1.alloc (.cells #[.int .i64 x.kind, .string ⟨x.text.toArray⟩, .int .i64 x.num, .int .i64 (q : Int)] 39)) (hJ _ _ _ none hJw (grown_of_below (hl1.alloc hl1.size _)) (fun r e => by cases e)) (by rw [HY.out, HL.out]; simp); dsimp only [encY, yl] at hy)
        have hs1 := hl1.size
        refine hR.mono ?_
        rintro e W3 (⟨rfl, hJ3, hk3⟩ | ⟨rfl, hJx3⟩)
        · have hsee3 : Sees n0 Bs s W3 := (hsee1.kq (kq_of_below ((Below.refl w1.heap.size w1).alloc (Nat.le_refl _) _) (by omega) (by omega)) h2).kq hk3 h2
          have hc3 := hsee3.cell
          have hs3 := hk3.1.size
          gi_wp2_with (refine ⟨trivial, ?_⟩; gi_at_call 45; refine (callsIn_wide.2 (HP.out _)).mono ?_; rintro e w' ⟨q', rfl, hq', hw⟩; have hw2 := hw.symm; subst hw2; clear hw)
          go_roundw
          case rel => exact ⟨pre ++ [yl (x, q)], q', hq'.2.1, rfl, hq'.2.2.2, by rw [HY.out, HL.out, YL_past hq'.2.2.1]; simp, hsee3, by simp at hs3; omega, hJ3⟩
          case measure => have := hq'.1; simp [intOf]; omega
        · gi_wp2
          refine bodyPost_ret (results_none rfl _ _ _) rfl ?_
          exact ⟨⟨_, rfl⟩, .inr ⟨pre ++ [yl (x, q)], by rw [HY.out, HL.out]; exact ⟨YL s (q + x.size), by simp⟩, hJx3⟩⟩
    · have hlti : ¬ (q : Int) < (s.size : Int) := by omega
      have HL : Hid (YL s q = []) := YL_end (by omega)
      gi_wp2
      go_end0
      have e : pre = YL s 0 := by rw [HY.out, HL.out, List.append_nil]
      rw [e] at hJw
      first
        | exact ⟨⟨_, rfl⟩, .inl hJw⟩
        | exact ⟨⟨_, rfl⟩, .inl ⟨_, rfl, hJw⟩⟩

end Go.Proofs.YtbnmefponeomiaaDoor.lx
