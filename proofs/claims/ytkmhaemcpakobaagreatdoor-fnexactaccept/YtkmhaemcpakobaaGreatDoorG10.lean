import Derived.Test.YtkmhaemcpakobaaGreatDoorG01
import Derived.RangeFuncNested
import Derived.RangeFuncBound
import Derived.Test.YtkmhaemcpakobaaGreatDoorG09
import Derived.RangeFuncCalls
import Derived.RangeFuncLeaves
import Derived.Shelf.Abstract
import Derived.Shelf.RegionOpen
import Derived.WalkKit
import Derived.OwnWalkIn
import Derived.TacticsInMore
import Derived.LoopNIn
import Derived.LoopIn
namespace Go.Proofs.YtkmhaemcpakobaaGreatDoor.rt
open Go.RowKit
set_option linter.unusedVariables false
set_option linter.unusedSimpArgs false

/-! ### A loop over an iterator that writes into boxes of its own (T) -/

/-- The two blocks that a loop lays. -/
structure Bk (D : Nat) (r : Loop) (W : World) : Prop where
  lo : W.heap[D + 1]? = some (.loop r)
  de : W.heap[D]? = some (.deferred (some []))

theorem Bk.to {D : Nat} {r : Loop} {W W' : World} (h : Bk D r W) (hk : KeepsFrom D W W') : Bk D r W' := ⟨hk.same _ _ (by omega) h.lo rfl, hk.same _ _ (Nat.le_refl _) h.de rfl⟩
theorem Bk.put {D : Nat} {r : Loop} {W : World} (h : Bk D r W) (r' : Loop) : Bk D r' (W.putObj (D + 1) (.loop r')) := ⟨World.putObj_heap_same (Array.getElem?_eq_some_iff.1 h.lo).1, (World.putObj_heap_other (by omega)).trans h.de⟩

/-- What speaks of nothing that lies in T. -/
def Ab (T : Nat → Prop) (J : List ByteArray → World → Prop) : Prop := ∀ s W W' row, J s W → W.grownBy W' row → (∀ r, row = some r → T r) → J s W'

theorem Bk.ab {D : Nat} {r : Loop} {T : Nat → Prop} (hT : ∀ r, T r → r < D) {W W' : World} {row : Option Nat} (h : Bk D r W) (hg : W.grownBy W' row) (hr : ∀ r, row = some r → T r) : Bk D r W' :=
  ⟨(hg.block _ (Array.getElem?_eq_some_iff.1 h.lo).1 (fun e => by have := hT _ (hr _ e.symm); omega)).trans h.lo, (hg.block _ (Array.getElem?_eq_some_iff.1 h.de).1 (fun e => by have := hT _ (hr _ e.symm); omega)).trans h.de⟩

/-- One round. -/
theorem round_t {F : Fence} {n : Nat} {P : Program} {D : Nat} {r : Loop} {W : World} {R : Ending → World → Prop} (hB : Bk D r W) (hr : r.state = .ready) (hfn : F.fn r.fn) (args : Array Value) (hs : args.size = r.params.size) (a1 : Act)
    (ha : ∀ K : Act → World → Prop, K a1 W → r.assign.wpIn (F.inRound (D + 1)) n P (Exit.then K (fun _ _ _ => False)) { tmps := (r.params.zip args).foldl (fun t (p, v) => t.setIfInBounds p v) r.tmps, defers := [] } W)
    (hb : r.body.wpIn (F.inRound (D + 1)) n P (fun e _ W' => KeepsFrom D (W.putObj (D + 1) (.loop { r with state := .busy })) W' ∧ ((e = .normal ∧ R (.returned (.bool true)) (W'.putObj (D + 1) (.loop { r with state := .ready, pending := none }))) ∨ (e = .ret ∧ R (.returned (.bool false)) (W'.putObj (D + 1) (.loop { r with state := .done, pending := some .ret }))))) a1 (W.putObj (D + 1) (.loop { r with state := .busy }))) :
    YieldAt F n P (D + 1) args W R := by
  refine ⟨r.fn, _, r.assign, r.body, run_yield hB.lo hs, roundIn_of_wpIn hfn (ha _ ⟨_, run_beginRound hB.lo hr, wpIn_mono hb ?_⟩)⟩
  rintro e a' W' ⟨hk, ⟨rfl, h⟩ | ⟨rfl, h⟩⟩
  · exact ⟨_, _, run_endRound none ((hB.put _).to hk).lo, h⟩
  · exact ⟨_, _, run_endRound (some .ret) ((hB.put _).to hk).lo, h⟩

/-- An iterator that hands over the texts L, one behind the other. -/
def Hands (n : Nat) (P : Program) (g : Nat) (lb : Array Value) (K : World → World → Prop) (T : Nat → Prop) (L : List ByteArray) (w : World) : Prop :=
  ∀ (l : Nat) (J Jx : List ByteArray → World → Prop) (W : World), Below w.heap.size w W → Ab T J → Ab T Jx →
    (∀ pre x W1, J pre W1 → pre ++ [x] <+: L → YieldAt Fence.wide (n - 1) P l #[.string x] W1 fun e W' => (e = .returned (.bool true) ∧ J (pre ++ [x]) W' ∧ K W1 W') ∨ (e = .returned (.bool false) ∧ Jx (pre ++ [x]) W')) →
    J [] W → CallsIn Fence.wide n P g (#[.func (.yield l) #[] #[]] ++ lb) W fun e W' => (∃ v, e = .returned v) ∧ (J L W' ∨ ∃ pre, pre <+: L ∧ Jx pre W')

/-- The loop over it, whose body goes on or returns. -/
theorem range_t {n : Nat} {P : Program} {g : Operand} {ps : Array Tmp} {assign body : Code} {Q : Exit → Act → World → Prop} {a : Act} {w : World} (h1 : 1 ≤ n) {gf : Nat} {lb : Array Value}
    (hg : a.eval g = .func (.func gf) #[] lb) (eg : ∀ args w, (callFunc gf args).run P w = .ok (.enter gf args) w) {K : World → World → Prop} {T : Nat → Prop} {L : List ByteArray} (hseq : Hands (n - 1) P gf lb K T L w)
    (hT : ∀ r, T r → r < w.heap.size) (hKt : ∀ A B C : World, K A B → K B C → K A C) (hKb : ∀ (W : World) (l : Nat) (o o' : Obj), w.heap.size ≤ l → W.heap[l]? = some o → o.isCells = false → o.isWalk = false → K W (W.putObj l o'))
    (hps : ps.size = 1) (I Ix : List ByteArray → World → Prop) (hI : OwnFrom w.heap.size I) (hIx : OwnFrom w.heap.size Ix) (tI : Ab T I) (tIx : Ab T Ix) (h0 : I [] w) (a1 : ByteArray → Act)
    (hassign : ∀ (l : Nat) (x : ByteArray) (W : World) (K : Act → World → Prop), K (a1 x) W → assign.wpIn (Fence.wide.inRound l) (n - 1 - 1) P (Exit.then K (fun _ _ _ => False)) { tmps := (ps.zip #[.string x]).foldl (fun t (p, v) => t.setIfInBounds p v) a.tmps, defers := [] } W)
    (hbody : ∀ (l : Nat) (pre : List ByteArray) (x : ByteArray) (W : World), I pre W → pre ++ [x] <+: L → body.wpIn (Fence.wide.inRound l) (n - 1 - 1) P (fun e _ W' => KeepsFrom w.heap.size W W' ∧ ((e = .normal ∧ K W W' ∧ I (pre ++ [x]) W') ∨ (e = .ret ∧ Ix (pre ++ [x]) W'))) (a1 x) W)
    (hdone : ∀ (D : Nat) (W : World), w.heap.size ≤ D → I L W → W.heap[D]? = some (.deferred (some [])) → Q .normal { a with defers := { target := .collected D, args := #[] } :: a.defers } W)
    (hstop : ∀ (D : Nat) (pre : List ByteArray) (W : World), w.heap.size ≤ D → pre <+: L → Ix pre W → W.heap[D]? = some (.deferred (some [])) → Code.ret.wpIn Fence.wide n P Q { a with defers := { target := .collected D, args := #[] } :: a.defers } W) :
    (Code.rangeFunc g ps assign body).wpIn Fence.wide n P Q a w := by
  refine wpIn_rangeFunc fun fn hfn => ?_
  obtain ⟨r, hr⟩ : ∃ r : Loop, r = { state := .ready, pending := none, fn := fn, tmps := a.tmps, params := ps, assign := assign, body := body, defers := w.heap.size } := ⟨_, rfl⟩
  obtain ⟨W1, hW1⟩ : ∃ W1, (w.alloc (.deferred (some []))).alloc (.loop r) = W1 := ⟨_, rfl⟩
  have hB1 : Bk w.heap.size r W1 := by
    rw [← hW1]
    refine ⟨?_, (Below.heap_alloc _ _ _ (by simp)).trans (World.alloc_heap_new w _)⟩
    have := World.alloc_heap_new (w.alloc (.deferred (some []))) (.loop r)
    rwa [World.size_alloc] at this
  have hI1 : I [] W1 := by rw [← hW1]; exact hI.alloc _ (hI.alloc _ h0)
  have hb1 : Below w.heap.size w W1 := by rw [← hW1]; exact ((Below.refl _ w).alloc (Nat.le_refl _) _).alloc (by simp) _
  refine ⟨w.heap.size + 1, [{ target := .collected w.heap.size, args := #[] }], W1, { target := .fn (.func gf) lb, args := #[.func (.yield (w.heap.size + 1)) #[] #[]] }, W1, gf, #[.func (.yield (w.heap.size + 1)) #[] #[]] ++ lb, W1, ?_, ?_, fun _ _ => trivial, ?_, fun _ => h1, ?_⟩
  · rw [← hW1, hr]; exact run_enterLoop_outer _ _ _ _ _
  · simp only [resolve, hg]
    simp [go_sem]
  · simp [invoke, go_sem, eg]
  · refine (hseq (w.heap.size + 1) (fun pre W => I pre W ∧ Bk w.heap.size r W) (fun pre W => Ix pre W ∧ Bk w.heap.size { r with state := .done, pending := some .ret } W) W1 hb1
      (fun s A B row h hg hrow => ⟨tI s A B row h.1 hg hrow, h.2.ab hT hg hrow⟩) (fun s A B row h hg hrow => ⟨tIx s A B row h.1 hg hrow, h.2.ab hT hg hrow⟩) ?_ ⟨hI1, hB1⟩).mono ?_
    · rintro pre x W ⟨hi, hB⟩ hp
      have hlo : ∀ {r : Loop} {W : World}, Bk w.heap.size r W → ∀ o', K W (W.putObj (w.heap.size + 1) o') := fun h o' => hKb _ _ _ o' (by omega) h.lo rfl rfl
      refine round_t hB (by rw [hr]) (by trivial) _ (by rw [hr]; simp [hps]) (a1 x) (fun K hK => by rw [hr]; exact hassign _ x W K hK) ?_
      have hI2 : I pre (W.putObj (w.heap.size + 1) (.loop { r with state := .busy })) := hI.putObj _ hi (by omega) hB.lo rfl
      have hbd := hbody (w.heap.size + 1) pre x _ hI2 hp
      have hrb : body = r.body := by rw [hr]
      rw [hrb] at hbd
      refine wpIn_mono hbd ?_
      rintro e a' W' ⟨hk, ⟨rfl, hK, hi'⟩ | ⟨rfl, hi'⟩⟩
      · have hB' := (hB.put _).to hk
        refine ⟨hk, .inl ⟨rfl, .inl ⟨rfl, ⟨hI.putObj _ hi' (by omega) hB'.lo rfl, ?_⟩, hKt _ _ _ (hlo hB _) (hKt _ _ _ hK (hlo hB' _))⟩⟩⟩
        have := hB'.put { r with state := .ready, pending := none }
        rw [hr] at this ⊢
        exact this
      · have hB' := (hB.put _).to hk
        exact ⟨hk, .inr ⟨rfl, .inr ⟨rfl, hIx.putObj _ hi' (by omega) hB'.lo rfl, hB'.put _⟩⟩⟩
    · rintro e W2 ⟨⟨v, rfl⟩, ⟨hi, hB⟩ | ⟨pre, hp, hi, hB⟩⟩
      · refine ⟨none, _, by have := run_endLoop (P := P) hB.lo (by rw [hr]; simp); rw [show r.pending = none by rw [hr]] at this; exact this, hdone _ _ (Nat.le_refl _) (hI.putObj _ hi (by omega) hB.lo rfl) (hB.put _).de⟩
      · exact ⟨some .ret, _, run_endLoop (P := P) hB.lo (by simp), hstop _ pre _ (Nat.le_refl _) hp (hIx.putObj _ hi (by omega) hB.lo rfl) (hB.put _).de⟩

end Go.Proofs.YtkmhaemcpakobaaGreatDoor.rt

namespace Go.Proofs.YtkmhaemcpakobaaGreatDoor.mt
open Go.RowKit Go.Shelf Go.Proofs.YtkmhaemcpakobaaGreatDoor.rt
attribute [local go_sem] Oper.semAt_some
set_option linter.unusedVariables false
set_option linter.unusedSimpArgs false

/-! ### strings.Lines -/

theorem lseq_any (s : ByteArray) (w : World) :
    Calls Tryz.prog 59 #[.string s] w fun e w' => e = .returned (.func (.func 83) #[] #[.pointer (some ⟨w.heap.size, 0, none⟩)]) ∧ w' = w.alloc (.cells #[.string s] 9) := by
  go_enter Tryz.func59, Tryz.ntmps59
  go_wp2
  go_ret
  exact ⟨rfl, rfl⟩

def Kb (B : Nat) (W W' : World) : Prop := W.heap.size ≤ W'.heap.size ∧ W'.heap[B]? = W.heap[B]?
def PLL (s : ByteArray) : List ByteArray := (rawL s.data.toList).map BA
def szAt (W : World) (B : Nat) : Nat := match W.cell? ⟨B, 0, none⟩ with | some (.string u) => u.size | _ => 0
theorem szAt_of {W : World} {B : Nat} {u : ByteArray} (h : Boxed W B 9 (.string u)) : szAt W B = u.size := by unfold szAt; rw [h.cell]
theorem bx_kb {W W' : World} {B : Nat} {u : ByteArray} (h : Boxed W B 9 (.string u)) (k : Kb B W W') : Boxed W' B 9 (.string u) := k.2.trans h
theorem bx_below {W W' : World} {B : Nat} {u : ByteArray} (h : Boxed W B 9 (.string u)) (k : Below W.heap.size W W') : Boxed W' B 9 (.string u) := (k.block _ h.lt).trans h

theorem PLL_nil {u : ByteArray} (h : u.size = 0) : PLL u = [] := by
  have : u.data.toList = [] := List.eq_nil_of_length_eq_zero (by simpa using h)
  unfold PLL
  rw [this]
  rfl
theorem PLL_none {u : ByteArray} (h : Lib.indexByte u.data.toList 10 = -1) (hu : ¬ u.size = 0) : PLL u = [u] := by
  unfold PLL
  rw [rawL_none h (fun e => hu (by have := congrArg List.length e; simpa using this)), List.map_cons, List.map_nil, BA_of]
theorem PLL_hit {u : ByteArray} {i : Nat} (h : Lib.indexByte u.data.toList 10 = (i : Int)) : i < u.size ∧ PLL u = u.extract 0 (i + 1) :: PLL (u.extract (i + 1) u.size) := by
  obtain ⟨h1, h2⟩ := rawL_hit h
  have hz : u.data.toList.length = u.size := by simp
  refine ⟨by omega, ?_⟩
  unfold PLL
  rw [h2, List.map_cons]
  congr 1
  · apply ByteArray.ext
    apply Array.ext'
    rw [ext_list]
    simp [BA]
  · rw [ext_list, List.take_of_length_le (by simp)]

set_option maxRecDepth 100000 in
set_option maxHeartbeats 2000000 in
theorem lines_hands (n B : Nat) (s : ByteArray) (hs : s.size ≤ 1048576) (w : World) (hn : 1 ≤ n) (hS : Boxed w B 9 (.string s)) :
    Hands n Tryz.prog 83 #[.pointer (some ⟨B, 0, none⟩)] (Kb B) (fun r => r = B) (PLL s) w := by
  intro l J Jx W hW hJ hJx hY h0
  have hsW : Boxed W B 9 (.string s) := (hW.block _ hS.lt).trans hS
  refine callsIn_of_wp Tryz.func83 rfl trivial ?_ rfl
  simp only [Tryz.ntmps83, List.size_toArray, List.length_cons, List.length_nil, Nat.reduceAdd, Nat.reduceSub, Array.replicate_succ, Array.replicate_zero, List.push_toArray, List.append_toArray, List.nil_append, List.cons_append]
  gi_wp2
  gi_loopw [3] (fun _ wr => ∃ (pre : List ByteArray) (u : ByteArray), PLL s = pre ++ PLL u ∧ u.size ≤ s.size ∧ Boxed wr B 9 (.string u) ∧ J pre wr) (fun _ wr => szAt wr B)
  case atStart => exact ⟨[], s, rfl, Nat.le_refl _, hsW, h0⟩
  case round =>
    obtain ⟨pre, u, hpl, hus, hsq, hJw⟩ := hrel
    have HPL : Hid (PLL s = pre ++ PLL u) := hpl
    have hc := hsq.cell
    have hf := hsq.frozen
    have hB : B < wr.heap.size := hsq.lt
    clear hpl
    by_cases hz : u.size = 0
    · have HL : Hid (PLL u = []) := PLL_nil hz
      have hz' : ¬ (0 : Int) < (u.size : Int) := by omega
      clear hz
      gi_wp2
      go_end0
      exact ⟨⟨_, rfl⟩, .inl (by rw [HPL.out, HL.out, List.append_nil]; exact hJw)⟩
    have hz' : (0 : Int) < (u.size : Int) := by omega
    by_cases hm : Lib.indexByte u.data.toList 10 = -1
    · have HI : Hid (Calls Tryz.prog 84 #[.string u, .int .u8 10] wr fun e w' => e = .returned (.int .i64 (-1)) ∧ w' = wr) := by
        have := iix_any u wr
        rw [hm] at this
        exact this
      have HL : Hid (PLL u = [u]) := PLL_none hm hz
      clear hm hz
      obtain ⟨fn, tmps, assign, body, hy, hR⟩ := hY pre u (wr.setCell ⟨B, 0, none⟩ (.string ⟨#[]⟩)) (hJ _ _ _ _ hJw (grownBy_setCell' _ _ _) (fun r e => by cases e; rfl)) ⟨[], by rw [HPL.out, HL.out]; simp⟩
      gi_wp2_with (refine ⟨trivial, ?_⟩; gi_at_call 84; refine (callsIn_wide.2 HI.out).mono ?_; rintro e w1 ⟨rfl, hw⟩; have hw2 := hw.symm; subst hw2; clear hw)
      refine hR.mono ?_
      rintro e W3 (⟨rfl, hJ3, hk3⟩ | ⟨rfl, hJx3⟩)
      · have hsq3 : Boxed W3 B 9 (.string ⟨#[]⟩) := bx_kb (hsq.set _) hk3
        gi_wp2
        go_roundw
        case rel => exact ⟨pre ++ [u], ⟨#[]⟩, by rw [HPL.out, HL.out, PLL_nil rfl]; simp, Nat.zero_le _, hsq3, hJ3⟩
        case measure => rw [szAt_of hsq3, szAt_of hsq]; show 0 < u.size; omega
      · gi_wp2
        refine bodyPost_ret (results_none rfl _ _ _) rfl ?_
        exact ⟨⟨_, rfl⟩, .inr ⟨_, ⟨[], by rw [HPL.out, HL.out]; simp⟩, hJx3⟩⟩
    · have hge := Lib.indexByte_ge u.data.toList 10
      obtain ⟨i, hi⟩ : ∃ i : Nat, Lib.indexByte u.data.toList 10 = (i : Int) := ⟨(Lib.indexByte u.data.toList 10).toNat, by omega⟩
      obtain ⟨hlt, hL⟩ := PLL_hit hi
      have HI : Hid (Calls Tryz.prog 84 #[.string u, .int .u8 10] wr fun e w' => e = .returned (.int .i64 (i : Int)) ∧ w' = wr) := by
        have := iix_any u wr
        rw [hi] at this
        exact this
      have HL : Hid (PLL u = u.extract 0 (i + 1) :: PLL (u.extract (i + 1) u.size)) := hL
      have hin : (0 : Int) ≤ (i : Int) := by omega
      have hlt1 : (i : Int) + 1 ≤ (u.size : Int) := by omega
      have hlt0 : (0 : Int) ≤ (i : Int) + 1 := by omega
      have hwr : wrap64 ((i : Int) + 1) = (i : Int) + 1 := by unfold wrap64; omega
      have hnl : ¬ (u.size : Int) < (i : Int) + 1 := by omega
      have hng : ¬ (i : Int) + 1 < 0 := by omega
      clear hm hge hi hL hz
      have hm : Tryz.prog.follows .mixedOrders = true := by kernel_rfl
      have hm2 : Tryz.prog.follows .lateStores = true := by kernel_rfl
      gi_wp2_with (refine ⟨trivial, ?_⟩; gi_at_call 84; refine (callsIn_wide.2 HI.out).mono ?_; rintro e w1 ⟨rfl, hw⟩; have hw2 := hw.symm; subst hw2; clear hw)
      gi_region
      obtain ⟨fn, tmps, assign, body, hy, hR⟩ := hY pre (u.extract 0 (i + 1)) (wr.setCell ⟨B, 0, none⟩ (.string (u.extract (i + 1) u.size))).drew (hJ _ _ _ none (hJ _ _ _ _ hJw (grownBy_setCell' _ _ _) (fun r e => by cases e; rfl)) ⟨rfl, rfl, rfl, Nat.le_refl _, fun _ _ _ => rfl⟩ (fun r e => by cases e)) ⟨PLL (u.extract (i + 1) u.size), by rw [HPL.out, HL.out]; simp⟩
      gi_wp2
      refine hR.mono ?_
      rintro e W3 (⟨rfl, hJ3, hk3⟩ | ⟨rfl, hJx3⟩)
      · have hsq3 : Boxed W3 B 9 (.string (u.extract (i + 1) u.size)) := bx_kb (W := (wr.setCell ⟨B, 0, none⟩ (.string (u.extract (i + 1) u.size))).drew) (hsq.set (.string (u.extract (i + 1) u.size))) hk3
        gi_wp2
        go_roundw
        case rel => exact ⟨pre ++ [u.extract 0 (i + 1)], u.extract (i + 1) u.size, by rw [HPL.out, HL.out]; simp, by simp; omega, hsq3, hJ3⟩
        case measure => rw [szAt_of hsq3, szAt_of hsq]; simp; omega
      · gi_wp2
        refine bodyPost_ret (results_none rfl _ _ _) rfl ?_
        exact ⟨⟨_, rfl⟩, .inr ⟨_, ⟨PLL (u.extract (i + 1) u.size), by rw [HPL.out, HL.out]; simp⟩, hJx3⟩⟩

end Go.Proofs.YtkmhaemcpakobaaGreatDoor.mt

namespace Go.Proofs.YtkmhaemcpakobaaGreatDoor.mt
open Go.ChangeShapes Go.WideShapes Go.ChangeAt Go.RowKit Go.Deep
set_option linter.unusedVariables false
set_option linter.unusedSimpArgs false

/-! ### (*impl.Manifest).take -/

/-- The program's row of refs: the empty one at b1, or one of its own from B on. -/
def Rw (B b1 : Nat) (W : World) (v : Value) (l : List ByteArray) : Prop := (v = .slice (some ⟨b1, 0, none⟩) 0 0 ∧ l = []) ∨ (W.ownsRow B 9 1 v l.length (l.map Value.string) ∧ v ≠ .slice none 0 0)
theorem Rw.shape {B b1 : Nat} {W : World} {v : Value} {l : List ByteArray} (h : Rw B b1 W v l) : ∃ a cap, v = .slice a l.length cap := by
  rcases h with ⟨rfl, rfl⟩ | ⟨h, _⟩
  · exact ⟨_, _, rfl⟩
  · exact own_shape h
theorem Rw.kept {B b1 : Nat} {W W' : World} {v : Value} {l : List ByteArray} (h : Rw B b1 W v l) (hk : ∀ k, B ≤ k → (∃ cs t m, W.heap[k]? = some (.cells cs t m)) → W'.heap[k]? = W.heap[k]?) : Rw B b1 W' v l := by
  rcases h with h | ⟨⟨e0, h'⟩, h2⟩
  · exact .inl h
  · refine .inr ⟨⟨e0, ?_⟩, h2⟩
    rcases h' with h' | ⟨g, cap, cur, e, q1, q2, q3⟩
    · exact .inl h'
    · exact .inr ⟨g, cap, cur, e, q1, (hk g q1 ⟨_, _, _, q2⟩).trans q2, q3⟩
theorem Rw.below {B b1 : Nat} {W W' : World} {v : Value} {l : List ByteArray} (h : Rw B b1 W v l) (hb : Below W.heap.size W W') : Rw B b1 W' v l :=
  h.kept (fun k _ ⟨_, _, _, e⟩ => hb.block k (Array.getElem?_eq_some_iff.1 e).1)

/-- An append to it. -/
theorem rw_app {B b1 : Nat} {W : World} {v : Value} {l : List ByteArray} {y : ByteArray} {ad : Addr} (h : Rw B b1 W v l) (hy : W.cell? ad = some (.string y)) (hB : B ≤ W.heap.size) (hl : l.length ≤ 2000000) :
    ∃ a6 c6 W6, (Builtin.append_ #[41, 41] 41 #[v, .slice (some ad) 1 1]).run Tryz.prog W = .ok (.slice a6 (l.length + 1) c6) W6 ∧ Rw B b1 W6 (.slice a6 (l.length + 1) c6) (l ++ [y]) ∧ ∃ row, W.grownBy W6 row ∧ ∀ k, row = some k → B ≤ k ∧ ∃ cs t m, W.heap[k]? = some (.cells cs t m) := by
  obtain ⟨i0, hi, hz0, hz1, hz2⟩ := sr.info_parts sr.info9
  have hnews : ∀ j u, [Value.string y][j]? = some u → W.cell? (ad.add j) = some u := fun j u hj => by
    match j with
    | 0 => simp at hj; subst hj; simpa [Addr.add] using hy
    | j + 1 => simp at hj
  have hone : ∀ u ∈ [Value.string y], u.oneCell' = true := fun u hu => by
    simp only [List.mem_singleton] at hu
    subst hu
    rfl
  rcases h with ⟨rfl, rfl⟩ | ⟨hown, hv⟩
  · obtain ⟨v', w', hr, h1, h2, h3⟩ := run_append_own (P := Tryz.prog) W B 41 41 9 i0 _ 1 16 Tryz.underlying41 hi hz0 hz1 hz2 rfl (by omega) (.slice none 0 0) 0 [] (World.ownsRow_nil W B 9 1) ad 1 1 [.string y] rfl hnews hone (by unfold maxLen; omega) (by omega) hB
    have hn := run_append_nil (P := Tryz.prog) W 41 41 9 i0 _ Tryz.underlying41 hi hz0 ad 1 1 [.string y] (by rw [hz1]; rfl) hnews (by omega) (by omega) (by rw [hz2]; decide)
    have hg := run_append_grow (P := Tryz.prog) W 41 41 9 i0 _ Tryz.underlying41 hi hz0 ⟨b1, 0, none⟩ 0 0 [] (by simp) (by simp) ad 1 1 [.string y] (by rw [hz1]; rfl) hnews (by omega) (by omega) (by rw [hz2]; decide)
    rw [hn] at hr
    simp only [Result.ok.injEq] at hr
    obtain ⟨e1, e2⟩ := hr
    subst e1 e2
    refine ⟨_, _, _, hg.trans ?_, .inr ⟨h1, by simp⟩, none, h2, by simp⟩
    simp
  · obtain ⟨v', w', hr, h1, h2, h3⟩ := run_append_own (P := Tryz.prog) W B 41 41 9 i0 _ 1 16 Tryz.underlying41 hi hz0 hz1 hz2 rfl (by omega) v l.length (l.map Value.string) hown ad 1 1 [.string y] rfl hnews hone (by unfold maxLen; omega) (by omega) hB
    have h1' : w'.ownsRow B 9 1 v' (l ++ [y]).length ((l ++ [y]).map Value.string) := by
      rw [List.length_append, List.map_append]
      exact h1
    obtain ⟨a6, c6, rfl⟩ := own_shape h1
    refine ⟨a6, c6, w', hr, .inr ⟨h1', fun e => hv (h3.1 e).1⟩, v.ownBlock, h2, fun k hk => ⟨(hown.lt k hk).1, ?_⟩⟩
    obtain ⟨e0, h'⟩ := hown
    rcases h' with ⟨rfl, _⟩ | ⟨g, cap, cur, rfl, q1, q2, q3⟩
    · exact absurd rfl hv
    · simp [Value.ownBlock] at hk
      subst hk
      exact ⟨_, _, _, q2⟩

theorem wp_app {o : Oper} {a : Act} {W W6 : World} {v v6 : Value} {ad : Addr} {K : Act → World → Prop} {Q : Exit → Act → World → Prop} (s x : Operand) (ho : o.op = .call { callee := .builtin .append, args := #[s, x], argTypes := #[41, 41] }) (hty : o.type = 41) (hs : a.eval s = v) (hx : a.eval x = .slice (some ad) 1 1)
    (hr : (Builtin.append_ #[41, 41] 41 #[v, .slice (some ad) 1 1]).run Tryz.prog W = .ok v6 W6) (h : K (a.put o.dst v6) W6) : o.wp Tryz.prog a W K Q := by
  unfold Oper.wp execOp
  simp only [ho, hty, resolve, invoke, builtin, Sem.run_bind, Sem.run_pure, Result.andThen_ok, List.map_toArray, List.map_cons, List.map_nil, hs, hx, hr]
  exact h

/-- The manifest behind the pointer. -/
def MP (b B b1 : Nat) (M : Mf) (W : World) : Prop := ∃ vr, SixC W b (.string M.path) (.string M.sum) (.int .i64 M.z) vr (.string M.key) (.int .u64 (M.sig : Int)) ∧ Rw B b1 W vr M.l ∧ ∀ j, W.frozen? ⟨b, j, none⟩ = false
theorem MP.below {b B b1 : Nat} {M : Mf} {W W' : World} (h : MP b B b1 M W) (hb : Below W.heap.size W W') : MP b B b1 M W' := by
  obtain ⟨vr, h6, hr, hf⟩ := h
  exact ⟨vr, h6.belowM hb, hr.below hb, fun j => ((bcell hb).2 _ _ (World.block_lt_of_cell? _ _ h6.1)).trans (hf j)⟩
theorem MP.set {b B b1 k : Nat} {M : Mf} {vr v : Value} {W : World} (hb : b < B) (h6 : SixC (W.setCell ⟨b, k, none⟩ v) b (.string M.path) (.string M.sum) (.int .i64 M.z) vr (.string M.key) (.int .u64 (M.sig : Int))) (hr : Rw B b1 W vr M.l) (hf : ∀ j, W.frozen? ⟨b, j, none⟩ = false) : MP b B b1 M (W.setCell ⟨b, k, none⟩ v) :=
  ⟨vr, h6, hr.kept (fun q hq _ => blk_oth (by omega)), fun j => by rw [World.frozen?_setCell]; exact hf j⟩

/-- What take leaves alone. -/
structure TkK (b B : Nat) (W W' : World) : Prop where
  keeps : KeepsOthers W W'
  os : W'.os = W.os
  tape : W'.tape = W.tape
  output : W'.output = W.output
  block : ∀ k, k < B → k ≠ b → W'.heap[k]? = W.heap[k]?
theorem keeps_below {W W' : World} (h : Below W.heap.size W W') : KeepsOthers W W' := ⟨h.size, fun k o hk _ => (h.block k (Array.getElem?_eq_some_iff.1 hk).1).trans hk⟩
theorem TkK.of_below {b B : Nat} {W W' : World} (h : Below W.heap.size W W') (hB : B ≤ W.heap.size) : TkK b B W W' := ⟨keeps_below h, h.os, h.tape, h.output, fun k hk _ => h.block k (by omega)⟩
theorem TkK.set {b B k : Nat} {W W' : World} {v : Value} (h : TkK b B W W') : TkK b B W (W'.setCell ⟨b, k, none⟩ v) :=
  ⟨h.keeps.trans (KeepsOthers.setCell _ _ _), h.os, h.tape, h.output, fun q hq hne => (blk_oth hne).trans (h.block q hq hne)⟩
theorem TkK.grown {b B : Nat} {W W1 W' : World} {row : Option Nat} (h : TkK b B W W1) (hB : B ≤ W1.heap.size) (hg : W1.grownBy W' row) (hr : ∀ k, row = some k → B ≤ k ∧ ∃ cs t m, W1.heap[k]? = some (.cells cs t m)) : TkK b B W W' :=
  ⟨h.keeps.trans (KeepsOthers.of_grownBy hg (fun j o e ho => by obtain ⟨_, cs, t, m, hc⟩ := hr j e; rw [hc] at ho; cases ho; rfl)), hg.os.trans h.os, hg.tape.trans h.tape, hg.output.trans h.output, fun q hq hne => (hg.block q (by omega) (fun e => by have := (hr q e.symm).1; omega)).trans (h.block q hq hne)⟩

def TkR (b B b1 : Nat) (M : Mf) (W W' : World) (e : Ending) : Prop := (∃ v, e = .returned v) ∧ MP b B b1 M W' ∧ TkK b B W W'

set_option maxRecDepth 100000 in
set_option maxHeartbeats 4000000 in
theorem take_any (b B b1 : Nat) (x : List UInt8) (hx : x.length ≤ 1048576) (M : Mf) (w : World) (hb : b < B) (hB : B ≤ w.heap.size) (hM : MP b B b1 M w) (hl : M.l.length ≤ 2000000) (hE : EC w) (hT : wd.TabB w) :
    Calls Tryz.prog 62 #[.pointer (some ⟨b, 0, none⟩), .string (BA (cutW x)), .string (BA (cutR x))] w fun e w' => TkR b B b1 (tk pI M x) w w' e := by
  have hrz : (BA (cutR x)).size ≤ 1048576 := by rw [BA_size]; exact Nat.le_trans (cutR_len x) hx
  obtain ⟨y, hy⟩ : ∃ y, (wd.rwX (BA (cutR x))).toNat = y := ⟨_, rfl⟩
  have HY : Hid ((wd.rwX (BA (cutR x))).toNat = y) := hy
  have HCL : Hid (∀ W, Calls Tryz.prog 87 #[.string (BA (cutR x))] W fun e w' => e = .returned (.string (BA (cutR x))) ∧ Below W.heap.size W w') := fun W => cl.clone_any _ W (by omega)
  have HPI : Hid (Calls Tryz.prog 88 #[.string (BA (cutR x)), .int .i64 10, .int .i64 64] w fun e w' => (∃ ev, e = .returned (.tuple #[.int .i64 (pI (cutR x)), ev])) ∧ Below w.heap.size w w') := pint_any (BA (cutR x)) hrz w hE
  have HRW : Hid (Calls Tryz.prog 89 #[.string (BA (cutR x))] w fun e w' => e = .returned (.tuple #[.int .u64 (y : Int), .bool (wd.rwB (BA (cutR x)))]) ∧ Below w.heap.size w w') := by
    have := wd.rimpl_any (BA (cutR x)) hrz w hT
    rw [← (rwX_rng _).1, hy] at this
    exact this
  have HM := Lib.hid hM
  have HB := Lib.hid hB
  have HBB := Lib.hid hb
  have HLL := Lib.hid hl
  obtain ⟨W, hW⟩ : ∃ W, BA (cutW x) = W := ⟨_, rfl⟩
  rw [hW]
  clear hrz hy hE hT hM hB hb hl
  by_cases h0 : cutW x = wPath
  · have HT : Hid (tk pI M x = { M with path := BA (cutR x) }) := by show _ = _; unfold tk; rw [if_pos h0]
    have hwe : W = ⟨#[112, 97, 116, 104]⟩ := by rw [← hW, h0]; rfl
    subst hwe
    clear hW h0
    go_enter Tryz.func62, Tryz.ntmps62
    go_wp2_with (first | (go_at_call 87; refine (HCL.out _).mono ?_; rintro e w2 ⟨rfl, hb2⟩; refine Hid.out ?_) | go_in)
    refine Lib.hid ?_
    obtain ⟨vr, h6, hrw, hff⟩ := HM.out.below hb2
    have HS6 := Lib.hid h6
    have HRW3 := Lib.hid hrw
    have HFF := Lib.hid hff
    have q := hff 0
    obtain ⟨c0, c1, c2, c3, c4, c5⟩ := h6
    have HTK : Hid (TkK b B w w2) := TkK.of_below hb2 HB.out
    clear hrw hff hb2
    go_wp2
    go_end0
    exact ⟨⟨_, rfl⟩, by rw [HT.out]; exact MP.set (M := { M with path := BA (cutR x) }) HBB.out (six_set0 HS6.out) HRW3.out HFF.out, HTK.out.set⟩
  by_cases h1 : cutW x = wSum
  · have HT : Hid (tk pI M x = { M with sum := BA (cutR x) }) := by show _ = _; unfold tk; rw [if_neg h0, if_pos h1]
    have hwe : W = ⟨#[115, 117, 109]⟩ := by rw [← hW, h1]; rfl
    subst hwe
    clear hW h1
    go_enter Tryz.func62, Tryz.ntmps62
    go_wp2_with (first | (go_at_call 87; refine (HCL.out _).mono ?_; rintro e w2 ⟨rfl, hb2⟩; refine Hid.out ?_) | go_in)
    refine Lib.hid ?_
    obtain ⟨vr, h6, hrw, hff⟩ := HM.out.below hb2
    have HS6 := Lib.hid h6
    have HRW3 := Lib.hid hrw
    have HFF := Lib.hid hff
    have q := hff 1
    obtain ⟨c0, c1, c2, c3, c4, c5⟩ := h6
    have HTK : Hid (TkK b B w w2) := TkK.of_below hb2 HB.out
    clear hrw hff hb2
    go_wp2
    go_end0
    exact ⟨⟨_, rfl⟩, by rw [HT.out]; exact MP.set (M := { M with sum := BA (cutR x) }) HBB.out (six_set1 HS6.out) HRW3.out HFF.out, HTK.out.set⟩
  by_cases h2 : cutW x = wSize
  · have HT : Hid (tk pI M x = { M with z := pI (cutR x) }) := by show _ = _; unfold tk; rw [if_neg h0, if_neg h1, if_pos h2]
    have hwe : W = ⟨#[115, 105, 122, 101]⟩ := by rw [← hW, h2]; rfl
    subst hwe
    clear hW h2
    go_enter Tryz.func62, Tryz.ntmps62
    go_wp2_with (first | (go_at_call 88; refine HPI.out.mono ?_; rintro e w2 ⟨⟨ev, rfl⟩, hb2⟩; refine Hid.out ?_) | go_in)
    refine Lib.hid ?_
    obtain ⟨vr, h6, hrw, hff⟩ := HM.out.below hb2
    have HS6 := Lib.hid h6
    have HRW3 := Lib.hid hrw
    have HFF := Lib.hid hff
    have q := hff 2
    obtain ⟨c0, c1, c2, c3, c4, c5⟩ := h6
    have HTK : Hid (TkK b B w w2) := TkK.of_below hb2 HB.out
    clear hrw hff hb2
    go_wp2
    go_end0
    exact ⟨⟨_, rfl⟩, by rw [HT.out]; exact MP.set (M := { M with z := pI (cutR x) }) HBB.out (six_set2 HS6.out) HRW3.out HFF.out, HTK.out.set⟩
  by_cases h3 : cutW x = wRef
  · have HT : Hid (tk pI M x = { M with l := M.l ++ [BA (cutR x)] }) := by show _ = _; unfold tk; rw [if_neg h0, if_neg h1, if_neg h2, if_pos h3]
    have hwe : W = ⟨#[114, 101, 102]⟩ := by rw [← hW, h3]; rfl
    subst hwe
    clear hW h3
    go_enter Tryz.func62, Tryz.ntmps62
    go_wp2_with fail
    obtain ⟨vr, h6, hrw, hff⟩ := HM.out
    have HS6 := Lib.hid h6
    have HRW3 := Lib.hid hrw
    have HFF := Lib.hid hff
    have HL0 : Hid (∀ Z, Below w.heap.size w Z → Z.cell? ⟨b, 3, none⟩ = some vr) := fun Z h => (h6.belowM h).2.2.2.1
    obtain ⟨ar, cr, hvr⟩ := hrw.shape
    subst hvr
    have C0 : Below w.heap.size w w.drew := (Below.refl _ _).drew
    have hc0 := HL0.out _ C0
    clear h6 hrw hff
    refine wp_region_held_drew (S := fun _ => True) (by kernel_rfl) (trivial) (fun hHeld => ?_)
    refine wpAnyH_take (i := 0) (oi := ⟨some 33, .move (.tmp 0), 124, "l16_cache.go:86", #[], none⟩) (v := ?v1) rfl (by kernel_rfl) (by kernel_rfl) (by kernel_rfl) (fun _ _ _ h => h) (Or.inl ⟨by rfl, ?hy1⟩) (by assumption) ?r1
    case hy1 => (intro w hSw; (try dsimp only at hSw); go_simp; try with_reducible rfl)
    try simp only [Act.put, List.setIfInBounds_toArray, List.set_cons_zero, List.set_cons_succ]
    refine wpAnyH_take (i := 1) (oi := ⟨some 34, .move (.tmp 0), 124, "l16_cache.go:86", #[], none⟩) (v := ?v2) rfl (by kernel_rfl) (by kernel_rfl) (by kernel_rfl) (fun _ _ _ h => h) (Or.inl ⟨by rfl, ?hy2⟩) (by assumption) ?r2
    case hy2 => (intro w hSw; (try dsimp only at hSw); go_simp; try with_reducible rfl)
    try simp only [Act.put, List.setIfInBounds_toArray, List.set_cons_zero, List.set_cons_succ]
    refine wpAnyH_take (i := 2) (oi := ⟨some 35, .nilCheck (.tmp 34), 0, "l16_cache.go:86", #[⟨1, .data⟩], none⟩) (v := ?v3) rfl (by kernel_rfl) (by kernel_rfl) (by kernel_rfl) (fun _ _ _ h => h) (Or.inl ⟨by rfl, ?hy3⟩) (by assumption) ?r3
    case hy3 => (intro w hSw; (try dsimp only at hSw); go_simp; try with_reducible rfl)
    try simp only [Act.put, List.setIfInBounds_toArray, List.set_cons_zero, List.set_cons_succ]
    refine wpAnyH_take (i := 3) (oi := ⟨some 36, .fieldAddr 43 (.tmp 35) 3, 0, "l16_cache.go:86", #[⟨2, .data⟩], none⟩) (v := ?v4) rfl (by kernel_rfl) (by kernel_rfl) (by kernel_rfl) (fun _ _ _ h => h) (Or.inl ⟨by rfl, ?hy4⟩) (by assumption) ?r4
    case hy4 => (intro w hSw; (try dsimp only at hSw); go_simp; try with_reducible rfl)
    try simp only [Act.put, List.setIfInBounds_toArray, List.set_cons_zero, List.set_cons_succ]
    refine wpAnyH_take (i := 5) (oi := ⟨some 38, .move (.tmp 2), 9, "l16_cache.go:86", #[], none⟩) (v := ?v5) rfl (by kernel_rfl) (by kernel_rfl) (by kernel_rfl) (fun _ _ _ h => h) (Or.inl ⟨by rfl, ?hy5⟩) (by assumption) ?r5
    case hy5 => (intro w hSw; (try dsimp only at hSw); go_simp; try with_reducible rfl)
    try simp only [Act.put, List.setIfInBounds_toArray, List.set_cons_zero, List.set_cons_succ]
    refine wpAnyH_ready (rs := [4, 6]) (by kernel_rfl) (by simp) ?_
    refine AllReadyH.cons (o := ⟨some 37, .load 41 (.tmp 36), 41, "l16_cache.go:86", #[⟨3, .data⟩], none⟩) rfl (fun K hK => ?_) (AllReadyH.cons (o := ⟨some 39, .call { callee := .value (.func 87), args := #[.tmp 38], argTypes := #[9] }, 9, "l16_cache.go:86", #[⟨5, .data⟩], none⟩) rfl (fun K hK => ?_) AllReadyH.nil)
    · go_simp
      skip
      try go_wp2_with fail
      refine hK.out _ _ trivial (fun hHeld => ?_)
      clear hK K
      try simp only [Act.put, List.setIfInBounds_toArray, List.set_cons_zero, List.set_cons_succ]
      refine wpAnyH_ready (rs := [6]) (by kernel_rfl) (by simp) ?_
      refine AllReadyH.cons (o := ⟨some 39, .call { callee := .value (.func 87), args := #[.tmp 38], argTypes := #[9] }, 9, "l16_cache.go:86", #[⟨5, .data⟩], none⟩) rfl (fun K hK => ?_) AllReadyH.nil
      go_simp
      go_at_call 87
      refine (HCL.out _).mono ?_
      rintro e w2 ⟨rfl, hb2⟩
      have C2 := C0.trans (hb2.mono C0.size)
      have C3 : Below w.heap.size w (w2.alloc (.cells #[.string (BA (cutR x))] 9)) := C2.alloc C2.size _
      have hyc : (w2.alloc (.cells #[.string (BA (cutR x))] 9)).cell? ⟨w2.heap.size, 0, none⟩ = some (.string (BA (cutR x))) := by rw [World.cell?_alloc_new]; rfl
      have hB3 : B ≤ (w2.alloc (.cells #[.string (BA (cutR x))] 9)).heap.size := Nat.le_trans HB.out C3.size
      obtain ⟨a6, c6, w6, hap, hrw6, row, hg6, hrow⟩ := rw_app (HRW3.out.below C3) hyc hB3 HLL.out
      have hbk6 : w6.heap[b]? = (w2.alloc (.cells #[.string (BA (cutR x))] 9)).heap[b]? := hg6.block b (Nat.lt_of_lt_of_le HBB.out hB3) (fun e => by have := (hrow b e.symm).1; have := HBB.out; omega)
      have HS7 := Lib.hid ((HS6.out.belowM C3).kept hbk6)
      have HF7 : Hid (∀ j, w6.frozen? ⟨b, j, none⟩ = false) := fun j => (World.frozen?_of_block (a := ⟨b, j, none⟩) hbk6).trans (((bcell C3).2 _ _ (World.block_lt_of_cell? _ _ HS6.out.1)).trans (HFF.out j))
      have HTK : Hid (TkK b B w w6) := (TkK.of_below (b := b) C3 HB.out).grown hB3 hg6 hrow
      have HR6 := Lib.hid hrw6
      have q7 := HF7.out 3
      have c7 := HS7.out.2.2.2.1
      have hc2 := HL0.out _ C2
      have hc3 := HL0.out _ C3
      clear hyc hbk6 hrw6 hg6 hrow hB3
      try go_wp2_with fail
      refine hK.out _ _ (trivial) (fun hHeld => ?_)
      clear hK K
      try simp only [Act.put, List.setIfInBounds_toArray, List.set_cons_zero, List.set_cons_succ]
      refine wpAnyH_ready (rs := [7]) (by kernel_rfl) (by simp) ?_
      refine AllReadyH.cons (o := ⟨some 40, .buildSlice 41 1 #[(0, .tmp 39)], 41, "l16_cache.go:86", #[⟨6, .data⟩], none⟩) rfl (fun K hK => ?_) AllReadyH.nil
      go_simp
      skip
      try go_wp2_with fail
      refine hK.out _ _ (trivial) (fun hHeld => ?_)
      clear hK K
      try simp only [Act.put, List.setIfInBounds_toArray, List.set_cons_zero, List.set_cons_succ]
      refine wpAnyH_ready (rs := [8]) (by kernel_rfl) (by simp) ?_
      refine AllReadyH.cons (o := ⟨some 41, .call { callee := .builtin .append, args := #[.tmp 37, .tmp 40], argTypes := #[41, 41] }, 41, "l16_cache.go:86", #[⟨4, .data⟩, ⟨7, .data⟩, ⟨6, .chain⟩], none⟩) rfl (fun K hK => ?_) AllReadyH.nil
      refine wp_app _ _ rfl rfl rfl rfl hap ?_
      try go_wp2_with fail
      refine hK.out _ _ (trivial) (fun hHeld => ?_)
      clear hK K
      try simp only [Act.put, List.setIfInBounds_toArray, List.set_cons_zero, List.set_cons_succ]
      refine wpAnyH_take (i := 9) (oi := ⟨some 42, .nilCheck (.tmp 33), 0, "l16_cache.go:86", #[⟨0, .data⟩, ⟨0, .phase⟩, ⟨1, .phase⟩, ⟨2, .phase⟩, ⟨3, .phase⟩, ⟨4, .phase⟩, ⟨5, .phase⟩, ⟨6, .phase⟩, ⟨7, .phase⟩, ⟨8, .phase⟩], none⟩) (v := ?v6) rfl (by kernel_rfl) (by kernel_rfl) (by kernel_rfl) (fun _ _ _ h => h) (Or.inl ⟨by rfl, ?hy6⟩) (by assumption) ?r6
      case hy6 => (intro w hSw; (try dsimp only at hSw); go_simp; try with_reducible rfl)
      try simp only [Act.put, List.setIfInBounds_toArray, List.set_cons_zero, List.set_cons_succ]
      refine wpAnyH_take (i := 10) (oi := ⟨some 43, .fieldAddr 43 (.tmp 42) 3, 0, "l16_cache.go:86", #[⟨9, .data⟩, ⟨0, .phase⟩, ⟨1, .phase⟩, ⟨2, .phase⟩, ⟨3, .phase⟩, ⟨4, .phase⟩, ⟨5, .phase⟩, ⟨6, .phase⟩, ⟨7, .phase⟩, ⟨8, .phase⟩], none⟩) (v := ?v7) rfl (by kernel_rfl) (by kernel_rfl) (by kernel_rfl) (fun _ _ _ h => h) (Or.inl ⟨by rfl, ?hy7⟩) (by assumption) ?r7
      case hy7 => (intro w hSw; (try dsimp only at hSw); go_simp; try with_reducible rfl)
      try simp only [Act.put, List.setIfInBounds_toArray, List.set_cons_zero, List.set_cons_succ]
      refine wpAnyH_ready (rs := [11]) (by kernel_rfl) (by simp) ?_
      refine AllReadyH.cons (o := ⟨none, .store 41 (.tmp 43) (.tmp 41), 0, "l16_cache.go:86", #[⟨10, .data⟩, ⟨8, .data⟩, ⟨8, .chain⟩, ⟨0, .phase⟩, ⟨1, .phase⟩, ⟨2, .phase⟩, ⟨3, .phase⟩, ⟨4, .phase⟩, ⟨5, .phase⟩, ⟨6, .phase⟩, ⟨7, .phase⟩, ⟨8, .phase⟩], none⟩) rfl (fun K hK => ?_) AllReadyH.nil
      go_simp
      skip
      try go_wp2_with fail
      refine hK.out _ _ (trivial) (fun hHeld => ?_)
      clear hK K
      try simp only [Act.put, List.setIfInBounds_toArray, List.set_cons_zero, List.set_cons_succ]
      refine wpAnyH_done (by kernel_rfl) ?_ _
      go_wp2
      go_end0
      exact ⟨⟨_, rfl⟩, by rw [HT.out]; exact MP.set (M := { M with l := M.l ++ [BA (cutR x)] }) HBB.out (six_set3 HS7.out) HR6.out HF7.out, HTK.out.set⟩
    · go_simp
      go_at_call 87
      refine (HCL.out _).mono ?_
      rintro e w2 ⟨rfl, hb2⟩
      have C2 := C0.trans (hb2.mono C0.size)
      have C3 : Below w.heap.size w (w2.alloc (.cells #[.string (BA (cutR x))] 9)) := C2.alloc C2.size _
      have hyc : (w2.alloc (.cells #[.string (BA (cutR x))] 9)).cell? ⟨w2.heap.size, 0, none⟩ = some (.string (BA (cutR x))) := by rw [World.cell?_alloc_new]; rfl
      have hB3 : B ≤ (w2.alloc (.cells #[.string (BA (cutR x))] 9)).heap.size := Nat.le_trans HB.out C3.size
      obtain ⟨a6, c6, w6, hap, hrw6, row, hg6, hrow⟩ := rw_app (HRW3.out.below C3) hyc hB3 HLL.out
      have hbk6 : w6.heap[b]? = (w2.alloc (.cells #[.string (BA (cutR x))] 9)).heap[b]? := hg6.block b (Nat.lt_of_lt_of_le HBB.out hB3) (fun e => by have := (hrow b e.symm).1; have := HBB.out; omega)
      have HS7 := Lib.hid ((HS6.out.belowM C3).kept hbk6)
      have HF7 : Hid (∀ j, w6.frozen? ⟨b, j, none⟩ = false) := fun j => (World.frozen?_of_block (a := ⟨b, j, none⟩) hbk6).trans (((bcell C3).2 _ _ (World.block_lt_of_cell? _ _ HS6.out.1)).trans (HFF.out j))
      have HTK : Hid (TkK b B w w6) := (TkK.of_below (b := b) C3 HB.out).grown hB3 hg6 hrow
      have HR6 := Lib.hid hrw6
      have q7 := HF7.out 3
      have c7 := HS7.out.2.2.2.1
      have hc2 := HL0.out _ C2
      have hc3 := HL0.out _ C3
      clear hyc hbk6 hrw6 hg6 hrow hB3
      try go_wp2_with fail
      refine hK.out _ _ trivial (fun hHeld => ?_)
      clear hK K
      try simp only [Act.put, List.setIfInBounds_toArray, List.set_cons_zero, List.set_cons_succ]
      refine wpAnyH_ready (rs := [4, 7]) (by kernel_rfl) (by simp) ?_
      refine AllReadyH.cons (o := ⟨some 37, .load 41 (.tmp 36), 41, "l16_cache.go:86", #[⟨3, .data⟩], none⟩) rfl (fun K hK => ?_) (AllReadyH.cons (o := ⟨some 40, .buildSlice 41 1 #[(0, .tmp 39)], 41, "l16_cache.go:86", #[⟨6, .data⟩], none⟩) rfl (fun K hK => ?_) AllReadyH.nil)
      · go_simp
        skip
        try go_wp2_with fail
        refine hK.out _ _ trivial (fun hHeld => ?_)
        clear hK K
        try simp only [Act.put, List.setIfInBounds_toArray, List.set_cons_zero, List.set_cons_succ]
        refine wpAnyH_ready (rs := [7]) (by kernel_rfl) (by simp) ?_
        refine AllReadyH.cons (o := ⟨some 40, .buildSlice 41 1 #[(0, .tmp 39)], 41, "l16_cache.go:86", #[⟨6, .data⟩], none⟩) rfl (fun K hK => ?_) AllReadyH.nil
        go_simp
        skip
        try go_wp2_with fail
        refine hK.out _ _ (trivial) (fun hHeld => ?_)
        clear hK K
        try simp only [Act.put, List.setIfInBounds_toArray, List.set_cons_zero, List.set_cons_succ]
        refine wpAnyH_ready (rs := [8]) (by kernel_rfl) (by simp) ?_
        refine AllReadyH.cons (o := ⟨some 41, .call { callee := .builtin .append, args := #[.tmp 37, .tmp 40], argTypes := #[41, 41] }, 41, "l16_cache.go:86", #[⟨4, .data⟩, ⟨7, .data⟩, ⟨6, .chain⟩], none⟩) rfl (fun K hK => ?_) AllReadyH.nil
        refine wp_app _ _ rfl rfl rfl rfl hap ?_
        try go_wp2_with fail
        refine hK.out _ _ (trivial) (fun hHeld => ?_)
        clear hK K
        try simp only [Act.put, List.setIfInBounds_toArray, List.set_cons_zero, List.set_cons_succ]
        refine wpAnyH_take (i := 9) (oi := ⟨some 42, .nilCheck (.tmp 33), 0, "l16_cache.go:86", #[⟨0, .data⟩, ⟨0, .phase⟩, ⟨1, .phase⟩, ⟨2, .phase⟩, ⟨3, .phase⟩, ⟨4, .phase⟩, ⟨5, .phase⟩, ⟨6, .phase⟩, ⟨7, .phase⟩, ⟨8, .phase⟩], none⟩) (v := ?v8) rfl (by kernel_rfl) (by kernel_rfl) (by kernel_rfl) (fun _ _ _ h => h) (Or.inl ⟨by rfl, ?hy8⟩) (by assumption) ?r8
        case hy8 => (intro w hSw; (try dsimp only at hSw); go_simp; try with_reducible rfl)
        try simp only [Act.put, List.setIfInBounds_toArray, List.set_cons_zero, List.set_cons_succ]
        refine wpAnyH_take (i := 10) (oi := ⟨some 43, .fieldAddr 43 (.tmp 42) 3, 0, "l16_cache.go:86", #[⟨9, .data⟩, ⟨0, .phase⟩, ⟨1, .phase⟩, ⟨2, .phase⟩, ⟨3, .phase⟩, ⟨4, .phase⟩, ⟨5, .phase⟩, ⟨6, .phase⟩, ⟨7, .phase⟩, ⟨8, .phase⟩], none⟩) (v := ?v9) rfl (by kernel_rfl) (by kernel_rfl) (by kernel_rfl) (fun _ _ _ h => h) (Or.inl ⟨by rfl, ?hy9⟩) (by assumption) ?r9
        case hy9 => (intro w hSw; (try dsimp only at hSw); go_simp; try with_reducible rfl)
        try simp only [Act.put, List.setIfInBounds_toArray, List.set_cons_zero, List.set_cons_succ]
        refine wpAnyH_ready (rs := [11]) (by kernel_rfl) (by simp) ?_
        refine AllReadyH.cons (o := ⟨none, .store 41 (.tmp 43) (.tmp 41), 0, "l16_cache.go:86", #[⟨10, .data⟩, ⟨8, .data⟩, ⟨8, .chain⟩, ⟨0, .phase⟩, ⟨1, .phase⟩, ⟨2, .phase⟩, ⟨3, .phase⟩, ⟨4, .phase⟩, ⟨5, .phase⟩, ⟨6, .phase⟩, ⟨7, .phase⟩, ⟨8, .phase⟩], none⟩) rfl (fun K hK => ?_) AllReadyH.nil
        go_simp
        skip
        try go_wp2_with fail
        refine hK.out _ _ (trivial) (fun hHeld => ?_)
        clear hK K
        try simp only [Act.put, List.setIfInBounds_toArray, List.set_cons_zero, List.set_cons_succ]
        refine wpAnyH_done (by kernel_rfl) ?_ _
        go_wp2
        go_end0
        exact ⟨⟨_, rfl⟩, by rw [HT.out]; exact MP.set (M := { M with l := M.l ++ [BA (cutR x)] }) HBB.out (six_set3 HS7.out) HR6.out HF7.out, HTK.out.set⟩
      · go_simp
        skip
        try go_wp2_with fail
        refine hK.out _ _ trivial (fun hHeld => ?_)
        clear hK K
        try simp only [Act.put, List.setIfInBounds_toArray, List.set_cons_zero, List.set_cons_succ]
        refine wpAnyH_ready (rs := [4]) (by kernel_rfl) (by simp) ?_
        refine AllReadyH.cons (o := ⟨some 37, .load 41 (.tmp 36), 41, "l16_cache.go:86", #[⟨3, .data⟩], none⟩) rfl (fun K hK => ?_) AllReadyH.nil
        go_simp
        skip
        try go_wp2_with fail
        refine hK.out _ _ (trivial) (fun hHeld => ?_)
        clear hK K
        try simp only [Act.put, List.setIfInBounds_toArray, List.set_cons_zero, List.set_cons_succ]
        refine wpAnyH_ready (rs := [8]) (by kernel_rfl) (by simp) ?_
        refine AllReadyH.cons (o := ⟨some 41, .call { callee := .builtin .append, args := #[.tmp 37, .tmp 40], argTypes := #[41, 41] }, 41, "l16_cache.go:86", #[⟨4, .data⟩, ⟨7, .data⟩, ⟨6, .chain⟩], none⟩) rfl (fun K hK => ?_) AllReadyH.nil
        refine wp_app _ _ rfl rfl rfl rfl hap ?_
        try go_wp2_with fail
        refine hK.out _ _ (trivial) (fun hHeld => ?_)
        clear hK K
        try simp only [Act.put, List.setIfInBounds_toArray, List.set_cons_zero, List.set_cons_succ]
        refine wpAnyH_take (i := 9) (oi := ⟨some 42, .nilCheck (.tmp 33), 0, "l16_cache.go:86", #[⟨0, .data⟩, ⟨0, .phase⟩, ⟨1, .phase⟩, ⟨2, .phase⟩, ⟨3, .phase⟩, ⟨4, .phase⟩, ⟨5, .phase⟩, ⟨6, .phase⟩, ⟨7, .phase⟩, ⟨8, .phase⟩], none⟩) (v := ?v10) rfl (by kernel_rfl) (by kernel_rfl) (by kernel_rfl) (fun _ _ _ h => h) (Or.inl ⟨by rfl, ?hy10⟩) (by assumption) ?r10
        case hy10 => (intro w hSw; (try dsimp only at hSw); go_simp; try with_reducible rfl)
        try simp only [Act.put, List.setIfInBounds_toArray, List.set_cons_zero, List.set_cons_succ]
        refine wpAnyH_take (i := 10) (oi := ⟨some 43, .fieldAddr 43 (.tmp 42) 3, 0, "l16_cache.go:86", #[⟨9, .data⟩, ⟨0, .phase⟩, ⟨1, .phase⟩, ⟨2, .phase⟩, ⟨3, .phase⟩, ⟨4, .phase⟩, ⟨5, .phase⟩, ⟨6, .phase⟩, ⟨7, .phase⟩, ⟨8, .phase⟩], none⟩) (v := ?v11) rfl (by kernel_rfl) (by kernel_rfl) (by kernel_rfl) (fun _ _ _ h => h) (Or.inl ⟨by rfl, ?hy11⟩) (by assumption) ?r11
        case hy11 => (intro w hSw; (try dsimp only at hSw); go_simp; try with_reducible rfl)
        try simp only [Act.put, List.setIfInBounds_toArray, List.set_cons_zero, List.set_cons_succ]
        refine wpAnyH_ready (rs := [11]) (by kernel_rfl) (by simp) ?_
        refine AllReadyH.cons (o := ⟨none, .store 41 (.tmp 43) (.tmp 41), 0, "l16_cache.go:86", #[⟨10, .data⟩, ⟨8, .data⟩, ⟨8, .chain⟩, ⟨0, .phase⟩, ⟨1, .phase⟩, ⟨2, .phase⟩, ⟨3, .phase⟩, ⟨4, .phase⟩, ⟨5, .phase⟩, ⟨6, .phase⟩, ⟨7, .phase⟩, ⟨8, .phase⟩], none⟩) rfl (fun K hK => ?_) AllReadyH.nil
        go_simp
        skip
        try go_wp2_with fail
        refine hK.out _ _ (trivial) (fun hHeld => ?_)
        clear hK K
        try simp only [Act.put, List.setIfInBounds_toArray, List.set_cons_zero, List.set_cons_succ]
        refine wpAnyH_done (by kernel_rfl) ?_ _
        go_wp2
        go_end0
        exact ⟨⟨_, rfl⟩, by rw [HT.out]; exact MP.set (M := { M with l := M.l ++ [BA (cutR x)] }) HBB.out (six_set3 HS7.out) HR6.out HF7.out, HTK.out.set⟩
  by_cases h4 : cutW x = wKey
  · have HT : Hid (tk pI M x = { M with key := BA (cutR x) }) := by show _ = _; unfold tk; rw [if_neg h0, if_neg h1, if_neg h2, if_neg h3, if_pos h4]
    have hwe : W = ⟨#[107, 101, 121]⟩ := by rw [← hW, h4]; rfl
    subst hwe
    clear hW h4
    go_enter Tryz.func62, Tryz.ntmps62
    go_wp2_with (first | (go_at_call 87; refine (HCL.out _).mono ?_; rintro e w2 ⟨rfl, hb2⟩; refine Hid.out ?_) | go_in)
    refine Lib.hid ?_
    obtain ⟨vr, h6, hrw, hff⟩ := HM.out.below hb2
    have HS6 := Lib.hid h6
    have HRW3 := Lib.hid hrw
    have HFF := Lib.hid hff
    have q := hff 4
    obtain ⟨c0, c1, c2, c3, c4, c5⟩ := h6
    have HTK : Hid (TkK b B w w2) := TkK.of_below hb2 HB.out
    clear hrw hff hb2
    go_wp2
    go_end0
    exact ⟨⟨_, rfl⟩, by rw [HT.out]; exact MP.set (M := { M with key := BA (cutR x) }) HBB.out (six_set4 HS6.out) HRW3.out HFF.out, HTK.out.set⟩
  by_cases h5 : cutW x = wSig
  · have HT : Hid (tk pI M x = { M with sig := y, ok := M.ok && wd.rwB (BA (cutR x)) }) := by show _ = _; unfold tk; rw [if_neg h0, if_neg h1, if_neg h2, if_neg h3, if_neg h4, if_pos h5, HY.out]
    have hwe : W = ⟨#[115, 105, 103]⟩ := by rw [← hW, h5]; rfl
    subst hwe
    clear hW h5
    go_enter Tryz.func62, Tryz.ntmps62
    go_wp2_with (first | (go_at_call 89; refine HRW.out.mono ?_; rintro e w2 ⟨rfl, hb2⟩; refine Hid.out ?_) | go_in)
    refine Lib.hid ?_
    obtain ⟨vr, h6, hrw, hff⟩ := HM.out.below hb2
    have HS6 := Lib.hid h6
    have HRW3 := Lib.hid hrw
    have HFF := Lib.hid hff
    have q := hff 5
    obtain ⟨c0, c1, c2, c3, c4, c5⟩ := h6
    have HTK : Hid (TkK b B w w2) := TkK.of_below hb2 HB.out
    clear hrw hff hb2
    go_wp2
    go_end0
    exact ⟨⟨_, rfl⟩, by rw [HT.out]; exact MP.set (M := { M with sig := y, ok := M.ok && wd.rwB (BA (cutR x)) }) HBB.out (six_set5 HS6.out) HRW3.out HFF.out, HTK.out.set⟩
  have HT : Hid (tk pI M x = { M with ok := false }) := by show _ = _; unfold tk; rw [if_neg h0, if_neg h1, if_neg h2, if_neg h3, if_neg h4, if_neg h5]
  have e0 : (W.toList == [112, 97, 116, 104]) = false := by rw [← hW, ByteArray.toList_eq]; exact beq_eq_false_iff_ne.2 h0
  have n0 : ¬ W.toList = [112, 97, 116, 104] := beq_eq_false_iff_ne.1 e0
  clear h0
  have e1 : (W.toList == [115, 117, 109]) = false := by rw [← hW, ByteArray.toList_eq]; exact beq_eq_false_iff_ne.2 h1
  have n1 : ¬ W.toList = [115, 117, 109] := beq_eq_false_iff_ne.1 e1
  clear h1
  have e2 : (W.toList == [115, 105, 122, 101]) = false := by rw [← hW, ByteArray.toList_eq]; exact beq_eq_false_iff_ne.2 h2
  have n2 : ¬ W.toList = [115, 105, 122, 101] := beq_eq_false_iff_ne.1 e2
  clear h2
  have e3 : (W.toList == [114, 101, 102]) = false := by rw [← hW, ByteArray.toList_eq]; exact beq_eq_false_iff_ne.2 h3
  have n3 : ¬ W.toList = [114, 101, 102] := beq_eq_false_iff_ne.1 e3
  clear h3
  have e4 : (W.toList == [107, 101, 121]) = false := by rw [← hW, ByteArray.toList_eq]; exact beq_eq_false_iff_ne.2 h4
  have n4 : ¬ W.toList = [107, 101, 121] := beq_eq_false_iff_ne.1 e4
  clear h4
  have e5 : (W.toList == [115, 105, 103]) = false := by rw [← hW, ByteArray.toList_eq]; exact beq_eq_false_iff_ne.2 h5
  have n5 : ¬ W.toList = [115, 105, 103] := beq_eq_false_iff_ne.1 e5
  clear h5
  clear hW
  go_enter Tryz.func62, Tryz.ntmps62
  go_wp2
  go_end0
  exact ⟨⟨_, rfl⟩, by rw [HT.out]; exact HM.out, TkK.of_below (Below.refl _ _) HB.out⟩

end Go.Proofs.YtkmhaemcpakobaaGreatDoor.mt
