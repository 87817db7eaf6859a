import Derived.Test.YtaoimkjcaienbaaGreatDoorG01
import Derived.RangeFuncNested
import Derived.RangeFuncBound
import Derived.Test.YtaoimkjcaienbaaGreatDoorG05
import Derived.Test.YtaoimkjcaienbaaGreatDoorG14
import Derived.Test.YtaoimkjcaienbaaGreatDoorG07
import Derived.Sort.MapsRangeIn
import Derived.Sort.KeysCollected
import Derived.RangeFuncCalls
import Derived.RangeFuncLeaves
import Derived.RangeFuncSeq
import Derived.Shelf.Abstract
import Derived.Shelf.RegionOpen
import Derived.WalkKit
import Derived.OwnWalkIn
import Derived.TacticsInMore
import Derived.LoopNIn
import Derived.LoopIn
namespace Go.Proofs.YtaoimkjcaienbaaGreatDoor.rt
open Go.RowKit
set_option linter.unusedVariables false
set_option linter.unusedSimpArgs false

/-! ### A loop over an iterator that writes into boxes of its own (T) -/

/-- The two blocks that a loop lays. -/
structure Bk (D : Nat) (r : Loop) (W : World) : Prop where
  lo : W.heap[D + 1]? = some (.loop r)
  de : W.heap[D]? = some (.deferred (some []))

theorem Bk.to {D : Nat} {r : Loop} {W W' : World} (h : Bk D r W) (hk : KeepsFrom D W W') : Bk D r W' := ⟨hk.same _ _ (by omega) h.lo rfl, hk.same _ _ (Nat.le_refl _) h.de rfl⟩
theorem Bk.put {D : Nat} {r : Loop} {W : World} (h : Bk D r W) (r' : Loop) : Bk D r' (W.putObj (D + 1) (.loop r')) := ⟨World.putObj_heap_same (Array.getElem?_eq_some_iff.1 h.lo).1, (World.putObj_heap_other (by omega)).trans h.de⟩

/-- What speaks of nothing that lies in T. -/
def Ab (T : Nat → Prop) (J : List ByteArray → World → Prop) : Prop := ∀ s W W' row, J s W → W.grownBy W' row → (∀ r, row = some r → T r) → J s W'

theorem Bk.ab {D : Nat} {r : Loop} {T : Nat → Prop} (hT : ∀ r, T r → r < D) {W W' : World} {row : Option Nat} (h : Bk D r W) (hg : W.grownBy W' row) (hr : ∀ r, row = some r → T r) : Bk D r W' :=
  ⟨(hg.block _ (Array.getElem?_eq_some_iff.1 h.lo).1 (fun e => by have := hT _ (hr _ e.symm); omega)).trans h.lo, (hg.block _ (Array.getElem?_eq_some_iff.1 h.de).1 (fun e => by have := hT _ (hr _ e.symm); omega)).trans h.de⟩

/-- One round. -/
theorem round_t {F : Fence} {n : Nat} {P : Program} {D : Nat} {r : Loop} {W : World} {R : Ending → World → Prop} (hB : Bk D r W) (hr : r.state = .ready) (hfn : F.fn r.fn) (args : Array Value) (hs : args.size = r.params.size) (a1 : Act)
    (ha : ∀ K : Act → World → Prop, K a1 W → r.assign.wpIn (F.inRound (D + 1)) n P (Exit.then K (fun _ _ _ => False)) { tmps := (r.params.zip args).foldl (fun t (p, v) => t.setIfInBounds p v) r.tmps, defers := [] } W)
    (hb : r.body.wpIn (F.inRound (D + 1)) n P (fun e _ W' => KeepsFrom D (W.putObj (D + 1) (.loop { r with state := .busy })) W' ∧ ((e = .normal ∧ R (.returned (.bool true)) (W'.putObj (D + 1) (.loop { r with state := .ready, pending := none }))) ∨ (e = .ret ∧ R (.returned (.bool false)) (W'.putObj (D + 1) (.loop { r with state := .done, pending := some .ret }))))) a1 (W.putObj (D + 1) (.loop { r with state := .busy }))) :
    YieldAt F n P (D + 1) args W R := by
  refine ⟨r.fn, _, r.assign, r.body, run_yield hB.lo hs, roundIn_of_wpIn hfn (ha _ ⟨_, run_beginRound hB.lo hr, wpIn_mono hb ?_⟩)⟩
  rintro e a' W' ⟨hk, ⟨rfl, h⟩ | ⟨rfl, h⟩⟩
  · exact ⟨_, _, run_endRound none ((hB.put _).to hk).lo, h⟩
  · exact ⟨_, _, run_endRound (some .ret) ((hB.put _).to hk).lo, h⟩

/-- An iterator that hands over the texts L, one behind the other. -/
def Hands (n : Nat) (P : Program) (g : Nat) (lb : Array Value) (K : World → World → Prop) (T : Nat → Prop) (L : List ByteArray) (w : World) : Prop :=
  ∀ (l : Nat) (J Jx : List ByteArray → World → Prop) (W : World), Below w.heap.size w W → Ab T J → Ab T Jx →
    (∀ pre x W1, J pre W1 → pre ++ [x] <+: L → YieldAt Fence.wide (n - 1) P l #[.string x] W1 fun e W' => (e = .returned (.bool true) ∧ J (pre ++ [x]) W' ∧ K W1 W') ∨ (e = .returned (.bool false) ∧ Jx (pre ++ [x]) W')) →
    J [] W → CallsIn Fence.wide n P g (#[.func (.yield l) #[] #[]] ++ lb) W fun e W' => (∃ v, e = .returned v) ∧ (J L W' ∨ ∃ pre, pre <+: L ∧ Jx pre W')

/-- The loop over it, whose body goes on or returns. -/
theorem range_t {n : Nat} {P : Program} {g : Operand} {ps : Array Tmp} {assign body : Code} {Q : Exit → Act → World → Prop} {a : Act} {w : World} (h1 : 1 ≤ n) {gf : Nat} {lb : Array Value}
    (hg : a.eval g = .func (.func gf) #[] lb) (eg : ∀ args w, (callFunc gf args).run P w = .ok (.enter gf args) w) {K : World → World → Prop} {T : Nat → Prop} {L : List ByteArray} (hseq : Hands (n - 1) P gf lb K T L w)
    (hT : ∀ r, T r → r < w.heap.size) (hKt : ∀ A B C : World, K A B → K B C → K A C) (hKb : ∀ (W : World) (l : Nat) (o o' : Obj), w.heap.size ≤ l → W.heap[l]? = some o → o.isCells = false → o.isWalk = false → K W (W.putObj l o'))
    (hps : ps.size = 1) (I Ix : List ByteArray → World → Prop) (hI : OwnFrom w.heap.size I) (hIx : OwnFrom w.heap.size Ix) (tI : Ab T I) (tIx : Ab T Ix) (h0 : I [] w) (a1 : ByteArray → Act)
    (hassign : ∀ (l : Nat) (x : ByteArray) (W : World) (K : Act → World → Prop), K (a1 x) W → assign.wpIn (Fence.wide.inRound l) (n - 1 - 1) P (Exit.then K (fun _ _ _ => False)) { tmps := (ps.zip #[.string x]).foldl (fun t (p, v) => t.setIfInBounds p v) a.tmps, defers := [] } W)
    (hbody : ∀ (l : Nat) (pre : List ByteArray) (x : ByteArray) (W : World), I pre W → pre ++ [x] <+: L → body.wpIn (Fence.wide.inRound l) (n - 1 - 1) P (fun e _ W' => KeepsFrom w.heap.size W W' ∧ ((e = .normal ∧ K W W' ∧ I (pre ++ [x]) W') ∨ (e = .ret ∧ Ix (pre ++ [x]) W'))) (a1 x) W)
    (hdone : ∀ (D : Nat) (W : World), w.heap.size ≤ D → I L W → W.heap[D]? = some (.deferred (some [])) → Q .normal { a with defers := { target := .collected D, args := #[] } :: a.defers } W)
    (hstop : ∀ (D : Nat) (pre : List ByteArray) (W : World), w.heap.size ≤ D → pre <+: L → Ix pre W → W.heap[D]? = some (.deferred (some [])) → Code.ret.wpIn Fence.wide n P Q { a with defers := { target := .collected D, args := #[] } :: a.defers } W) :
    (Code.rangeFunc g ps assign body).wpIn Fence.wide n P Q a w := by
  refine wpIn_rangeFunc fun fn hfn => ?_
  obtain ⟨r, hr⟩ : ∃ r : Loop, r = { state := .ready, pending := none, fn := fn, tmps := a.tmps, params := ps, assign := assign, body := body, defers := w.heap.size } := ⟨_, rfl⟩
  obtain ⟨W1, hW1⟩ : ∃ W1, (w.alloc (.deferred (some []))).alloc (.loop r) = W1 := ⟨_, rfl⟩
  have hB1 : Bk w.heap.size r W1 := by
    rw [← hW1]
    refine ⟨?_, (Below.heap_alloc _ _ _ (by simp)).trans (World.alloc_heap_new w _)⟩
    have := World.alloc_heap_new (w.alloc (.deferred (some []))) (.loop r)
    rwa [World.size_alloc] at this
  have hI1 : I [] W1 := by rw [← hW1]; exact hI.alloc _ (hI.alloc _ h0)
  have hb1 : Below w.heap.size w W1 := by rw [← hW1]; exact ((Below.refl _ w).alloc (Nat.le_refl _) _).alloc (by simp) _
  refine ⟨w.heap.size + 1, [{ target := .collected w.heap.size, args := #[] }], W1, { target := .fn (.func gf) lb, args := #[.func (.yield (w.heap.size + 1)) #[] #[]] }, W1, gf, #[.func (.yield (w.heap.size + 1)) #[] #[]] ++ lb, W1, ?_, ?_, fun _ _ => trivial, ?_, fun _ => h1, ?_⟩
  · rw [← hW1, hr]; exact run_enterLoop_outer _ _ _ _ _
  · simp only [resolve, hg]
    simp [go_sem]
  · simp [invoke, go_sem, eg]
  · refine (hseq (w.heap.size + 1) (fun pre W => I pre W ∧ Bk w.heap.size r W) (fun pre W => Ix pre W ∧ Bk w.heap.size { r with state := .done, pending := some .ret } W) W1 hb1
      (fun s A B row h hg hrow => ⟨tI s A B row h.1 hg hrow, h.2.ab hT hg hrow⟩) (fun s A B row h hg hrow => ⟨tIx s A B row h.1 hg hrow, h.2.ab hT hg hrow⟩) ?_ ⟨hI1, hB1⟩).mono ?_
    · rintro pre x W ⟨hi, hB⟩ hp
      have hlo : ∀ {r : Loop} {W : World}, Bk w.heap.size r W → ∀ o', K W (W.putObj (w.heap.size + 1) o') := fun h o' => hKb _ _ _ o' (by omega) h.lo rfl rfl
      refine round_t hB (by rw [hr]) (by trivial) _ (by rw [hr]; simp [hps]) (a1 x) (fun K hK => by rw [hr]; exact hassign _ x W K hK) ?_
      have hI2 : I pre (W.putObj (w.heap.size + 1) (.loop { r with state := .busy })) := hI.putObj _ hi (by omega) hB.lo rfl
      have hbd := hbody (w.heap.size + 1) pre x _ hI2 hp
      have hrb : body = r.body := by rw [hr]
      rw [hrb] at hbd
      refine wpIn_mono hbd ?_
      rintro e a' W' ⟨hk, ⟨rfl, hK, hi'⟩ | ⟨rfl, hi'⟩⟩
      · have hB' := (hB.put _).to hk
        refine ⟨hk, .inl ⟨rfl, .inl ⟨rfl, ⟨hI.putObj _ hi' (by omega) hB'.lo rfl, ?_⟩, hKt _ _ _ (hlo hB _) (hKt _ _ _ hK (hlo hB' _))⟩⟩⟩
        have := hB'.put { r with state := .ready, pending := none }
        rw [hr] at this ⊢
        exact this
      · have hB' := (hB.put _).to hk
        exact ⟨hk, .inr ⟨rfl, .inr ⟨rfl, hIx.putObj _ hi' (by omega) hB'.lo rfl, hB'.put _⟩⟩⟩
    · rintro e W2 ⟨⟨v, rfl⟩, ⟨hi, hB⟩ | ⟨pre, hp, hi, hB⟩⟩
      · refine ⟨none, _, by have := run_endLoop (P := P) hB.lo (by rw [hr]; simp); rw [show r.pending = none by rw [hr]] at this; exact this, hdone _ _ (Nat.le_refl _) (hI.putObj _ hi (by omega) hB.lo rfl) (hB.put _).de⟩
      · exact ⟨some .ret, _, run_endLoop (P := P) hB.lo (by simp), hstop _ pre _ (Nat.le_refl _) hp (hIx.putObj _ hi (by omega) hB.lo rfl) (hB.put _).de⟩

end Go.Proofs.YtaoimkjcaienbaaGreatDoor.rt

namespace Go.Proofs.YtaoimkjcaienbaaGreatDoor.nb
open Go.RowKit rt
set_option linter.unusedVariables false
set_option linter.unusedSimpArgs false

/-! ### A loop over an iterator that calls itself: what the rounds keep for it, its contract, the loop -/

/-- What an iterator makes for itself: walks, the boxes of a yield and of a branch. -/
def Our (o : Obj) : Prop := o.isWalk = true ∨ ∃ (v : Value) (t : TypeId), o = .cells #[v] t (0, 0) ∧ (t = 119 ∨ t = 77)
/-- What the rounds keep for an iterator that was called where the heap ended at C: what lies below n0, what iterators made for themselves, and whatever is no cells from C on. -/
structure Kq (n0 C : Nat) (W W' : World) : Prop where
  bel : Below n0 W W'
  our : ∀ (k : Nat) (o : Obj), W.heap[k]? = some o → Our o → W'.heap[k]? = some o
  rc : ∀ (k : Nat) (o : Obj), C ≤ k → W.heap[k]? = some o → o.isCells = false → W'.heap[k]? = some o
theorem Kq.refl (n0 C : Nat) (W : World) : Kq n0 C W W := ⟨Below.refl _ _, fun _ _ h _ => h, fun _ _ _ h _ => h⟩
theorem Kq.trans {n0 C : Nat} {A B D : World} (h : Kq n0 C A B) (k : Kq n0 C B D) : Kq n0 C A D := ⟨h.bel.trans k.bel, fun i o hi ho => k.our i o (h.our i o hi ho) ho, fun i o hc hi ho => k.rc i o hc (h.rc i o hc hi ho) ho⟩
theorem Kq.mono {n0 C C' : Nat} {A B : World} (h : Kq n0 C A B) (hC : C ≤ C') : Kq n0 C' A B := ⟨h.bel, h.our, fun i o hc hi ho => h.rc i o (by omega) hi ho⟩
theorem Kq.alloc {n0 C : Nat} {A B : World} (h : Kq n0 C A B) (h0 : n0 ≤ B.heap.size) (o : Obj) : Kq n0 C A (B.alloc o) := ⟨h.bel.alloc h0 o, fun i x hi hx => (Below.heap_alloc B o i (Array.getElem?_eq_some_iff.1 (h.our i x hi hx)).1).trans (h.our i x hi hx), fun i x hc hi hx => (Below.heap_alloc B o i (Array.getElem?_eq_some_iff.1 (h.rc i x hc hi hx)).1).trans (h.rc i x hc hi hx)⟩
/-- One block turns that is none of these. -/
theorem Kq.put {n0 C : Nat} {A B B' : World} {r : Nat} (h : Kq n0 C A B) (hg : B.grownBy B' (some r)) (h0 : n0 ≤ r) (hs : n0 ≤ B.heap.size) (ho : ∀ o, B.heap[r]? = some o → ¬ Our o) (hc : ∀ o, B.heap[r]? = some o → C ≤ r → o.isCells = true) : Kq n0 C A B' := by
  refine ⟨h.bel.grown hg hs (fun k hk => by cases hk; exact h0), fun i x hi hx => ?_, fun i x hcc hi hx => ?_⟩
  · have hB := h.our i x hi hx
    exact (hg.block i (Array.getElem?_eq_some_iff.1 hB).1 (fun e => by cases e; exact ho x hB hx)).trans hB
  · have hB := h.rc i x hcc hi hx
    exact (hg.block i (Array.getElem?_eq_some_iff.1 hB).1 (fun e => by cases e; have := hc x hB hcc; rw [hx] at this; cases this)).trans hB

theorem yield_wide {P : Program} {m m' l : Nat} {args : Array Value} {W : World} {R : Ending → World → Prop} (h : YieldAt Fence.wide m P l args W R) : YieldAt Fence.wide m' P l args W R := by
  obtain ⟨fn, tmps, assign, body, hy, hR⟩ := h
  exact ⟨fn, tmps, assign, body, hy, hR.1, fun c cs _ => hR.2 c cs (room_wide _)⟩

/-- An iterator that gives some list of numbers, made in the world w. -/
def SeqO (P : Program) (g : Nat) (lb : Array Value) (n0 : Nat) (S : List Int → Prop) (N : Nat) (w : World) : Prop :=
  ∀ (n l : Nat) (J : List Int → World → Prop) (W : World), Kq n0 w.heap.size w W → w.heap.size ≤ W.heap.size → l < W.heap.size → OwnFrom W.heap.size J →
    (∀ pre x W1, J pre W1 → pre.length < N → YieldAt Fence.wide (n - 1) P l #[.int .i64 x] W1 fun e W' => e = .returned (.bool true) ∧ J (pre ++ [x]) W' ∧ Kq n0 W.heap.size W1 W') →
    J [] W → CallsIn Fence.wide n P g (#[.func (.yield l) #[] #[]] ++ lb) W fun e W' => (∃ v, e = .returned v) ∧ ∃ xs, S xs ∧ J xs W'

theorem not_our_loop (r : Loop) : ¬ Our (.loop r) := by
  rintro (h | ⟨v, t, h, _⟩)
  · cases h
  · cases h

/-- The loop over it. -/
theorem range_o {n : Nat} {P : Program} {g : Operand} {ps : Array Tmp} {assign body : Code} {Q : Exit → Act → World → Prop} {a : Act} {w : World} (h1 : 1 ≤ n) {gf : Nat} {lb : Array Value}
    (hg : a.eval g = .func (.func gf) #[] lb) (eg : ∀ args w, (callFunc gf args).run P w = .ok (.enter gf args) w) {n0 : Nat} {S : List Int → Prop} {N : Nat} {w0 : World} (hseq : SeqO P gf lb n0 S N w0)
    (hn0 : n0 ≤ w0.heap.size) (hw0 : Kq n0 w0.heap.size w0 w) (hsz : w0.heap.size ≤ w.heap.size)
    (hps : ps.size = 1) (I : List Int → World → Prop) (hI : OwnFrom w.heap.size I) (h0 : I [] w) (a1 : Int → Act)
    (hassign : ∀ (l : Nat) (x : Int) (W : World) (K : Act → World → Prop), K (a1 x) W → assign.wpIn (Fence.wide.inRound l) (n - 1 - 1) P (Exit.then K (fun _ _ _ => False)) { tmps := (ps.zip #[.int .i64 x]).foldl (fun t (p, v) => t.setIfInBounds p v) a.tmps, defers := [] } W)
    (hbody : ∀ (l : Nat) (pre : List Int) (x : Int) (W : World), I pre W → pre.length < N → n0 ≤ W.heap.size → body.wpIn (Fence.wide.inRound l) (n - 1 - 1) P (fun e _ W' => KeepsFrom w.heap.size W W' ∧ e = .normal ∧ Kq n0 (w.heap.size + 2) W W' ∧ n0 ≤ W'.heap.size ∧ I (pre ++ [x]) W') (a1 x) W)
    (hdone : ∀ (D : Nat) (xs : List Int) (W : World), w.heap.size ≤ D → S xs → I xs W → W.heap[D]? = some (.deferred (some [])) → Q .normal { a with defers := { target := .collected D, args := #[] } :: a.defers } W) :
    (Code.rangeFunc g ps assign body).wpIn Fence.wide n P Q a w := by
  refine wpIn_rangeFunc fun fn hfn => ?_
  obtain ⟨r, hr⟩ : ∃ r : Loop, r = { state := .ready, pending := none, fn := fn, tmps := a.tmps, params := ps, assign := assign, body := body, defers := w.heap.size } := ⟨_, rfl⟩
  obtain ⟨W1, hW1⟩ : ∃ W1, (w.alloc (.deferred (some []))).alloc (.loop r) = W1 := ⟨_, rfl⟩
  have hB1 : Bk w.heap.size r W1 := by
    rw [← hW1]
    refine ⟨?_, (Below.heap_alloc _ _ _ (by simp)).trans (World.alloc_heap_new w _)⟩
    have := World.alloc_heap_new (w.alloc (.deferred (some []))) (.loop r)
    rwa [World.size_alloc] at this
  have hI1 : I [] W1 := by rw [← hW1]; exact hI.alloc _ (hI.alloc _ h0)
  have hk1 : Kq n0 w0.heap.size w0 W1 := by rw [← hW1]; exact (hw0.alloc (by omega) _).alloc (by simp; omega) _
  have hs1 : W1.heap.size = w.heap.size + 2 := by rw [← hW1]; simp
  refine ⟨w.heap.size + 1, [{ target := .collected w.heap.size, args := #[] }], W1, { target := .fn (.func gf) lb, args := #[.func (.yield (w.heap.size + 1)) #[] #[]] }, W1, gf, #[.func (.yield (w.heap.size + 1)) #[] #[]] ++ lb, W1, ?_, ?_, fun _ _ => trivial, ?_, fun _ => h1, ?_⟩
  · rw [← hW1, hr]; exact run_enterLoop_outer _ _ _ _ _
  · simp only [resolve, hg]
    simp [go_sem]
  · simp [invoke, go_sem, eg]
  · have hOB : ∀ (s : List Int) (A B : World) (row : Option Nat), (I s A ∧ Bk w.heap.size r A ∧ n0 ≤ A.heap.size) → A.grownBy B row → (∀ q, row = some q → W1.heap.size ≤ q ∧ ∃ o : Obj, A.heap[q]? = some o ∧ o.isCells = false) → (I s B ∧ Bk w.heap.size r B ∧ n0 ≤ B.heap.size) := fun s A B row h hg hrow => by
      refine ⟨hI s A B row h.1 hg (fun q e => ⟨by have := (hrow q e).1; omega, (hrow q e).2⟩), ⟨?_, ?_⟩, Nat.le_trans h.2.2 hg.size⟩
      · exact (hg.block _ (Array.getElem?_eq_some_iff.1 h.2.1.lo).1 (fun e => by have := (hrow _ e.symm).1; omega)).trans h.2.1.lo
      · exact (hg.block _ (Array.getElem?_eq_some_iff.1 h.2.1.de).1 (fun e => by have := (hrow _ e.symm).1; omega)).trans h.2.1.de
    refine (hseq (n - 1) (w.heap.size + 1) (fun pre W => I pre W ∧ Bk w.heap.size r W ∧ n0 ≤ W.heap.size) W1 hk1 (by omega) (by omega) hOB ?_ ⟨hI1, hB1, by omega⟩).mono ?_
    · rintro pre x W ⟨hi, hB, hn⟩ hp
      refine round_t hB (by rw [hr]) (by trivial) _ (by rw [hr]; simp [hps]) (a1 x) (fun K hK => by rw [hr]; exact hassign _ x W K hK) ?_
      have hI2 : I pre (W.putObj (w.heap.size + 1) (.loop { r with state := .busy })) := hI.putObj _ hi (by omega) hB.lo rfl
      have hsz2 : (W.putObj (w.heap.size + 1) (.loop { r with state := .busy })).heap.size = W.heap.size := by simp [World.putObj]
      have hq1 : Kq n0 (w.heap.size + 2) W (W.putObj (w.heap.size + 1) (.loop { r with state := .busy })) := (Kq.refl _ _ W).put (grownBy_putObj' W _ _) (by omega) hn (fun o ho => by rw [hB.lo] at ho; cases ho; exact not_our_loop _) (fun o ho hc => by omega)
      have hbd := hbody (w.heap.size + 1) pre x _ hI2 hp (by omega)
      have hrb : body = r.body := by rw [hr]
      rw [hrb] at hbd
      refine wpIn_mono hbd ?_
      rintro e a' W' ⟨hk, rfl, hK, hn', hi'⟩
      have hB' := (hB.put _).to hk
      refine ⟨hk, .inl ⟨rfl, rfl, ⟨hI.putObj _ hi' (by omega) hB'.lo rfl, ?_, by simpa [World.putObj] using hn'⟩, ?_⟩⟩
      · have := hB'.put { r with state := .ready, pending := none }
        rw [hr] at this ⊢
        exact this
      · rw [hs1]
        exact (hq1.trans hK).put (grownBy_putObj' W' _ _) (by omega) hn' (fun o ho => by rw [hB'.lo] at ho; cases ho; exact not_our_loop _) (fun o ho hc => by omega)
    · rintro e W2 ⟨⟨v, rfl⟩, xs, hS, hi, hB, hn⟩
      exact ⟨none, _, by have := run_endLoop (P := P) hB.lo (by rw [hr]; simp); rw [show r.pending = none by rw [hr]] at this; exact this, hdone _ xs _ (Nat.le_refl _) hS (hI.putObj _ hi (by omega) hB.lo rfl) (hB.put _).de⟩

end Go.Proofs.YtaoimkjcaienbaaGreatDoor.nb

namespace Go.Proofs.YtaoimkjcaienbaaGreatDoor.tt
open Go.ChangeShapes Go.WideShapes Go.ChangeAt Go.RowKit Go.Deep
set_option linter.unusedVariables false
set_option linter.unusedSimpArgs false

/-! ### What stands below a directory, plainly: an entry and all below it, by the entries right below -/

/-- A name right below a path. -/
def kidN (E : Nat → En) (j : Nat) (x : List UInt8) : List UInt8 := pth E j ++ 47 :: x
theorem lst_app_none {d x : List UInt8} (h : lst x = none) : lst (d ++ 47 :: x) = some d.length := by rw [lst_app, h]
theorem up_kid {d x : List UInt8} (h : lst x = none) : up (d ++ 47 :: x) = d := up_plain h
theorem no_slash {x y r s : List UInt8} (hx : lst x = none) (hy : lst y = none) (h : x ++ 47 :: r = y ++ 47 :: s) : x = y := by
  induction x generalizing y with
  | nil =>
    cases y with
    | nil => rfl
    | cons b y =>
      rw [List.nil_append, List.cons_append] at h
      have hb := (List.cons.inj h).1
      exact absurd (by rw [← hb]; rfl : (b :: y)[0]? = some (47 : UInt8)) (lst_none hy 0)
  | cons a x ih =>
    cases y with
    | nil =>
      rw [List.nil_append, List.cons_append] at h
      have hb := (List.cons.inj h).1
      exact absurd (by rw [hb]; rfl : (a :: x)[0]? = some (47 : UInt8)) (lst_none hx 0)
    | cons b y =>
      rw [List.cons_append, List.cons_append] at h
      obtain ⟨h1, h2⟩ := List.cons.inj h
      rw [h1, ih (lst_no fun i => by have := lst_none hx (i + 1); simpa using this) (lst_no fun i => by have := lst_none hy (i + 1); simpa using this) h2]
theorem no_slash2 {x y r : List UInt8} (hx : lst x = none) (h : x = y ++ 47 :: r) : False := by
  have := lst_none hx y.length
  rw [h] at this
  simp at this
/-- Below. -/
def Blw (x d : List UInt8) : Prop := ∃ r, x = d ++ 47 :: r
theorem blw_up {x d : List UInt8} (h : Blw x d) : (up x = d) ∨ Blw (up x) d := by
  obtain ⟨r, rfl⟩ := h
  cases hl : lst r with
  | none => exact .inl (up_plain hl)
  | some i => exact .inr ⟨r.take i, up_deep hl⟩
theorem blw_len {x d : List UInt8} (h : Blw x d) : d.length < x.length := by
  obtain ⟨r, rfl⟩ := h
  simp
theorem Blw.trans {x y d : List UInt8} (h : Blw x y) (k : Blw y d) : Blw x d := by
  obtain ⟨r, rfl⟩ := h
  obtain ⟨s, rfl⟩ := k
  exact ⟨s ++ 47 :: r, by simp⟩
theorem up_ne_nil {x d : List UInt8} (h : Blw x d) (hd : d ≠ []) : up x ≠ [] := by
  rcases blw_up h with e | e
  · rw [e]; exact hd
  · obtain ⟨r, hr⟩ := e
    rw [hr]
    cases d with
    | nil => exact absurd rfl hd
    | cons a d => simp
section
variable {E : Nat → En} {n : Nat}
/-- Right below: the kid's name. -/
def Kid (E : Nat → En) (n j c : Nat) : Prop := c < n ∧ ∃ x, lst x = none ∧ pth E c = pth E j ++ 47 :: x
def InS (E : Nat → En) (j i : Nat) : Prop := i = j ∨ Blw (pth E i) (pth E j)
theorem kid_gt (hT : Tr E n) {j c : Nat} (hj : j < n) (h : Kid E n j c) : j < c := by
  obtain ⟨hc, x, hx, he⟩ := h
  rcases Nat.lt_trichotomy j c with h' | h' | h'
  · exact h'
  · subst h'
    have := congrArg List.length he
    simp at this
  · have h1 := hT.asc c j h' hj
    rw [he] at h1
    exact absurd h1 (fun h2 => absurd (List.lt_trans h2 (by
      have : pth E j < pth E j ++ 47 :: x := by
        generalize pth E j = l
        induction l with
        | nil => exact List.nil_lt_cons _ _
        | cons a l ih => exact List.cons_lt_cons_iff.2 (.inr ⟨rfl, ih⟩)
      exact this)) (List.lt_irrefl _))
theorem path_nn (hT : Tr E n) {j : Nat} (hj : j < n) : pth E j ≠ [] := fun hl => by
  have := hT.1 j hj
  unfold eOk pOk at this
  rw [Bool.and_eq_true] at this
  have h2 := this.1
  unfold pth at hl
  rw [hl, pk, name_nil] at h2
  simp at h2
theorem blw_kid (hT : Tr E n) {j : Nat} (hj : j < n) : ∀ i, i < n → Blw (pth E i) (pth E j) → ∃ c, Kid E n j c ∧ InS E c i := by
  intro i
  induction i using Nat.strongRecOn with
  | ind i ih =>
    intro hi hb
    obtain ⟨r, hr⟩ := hb
    cases hl : lst r with
    | none => exact ⟨i, ⟨hi, r, hl, hr⟩, .inl rfl⟩
    | some k =>
      have hu : up (pth E i) = pth E j ++ 47 :: r.take k := by rw [hr]; exact up_deep hl
      obtain ⟨m, hm, hpm, hkm⟩ := hT.2.2 i hi (by rw [hu]; intro h0; simp at h0)
      obtain ⟨c, hc, hs⟩ := ih m hm (by omega) ⟨r.take k, by rw [hpm, hu]⟩
      refine ⟨c, hc, .inr ?_⟩
      have hbm : Blw (pth E i) (pth E m) := by
        refine ⟨r.drop (k + 1), ?_⟩
        rw [hpm, hu, hr]
        have e : r = r.take k ++ 47 :: r.drop (k + 1) := by
          have h1 := (List.getElem?_eq_some_iff.1 (lst_some hl).1)
          obtain ⟨h1, h2⟩ := h1
          conv => lhs; rw [← List.take_append_drop k r]
          rw [List.drop_eq_getElem_cons h1, h2]
        conv => lhs; rw [e]
        simp
      rcases hs with rfl | hs
      · exact hbm
      · exact hbm.trans hs
theorem kid_blw {j c i : Nat} (h : Kid E n j c) (hs : InS E c i) : Blw (pth E i) (pth E j) := by
  obtain ⟨_, x, _, he⟩ := h
  rcases hs with rfl | hs
  · exact ⟨x, he⟩
  · exact hs.trans ⟨x, he⟩
theorem kids_apart (hT : Tr E n) {j c c' i : Nat} (h : Kid E n j c) (h' : Kid E n j c') (hs : InS E c i) (hs' : InS E c' i) (hi : i < n) : c = c' := by
  obtain ⟨hc, x, hx, he⟩ := h
  obtain ⟨hc', y, hy, he'⟩ := h'
  have key : x = y := by
    rcases hs with rfl | ⟨r, hr⟩
    · rcases hs' with rfl | ⟨s, hs⟩
      · rw [he] at he'; simpa using he'
      · rw [he, he', List.append_assoc, List.append_cancel_left_eq] at hs
        simp only [List.cons_append, List.cons.injEq, true_and] at hs
        exact (no_slash2 hx hs).elim
    · rcases hs' with rfl | ⟨s, hs⟩
      · rw [he', he, List.append_assoc, List.append_cancel_left_eq] at hr
        simp only [List.cons_append, List.cons.injEq, true_and] at hr
        exact (no_slash2 hy hr).elim
      · rw [hr, he, he', List.append_assoc, List.append_assoc, List.append_cancel_left_eq] at hs
        simp only [List.cons_append, List.cons.injEq, true_and] at hs
        exact no_slash hx hy hs
  subst key
  exact asc_one hT.asc hc hc' (he.trans he'.symm)
/-- An entry and all below it, ascending. -/
noncomputable def subL (E : Nat → En) (n j : Nat) : List Nat := (List.range n).filter fun i => @decide (InS E j i) (Classical.propDecidable _)
theorem mem_sub {j i : Nat} : i ∈ subL E n j ↔ i < n ∧ InS E j i := by
  unfold subL
  rw [List.mem_filter, List.mem_range]
  exact and_congr_right fun _ => @decide_eq_true_iff _ (Classical.propDecidable _)
theorem sub_nodup (j : Nat) : (subL E n j).Nodup := List.Nodup.sublist List.filter_sublist List.nodup_range
theorem sub_asc (j : Nat) : (subL E n j).Pairwise (· < ·) := List.Pairwise.sublist List.filter_sublist List.pairwise_lt_range
/-- So far: the entry, and what stands at the kids that have been seen. -/
noncomputable def seenL (E : Nat → En) (n j : Nat) (ks : List Nat) : List Nat := j :: ks.flatMap (subL E n)
theorem seen_nodup (hT : Tr E n) {j : Nat} {ks : List Nat} (hk : ∀ c ∈ ks, Kid E n j c) (hn : ks.Nodup) : (seenL E n j ks).Nodup := by
  unfold seenL
  rw [List.nodup_cons]
  refine ⟨fun h => ?_, ?_⟩
  · obtain ⟨c, hc, hm⟩ := List.mem_flatMap.1 h
    have := blw_len (kid_blw (hk c hc) (mem_sub.1 hm).2)
    omega
  · show List.Pairwise (· ≠ ·) _
    rw [List.pairwise_flatMap]
    refine ⟨fun c _ => sub_nodup c, ?_⟩
    have : ∀ l : List Nat, (∀ c ∈ l, Kid E n j c) → l.Nodup → l.Pairwise fun a b => ∀ x ∈ subL E n a, ∀ y ∈ subL E n b, x ≠ y := by
      intro l
      induction l with
      | nil => intro _ _; exact List.Pairwise.nil
      | cons a l ih =>
        intro hk hn
        rw [List.nodup_cons] at hn
        refine List.pairwise_cons.2 ⟨fun b hb x hx y hy e => ?_, ih (fun c hc => hk c (List.mem_cons_of_mem _ hc)) hn.2⟩
        subst e
        have := kids_apart hT (hk a List.mem_cons_self) (hk b (List.mem_cons_of_mem _ hb)) (mem_sub.1 hx).2 (mem_sub.1 hy).2 (mem_sub.1 hx).1
        exact hn.1 (this ▸ hb)
    exact this ks hk hn
theorem seen_sub {j : Nat} (hj : j < n) {ks : List Nat} (hk : ∀ c ∈ ks, Kid E n j c) : ∀ i ∈ seenL E n j ks, i ∈ subL E n j := fun i hi => by
  rcases List.mem_cons.1 hi with rfl | hi
  · exact mem_sub.2 ⟨hj, .inl rfl⟩
  · obtain ⟨c, hc, hm⟩ := List.mem_flatMap.1 hi
    exact mem_sub.2 ⟨(mem_sub.1 hm).1, .inr (kid_blw (hk c hc) (mem_sub.1 hm).2)⟩
theorem nodup_le : ∀ {a b : List Nat}, a.Nodup → (∀ x ∈ a, x ∈ b) → a.length ≤ b.length
  | [], b, _, _ => Nat.zero_le _
  | x :: a, b, ha, h => by
    rw [List.nodup_cons] at ha
    have hx := h x List.mem_cons_self
    have h2 : ∀ y ∈ a, y ∈ b.erase x := fun y hy => (List.mem_erase_of_ne (fun e : y = x => ha.1 (by rw [← e]; exact hy))).2 (h y (List.mem_cons_of_mem _ hy))
    have := nodup_le ha.2 h2
    rw [List.length_erase_of_mem hx] at this
    have := List.length_pos_of_mem hx
    simp
    omega
theorem seen_le (hT : Tr E n) {j : Nat} (hj : j < n) {ks : List Nat} (hk : ∀ c ∈ ks, Kid E n j c) (hn : ks.Nodup) : (seenL E n j ks).length ≤ (subL E n j).length := nodup_le (seen_nodup hT hk hn) (seen_sub hj hk)
theorem seen_all (hT : Tr E n) {j : Nat} (hj : j < n) {ks : List Nat} (hk : ∀ c, c ∈ ks ↔ Kid E n j c) (hn : ks.Nodup) : (seenL E n j ks).Perm (subL E n j) := by
  refine (List.perm_ext_iff_of_nodup (seen_nodup hT (fun c h => (hk c).1 h) hn) (sub_nodup j)).2 fun i => ⟨seen_sub hj (fun c h => (hk c).1 h) i, fun hi => ?_⟩
  obtain ⟨h1, h2⟩ := mem_sub.1 hi
  rcases h2 with rfl | h2
  · exact List.mem_cons_self
  · obtain ⟨c, hc, hs⟩ := blw_kid hT hj i h1 h2
    exact List.mem_cons_of_mem _ (List.mem_flatMap.2 ⟨c, (hk c).2 hc, mem_sub.2 ⟨h1, hs⟩⟩)
end
end Go.Proofs.YtaoimkjcaienbaaGreatDoor.tt

namespace Go.Proofs.YtaoimkjcaienbaaGreatDoor.tt
open Go.ChangeShapes Go.WideShapes Go.ChangeAt Go.RowKit Go.Deep Go.Maps
set_option linter.unusedVariables false
set_option linter.unusedSimpArgs false

/-! ### Trees of files: FindEntry on both sides -/

/-- The number of a path's entry, or -1. -/
def fnd (E : Nat → En) (n : Nat) (p : List UInt8) : Int := (chd E (fun j => j) n p : Int) - 1

theorem fnd_of {E : Nat → En} {n : Nat} {p : List UInt8} {r : Int} (hA : Asc E n) (h : Fnd E n p r) : r = fnd E n p := by
  unfold fnd
  rcases h with ⟨j, hj, hp, rfl⟩ | ⟨h, rfl⟩
  · rw [chd_yes hA hj hp]; omega
  · rw [chd_no h]; rfl

theorem chd_id {E : Nat → En} {B : Nat → Nat} {n : Nat} {p : List UInt8} (hA : Asc E n) : (chd E B n p = 0 ∧ fnd E n p = -1) ∨ ∃ j, j < n ∧ chd E B n p = B j + 1 ∧ fnd E n p = (j : Int) := by
  unfold fnd
  rcases chd_cases E B n p with ⟨j, hj, hp, h⟩ | ⟨h1, h⟩
  · refine .inr ⟨j, hj, h, ?_⟩
    rw [chd_yes hA hj hp]; omega
  · refine .inl ⟨h, ?_⟩
    rw [chd_no h1]; rfl

/-- What FindEntry answers. -/
noncomputable def feB (E : Nat → En) (n : Nat) (p : List UInt8) : Int := if treeB E n = true then fnd E n p else -1
theorem feB_yes {E : Nat → En} {n : Nat} {p : List UInt8} (h : treeB E n = true) : feB E n p = fnd E n p := by unfold feB; rw [if_pos h]
theorem feB_no {E : Nat → En} {n : Nat} {p : List UInt8} (h : treeB E n = false) : feB E n p = -1 := by unfold feB; rw [if_neg (by rw [h]; simp)]
theorem treeB_tr {E : Nat → En} {n : Nat} (h : treeB E n = true) : n ≤ 500 ∧ Tr E n := by unfold treeB at h; exact (@decide_eq_true_iff _ (Classical.propDecidable _)).1 h

theorem fnd_rng (E : Nat → En) (n : Nat) (p : List UInt8) : -1 ≤ fnd E n p ∧ fnd E n p < (n : Int) := by
  unfold fnd
  rcases chd_cases E (fun j => j) n p with ⟨j, hj, _, h⟩ | ⟨_, h⟩
  · rw [h]; omega
  · rw [h]; omega

theorem ret_int {a b : Int} (h : a = b) : Ending.returned (.int .i64 a) = .returned (.int .i64 b) := by rw [h]

set_option maxRecDepth 100000 in
theorem branchAt_any (E : Nat → En) (b o n cap : Nat) (q : ByteArray) (hq : q.size ≤ 1048576) (w : World) (hR : EnR w b o n E) (hS : SmE n E) (hn : n ≤ 1048576) (hm : ML w) (hC : AtC E) :
    Calls Tryz.prog 49 #[.slice (some ⟨b, o, none⟩) n cap, .string q] w fun e w' => ((treeB E n = false ∧ e = .returned (.tuple #[.pointer none, .bool false])) ∨ treeB E n = true ∧ ∃ rb B M, BrA w w' E n rb (rb + 1) B M ∧ e = .returned (.tuple #[ptr (chd E B n q.data.toList), .bool true])) ∧ Below w.heap.size w w' := by
  have HB : Hid (Calls Tryz.prog 56 #[.slice (some ⟨b, o, none⟩) n cap] w fun e w' => (∃ v, e = .returned (.pointer v) ∧ v.isSome = treeB E n ∧ ∀ a, v = some a → BrX w w' E n a) ∧ Below w.heap.size w w') := branchOf_full E b o n cap w hR hS hn hm hC
  have HM : Hid (ML w) := hm
  have HC : Hid (AtC E) := hC
  clear hR hS hm hC
  go_enter Tryz.func49, Tryz.ntmps49
  go_wp2_with (go_at_call 56; refine HB.out.mono ?_; rintro e w1 ⟨⟨v, rfl, hv, hX⟩, hb⟩; rcases v with _ | v)
  · go_ret2
    exact ⟨.inl ⟨by simpa using hv.symm, rfl⟩, hb⟩
  · obtain ⟨rb, B, M, rfl, hX1⟩ := hX v rfl
    have HAT : Hid (Calls Tryz.prog 77 #[.pointer (some ⟨rb, 0, none⟩), .string q] w1 fun e w' => e = .returned (ptr (chd E B n q.data.toList)) ∧ Below w1.heap.size w1 w') := HC.out w1 n rb (rb + 1) n B M hX1.br hX1.tr (HM.out.below hb) q hq
    have HX : Hid (BrA w w1 E n rb (rb + 1) B M) := hX1
    clear hX hX1
    go_wp2_with (go_at_call 77; refine HAT.out.mono ?_; rintro e w2 ⟨rfl, hl2⟩)
    go_ret2
    exact ⟨.inr ⟨by simpa using hv.symm, rb, B, M, ⟨HX.out.br.below hl2, HX.out.tr, hb.trans (hl2.mono hb.size), HX.out.rm_new, HX.out.m_new⟩, rfl⟩, hb.trans (hl2.mono hb.size)⟩

set_option maxRecDepth 100000 in
theorem ife_any (E : Nat → En) (b o n cap : Nat) (q : ByteArray) (hq : q.size ≤ 1048576) (w : World) (hR : EnR w b o n E) (hS : SmE n E) (hn : n ≤ 1048576) (hm : ML w) (hC : AtC E) :
    Calls Tryz.prog 16 #[.slice (some ⟨b, o, none⟩) n cap, .string q] w fun e w' => e = .returned (.int .i64 (feB E n q.data.toList)) ∧ Below w.heap.size w w' := by
  have HB : Hid (Calls Tryz.prog 49 #[.slice (some ⟨b, o, none⟩) n cap, .string q] w fun e w' => ((treeB E n = false ∧ e = .returned (.tuple #[.pointer none, .bool false])) ∨ treeB E n = true ∧ ∃ rb B M, BrA w w' E n rb (rb + 1) B M ∧ e = .returned (.tuple #[ptr (chd E B n q.data.toList), .bool true])) ∧ Below w.heap.size w w') := branchAt_any E b o n cap q hq w hR hS hn hm hC
  clear hR hS hm hC
  go_enter Tryz.func16, Tryz.ntmps16
  go_wp2_with (go_at_call 49; refine HB.out.mono ?_; rintro e w1 ⟨h, hb⟩; rcases h with ⟨ht, rfl⟩ | ⟨ht, rb, B, M, hX, rfl⟩; rotate_left; rcases chd_id (B := B) (p := q.data.toList) hX.tr.asc with ⟨hc, hf⟩ | ⟨j, hj, hc, hf⟩; all_goals refine Hid.out ?_)
  · refine Lib.hid ?_
    have HE : Hid (feB E n q.data.toList = -1) := (feB_yes ht).trans hf
    clear hc hf hX ht
    unfold ptr
    go_wp2
    go_ret
    exact ⟨ret_int HE.out.symm, hb⟩
  · refine Lib.hid ?_
    have HE : Hid (feB E n q.data.toList = (j : Int)) := (feB_yes ht).trans hf
    have hcell : w1.cell? ⟨B j, 0, none⟩ = some (.int .i64 (j : Int)) := hX.br.num j hj
    clear hc hf hX ht
    unfold ptr
    go_wp2
    go_ret
    exact ⟨ret_int HE.out.symm, hb⟩
  · refine Lib.hid ?_
    have HE : Hid (feB E n q.data.toList = -1) := feB_no ht
    clear ht
    go_wp2
    go_ret
    exact ⟨ret_int HE.out.symm, hb⟩

end Go.Proofs.YtaoimkjcaienbaaGreatDoor.tt

namespace Go.Proofs.YtaoimkjcaienbaaGreatDoor.nb
open Go.RowKit Go.Shelf Go.Proofs.YtaoimkjcaienbaaGreatDoor.rt Go.Proofs.YtaoimkjcaienbaaGreatDoor.tt Go.Maps Go.Sort
attribute [local go_sem] Oper.semAt_some
set_option linter.unusedVariables false
set_option linter.unusedSimpArgs false

/-! ### numbers: the iterator over an entry and all below it -/

/-- What stays as it was for one who came where the heap ended at w's end. -/
theorem kq_own {β : Type} {n0 C : Nat} {w : World} (h0 : n0 ≤ w.heap.size) : OwnFrom w.heap.size (fun (_ : β) W => Kq n0 C w W) := by
  intro s W W' row h hg hr
  refine ⟨h.bel.grown hg (Nat.le_trans h0 h.bel.size) (fun j e => by have := (hr j e).1; omega), fun i x hi hx => ?_, fun i x hc hi hx => ?_⟩
  · have h1 := h.our i x hi hx
    have h2 := (Array.getElem?_eq_some_iff.1 hi).1
    exact (hg.block i (Array.getElem?_eq_some_iff.1 h1).1 (fun e => by have := (hr i e.symm).1; omega)).trans h1
  · have h1 := h.rc i x hc hi hx
    have h2 := (Array.getElem?_eq_some_iff.1 hi).1
    exact (hg.block i (Array.getElem?_eq_some_iff.1 h1).1 (fun e => by have := (hr i e.symm).1; omega)).trans h1
theorem Kq.walks {n0 C : Nat} {W W' : World} (h : Kq n0 C W W') : KeepsWalks W W' := ⟨h.bel.size, fun k o hk ho => h.our k o hk (.inl ho)⟩
theorem Kq.from {n0 C : Nat} {W W' : World} (h : Kq n0 C W W') {D : Nat} (hD : C ≤ D) : KeepsFrom D W W' := ⟨h.bel.size, fun k o hk hi ho => h.rc k o (by omega) hi ho⟩

/-- The marks that the loops have left, shut one by one on the way out. -/
def Marks (C : Nat) (W : World) : List Deferred → Prop
  | [] => True
  | d :: ds => (∃ D, d = { target := .collected D, args := #[] } ∧ C ≤ D ∧ W.heap[D]? = some (.deferred (some [])) ∧ ∀ d' ∈ ds, d'.target ≠ .collected D) ∧ Marks C W ds
theorem Marks.to {C : Nat} {W W' : World} : ∀ {ds : List Deferred}, Marks C W ds → (∀ D, C ≤ D → (∃ d ∈ ds, d.target = .collected D) → W.heap[D]? = some (.deferred (some [])) → W'.heap[D]? = some (.deferred (some []))) → Marks C W' ds
  | [], _, _ => trivial
  | d :: ds, ⟨⟨D, e, hC, hD, hn⟩, hm⟩, h => ⟨⟨D, e, hC, h D hC ⟨d, List.mem_cons_self, by rw [e]⟩ hD, hn⟩, hm.to fun D' hC' ⟨d', hd', e'⟩ => h D' hC' ⟨d', List.mem_cons_of_mem _ hd', e'⟩⟩
theorem Marks.kq {n0 C : Nat} {W W' : World} {ds : List Deferred} (h : Marks C W ds) (k : Kq n0 C W W') : Marks C W' ds := h.to fun D hC _ hD => k.rc D _ hC hD rfl
theorem Marks.lt {C : Nat} {W : World} : ∀ {ds : List Deferred}, Marks C W ds → ∀ d ∈ ds, ∀ D, d.target = .collected D → D < W.heap.size
  | d :: ds, ⟨⟨D, e, _, hD, _⟩, hm⟩, d', hd', D', e' => by
    rcases List.mem_cons.1 hd' with rfl | hd'
    · rw [e] at e'; cases e'; exact (Array.getElem?_eq_some_iff.1 hD).1
    · exact hm.lt d' hd' D' e'
theorem leaves_marks {F : Fence} {n : Nat} {P : Program} {fn : Func} {tmps : Array Value} {C : Nat} {v : Value} {I : World → Prop} (hI : ∀ (W : World) (D : Nat), I W → C ≤ D → W.heap[D]? = some (.deferred (some [])) → I (W.putObj D (.deferred none))) {R : Ending → World → Prop} (hres : ∀ W, (results fn tmps).run P W = .ok v W) (hR : ∀ W, I W → R (.returned v) W) :
    ∀ {ds : List Deferred} {W : World}, Marks C W ds → I W → LeavesInM F n P fn tmps R ds .returning W
  | [], W, _, hi => ⟨v, hres W, hR W hi⟩
  | d :: ds, W, ⟨⟨D, e, hC, hD, hn⟩, hm⟩, hi => by
    subst e
    refine ⟨by simp, .inl ⟨D, _, rfl, run_takeDeferred hD, leaves_marks hI hres hR (hm.to fun D' hC' ⟨d', hd', e'⟩ hD' => ?_) (hI W D hi hC hD)⟩⟩
    exact (World.putObj_heap_other (by rintro rfl; exact hn d' hd' e')).trans hD'

/-- The kid of a name. -/
def kidB (E : Nat → En) (n j : Nat) (x : List UInt8) : Nat := chd E (fun i => i) n (pth E j ++ [47] ++ x) - 1
theorem kid_of {E : Nat → En} {n j : Nat} {B : Nat → Nat} {x : List UInt8} (hA : Asc E n) (h : fM E B n (pth E j ++ [47]) x ≠ 0) : Kid E n j (kidB E n j x) ∧ pth E (kidB E n j x) = pth E j ++ [47] ++ x ∧ fM E B n (pth E j ++ [47]) x = B (kidB E n j x) + 1 := by
  unfold fM at h ⊢
  split at h
  · next hx =>
    rcases chd_cases E B n (pth E j ++ [47] ++ x) with ⟨c, hc, hp, e⟩ | ⟨_, e⟩
    · have hk : kidB E n j x = c := by unfold kidB; rw [chd_yes (B := fun i => i) hA hc hp]; rfl
      rw [hk, if_pos hx, e]
      exact ⟨⟨hc, x, hx, by rw [hp]; simp⟩, hp, rfl⟩
    · exact absurd e h
  · exact absurd rfl h
theorem of_kid {E : Nat → En} {n j c : Nat} {B : Nat → Nat} (hA : Asc E n) (h : Kid E n j c) : ∃ x, kidB E n j x = c ∧ fM E B n (pth E j ++ [47]) x ≠ 0 := by
  obtain ⟨hc, x, hx, hp⟩ := h
  have hp' : pth E c = pth E j ++ [47] ++ x := by rw [hp]; simp
  refine ⟨x, by unfold kidB; rw [chd_yes (B := fun i => i) hA hc hp']; rfl, ?_⟩
  unfold fM
  rw [if_pos hx, chd_yes hA hc hp']
  omega

theorem kids_of {E : Nat → En} {n j : Nat} {B : Nat → Nat} {D : DataW Unit} {left : Lit → Bool} {ss : List (List UInt8)} (hA : Asc E n) (hC : Collected D left ss) (hnz : ∀ x, Maps.has D (.string x) = true → fM E B n (pth E j ++ [47]) x ≠ 0) :
    (ss.map (kidB E n j)).Nodup ∧ ∀ c ∈ ss.map (kidB E n j), Kid E n j c := by
  constructor
  · refine List.pairwise_map.2 (hC.1.imp_of_mem fun {x y} hx hy hne e => hne ?_)
    have h1 := (kid_of (B := B) hA (hnz x ((hC.2 x).1 hx).1)).2.1
    have h2 := (kid_of (B := B) hA (hnz y ((hC.2 y).1 hy).1)).2.1
    rw [e, h2] at h1
    exact (List.append_cancel_left h1).symm
  · intro c hc
    obtain ⟨x, hx, rfl⟩ := List.mem_map.1 hc
    exact (kid_of (B := B) hA (hnz x ((hC.2 x).1 hx).1)).1
theorem kids_all {E : Nat → En} {n j : Nat} {B : Nat → Nat} {D : DataW Unit} {left : Lit → Bool} {ss : List (List UInt8)} (hA : Asc E n) (hC : Collected D left ss) (hnz : ∀ x, Maps.has D (.string x) = true → fM E B n (pth E j ++ [47]) x ≠ 0) (hat : ∀ x, D.atKey (.string x) (.lit (.int .i64 0)) = .lit (.int .i64 (fM E B n (pth E j ++ [47]) x : Int))) (hl : ∀ kl, left kl = false) (c : Nat) :
    c ∈ ss.map (kidB E n j) ↔ Kid E n j c := by
  refine ⟨(kids_of hA hC hnz).2 c, fun h => ?_⟩
  obtain ⟨x, hx, hf⟩ := of_kid (B := B) hA h
  refine List.mem_map.2 ⟨x, (hC.2 x).2 ⟨?_, hl _⟩, hx⟩
  cases hh : Maps.has D (.string x) with
  | true => rfl
  | false =>
    have := (atKey_of_not_has hh (.lit (.int .i64 0))).symm.trans (hat x)
    simp at this
    omega

/-- A list of numbers, as ints. -/
def ints (l : List Nat) : List Int := l.map fun (i : Nat) => (i : Int)
theorem ints_len (l : List Nat) : (ints l).length = l.length := by simp [ints]
theorem ints_perm {l l' : List Nat} (h : l.Perm l') : (ints l).Perm (ints l') := h.map _
theorem ints_app (l l' : List Nat) : ints (l ++ l') = ints l ++ ints l' := by simp [ints]
theorem seen_snoc (E : Nat → En) (n j : Nat) (ks : List Nat) (c : Nat) : seenL E n j (ks ++ [c]) = seenL E n j ks ++ subL E n c := by simp [seenL]

theorem inum_any (p : Option Addr) (w : World) :
    Calls Tryz.prog 55 #[.pointer p] w fun e w' => e = .returned (.func (.func 89) #[] #[.pointer (some ⟨w.heap.size, 0, none⟩)]) ∧ w' = w.alloc (.cells #[.pointer p] 77) := by
  go_enter Tryz.func55, Tryz.ntmps55
  go_wp2
  go_ret
  exact ⟨rfl, rfl⟩

/-- A leaf has no kids. -/
theorem no_kid {E : Nat → En} {n j : Nat} (hT : Tr E n) (hj : j < n) (hk : ¬ (E j).kind = 1) (c : Nat) : ¬ Kid E n j c := by
  rintro ⟨hc, x, hx, hp⟩
  obtain ⟨m, hm, hpm, hkm⟩ := hT.2.2 c hc (by rw [hp, up_kid hx]; exact path_nn hT hj)
  rw [hp, up_kid hx] at hpm
  obtain rfl := asc_one hT.asc (by omega) hj hpm
  exact hk hkm

end Go.Proofs.YtaoimkjcaienbaaGreatDoor.nb

namespace Go.Proofs.YtaoimkjcaienbaaGreatDoor.nb
open Go.RowKit Go.Shelf Go.Proofs.YtaoimkjcaienbaaGreatDoor.rt Go.Proofs.YtaoimkjcaienbaaGreatDoor.tt Go.Maps Go.Sort
attribute [local go_sem] Oper.semAt_some
set_option linter.unusedVariables false
set_option linter.unusedSimpArgs false

/-! ### numbers$1: the iterator -/

theorem Kq.drew {n0 C : Nat} {A D : World} (h : Kq n0 C A D) : Kq n0 C A D.drew := ⟨h.bel.drew, h.our, h.rc⟩
theorem Kq.undrew {n0 C : Nat} {A D : World} (h : Kq n0 C A.drew D) : Kq n0 C A D := ⟨((Below.refl _ A).drew).trans h.bel, h.our, h.rc⟩

set_option maxRecDepth 100000 in
set_option maxHeartbeats 4000000 in
theorem num_seq {E : Nat → En} {n rb rm N : Nat} {B M : Nat → Nat} (hT : Tr E n) {wB : World} (hBr : Br wB E n rb rm N B M) :
    ∀ (d j : Nat), j < n → n - j ≤ d → ∀ (bx : Nat) (w : World), Below wB.heap.size wB w → w.heap[bx]? = some (.cells #[.pointer (some ⟨B j, 0, none⟩)] 77 (0, 0)) →
      SeqO Tryz.prog 89 #[.pointer (some ⟨bx, 0, none⟩)] wB.heap.size (fun xs => xs.Perm (ints (subL E n j))) (subL E n j).length w := by
  intro d
  induction d with
  | zero => intro j hj hd; omega
  | succ d ih =>
  intro j hj hd bx w hB hbx n' l J W hK hsz hl hOwn hY h0
  have hb0 : Below wB.heap.size wB W := hB.trans hK.bel
  have hbxW := hK.our bx _ hbx (.inr ⟨_, _, rfl, .inr rfl⟩)
  have hBrW : ∀ W', Below wB.heap.size wB W' → Br W' E n rb rm N B M := fun W' h => hBr.below h
  have hin : j ∈ subL E n j := mem_sub.2 ⟨hj, .inl rfl⟩
  have hpos : 0 < (subL E n j).length := List.length_pos_of_mem hin
  refine callsIn_wide.2 ((callsIn_wide (n := 3)).1 ?_)
  have hY' : ∀ pre x W1, J pre W1 → pre.length < (subL E n j).length → YieldAt Fence.wide (3 - 1) Tryz.prog l #[.int .i64 x] W1 fun e W' => e = .returned (.bool true) ∧ J (pre ++ [x]) W' ∧ Kq wB.heap.size W.heap.size W1 W' := fun pre x W1 h1 h2 => yield_wide (hY pre x W1 h1 h2)
  clear hY
  have HY : Hid (∀ pre x W1, J pre W1 → pre.length < (subL E n j).length → YieldAt Fence.wide (3 - 1) Tryz.prog l #[.int .i64 x] W1 fun e W' => e = .returned (.bool true) ∧ J (pre ++ [x]) W' ∧ Kq wB.heap.size W.heap.size W1 W') := hY'
  clear hY'
  have HBR : Hid (∀ W', Below wB.heap.size wB W' → Br W' E n rb rm N B M) := hBrW
  have HIH : Hid (∀ (j : Nat), j < n → n - j ≤ d → ∀ (bx : Nat) (w : World), Below wB.heap.size wB w → w.heap[bx]? = some (.cells #[.pointer (some ⟨B j, 0, none⟩)] 77 (0, 0)) →
      SeqO Tryz.prog 89 #[.pointer (some ⟨bx, 0, none⟩)] wB.heap.size (fun xs => xs.Perm (ints (subL E n j))) (subL E n j).length w) := ih
  have HOWN : Hid (OwnFrom W.heap.size J) := hOwn
  have HBW : Hid (Below wB.heap.size wB W) := hb0
  have HPOS : Hid (0 < (subL E n j).length) := hpos
  clear ih hBrW hOwn hin hpos hBr hK hB hbx
  refine callsIn_of_wp_marks Tryz.func89 rfl trivial ?_ rfl
  simp only [Tryz.ntmps89, List.size_toArray, List.length_cons, List.length_nil, Nat.reduceAdd, Nat.reduceSub, Array.replicate_succ, Array.replicate_zero, List.push_toArray, List.append_toArray, List.nil_append, List.cons_append]
  gi_wp2
  have hm : Tryz.prog.follows .mixedOrders = true := by kernel_rfl
  have hm2 : Tryz.prog.follows .lateStores = true := by kernel_rfl
  have hbp : (W.alloc (.cells #[.func (.yield l) #[] #[]] 119)).heap[W.heap.size]? = some (.cells #[.func (.yield l) #[] #[]] 119 (0, 0)) := World.alloc_heap_new W _
  have hbb : (W.alloc (.cells #[.func (.yield l) #[] #[]] 119)).heap[bx]? = some (.cells #[.pointer (some ⟨B j, 0, none⟩)] 77 (0, 0)) := (Below.heap_alloc W _ bx (Array.getElem?_eq_some_iff.1 hbxW).1).trans hbxW
  have hb1 : Below wB.heap.size wB (W.alloc (.cells #[.func (.yield l) #[] #[]] 119)) := HBW.out.alloc HBW.out.size _
  have hj1 : J [] (W.alloc (.cells #[.func (.yield l) #[] #[]] 119)) := HOWN.out.alloc _ h0
  have hs1 : (W.alloc (.cells #[.func (.yield l) #[] #[]] 119)).heap.size = W.heap.size + 1 := by simp
  obtain ⟨W1, hW1⟩ : ∃ W1, W.alloc (.cells #[.func (.yield l) #[] #[]] 119) = W1 := ⟨_, rfl⟩
  rw [hW1] at hbp hbb hb1 hj1 hs1 ⊢
  clear hW1
  have hc0 := (HBR.out W1 hb1).num j hj
  have hcp : W1.cell? ⟨W.heap.size, 0, none⟩ = some (.func (.yield l) #[] #[]) := by simp [World.cell?, hbp]
  have hcb : W1.cell? ⟨bx, 0, none⟩ = some (.pointer (some ⟨B j, 0, none⟩)) := by simp [World.cell?, hbb]
  obtain ⟨fn, tmps, assign, body, hy, hR⟩ := HY.out [] (j : Int) W1.drew (HOWN.out _ _ _ none hj1 ⟨rfl, rfl, rfl, Nat.le_refl _, fun _ _ _ => rfl⟩ (fun r e => by cases e)) HPOS.out
  refine wpIn_mono (Q := Exit.then (fun a' W2 => (∃ x7 x8 x9, a' = { tmps := #[.func (.yield l) #[] #[], .pointer (some ⟨bx, 0, none⟩), .pointer (some ⟨W.heap.size, 0, none⟩), undef, undef, undef, .func (.yield l) #[] #[], x7, x8, x9, .int .i64 (j : Int), .bool true, .bool false, undef, undef, undef, undef, undef, undef, undef, undef, undef, undef, undef, undef, undef, undef, undef, undef], defers := [] }) ∧ J [(j : Int)] W2 ∧ Kq wB.heap.size W.heap.size W1 W2) (fun _ _ _ => False)) ?_ ?_
  · gi_region_with_o (refine hR.mono ?_; rintro e W3 ⟨rfl, hJ3, hk3⟩)
    all_goals exact ⟨⟨_, _, _, rfl⟩, hJ3, hk3.undrew⟩
  clear hR hy
  intro e a' W2 h
  have he : e = .normal := by cases e <;> first | rfl | exact h.elim
  subst he
  obtain ⟨⟨x7, x8, x9, rfl⟩, hJ2, hk2⟩ := h
  have hbp2 := hk2.our _ _ hbp (.inr ⟨_, _, rfl, .inl rfl⟩)
  have hbb2 := hk2.our _ _ hbb (.inr ⟨_, _, rfl, .inr rfl⟩)
  have hb2 := hb1.trans hk2.bel
  have hcb2 : W2.cell? ⟨bx, 0, none⟩ = some (.pointer (some ⟨B j, 0, none⟩)) := by simp [World.cell?, hbb2]
  have hs2 := hk2.bel.size
  clear hbp hbb hb1 hj1 hc0 hcp hcb hk2
  by_cases hkd : (E j).kind = 1
  · obtain ⟨hcm, D, hown, hat0, hnz⟩ := (HBR.out W2 hb2).dir j hj hkd
    gi_wp2_with (first
      | (gi_at_range; refine wpListIn_range_own _ rfl _ 80 rfl 9 77 (string_keyed Tryz.underlying9) Tryz.underlying80 rdP (M j) N _ rfl hown ?_; intro W4 hrg4 hg4 hs4)
      | gi_in)
    refine wpIn_loop (I := fun a W5 => ∃ x4 x18 x19 x20 x21 x22 x23 ds, a = { tmps := #[.func (.yield l) #[] #[], .pointer (some ⟨bx, 0, none⟩), .pointer (some ⟨W.heap.size, 0, none⟩), undef, x4, undef, .func (.yield l) #[] #[], x7, x8, x9, .int .i64 (j : Int), .bool true, .bool false, .pointer (some ⟨B j, 0, none⟩), .pointer (some ⟨B j, 0, none⟩), .pointer (some ⟨B j, 1, none⟩), .map (some (M j)), .pointer (some ⟨W2.heap.size, 0, none⟩), x18, x19, x20, x21, x22, x23, undef, undef, undef, undef, undef], defers := ds } ∧ Marks W.heap.size W5 ds ∧ Below wB.heap.size wB W5 ∧ W5.heap[W.heap.size]? = some (.cells #[.func (.yield l) #[] #[]] 119 (0, 0)) ∧ W.heap.size ≤ W5.heap.size ∧
      ∃ left cnt ss pre, W5.ranges Tryz.prog 9 rdP (M j) W2.heap.size N D left cnt ∧ Collected D left ss ∧ pre.Perm (ints (seenL E n j (ss.map (kidB E n j)))) ∧ J pre W5) (fun _ W5 => W5.rangeLeft (M j) W2.heap.size) ?start ?round
    case start =>
      refine ⟨_, _, _, _, _, _, _, [], rfl, trivial, ?_, ?_, by omega, _, _, [], [(j : Int)], hrg4, Collected.start D, ?_, HOWN.out _ _ _ none hJ2 hg4 (fun r e => by cases e)⟩
      · exact hb2.grown hg4 hb2.size (fun j e => by cases e)
      · exact (hg4.block _ (by omega) (by simp)).trans hbp2
      · exact List.Perm.refl _
    case round =>
      rintro a W5 ⟨x4, x18, x19, x20, x21, x22, x23, ds, rfl, hmk, hb5, hbp5, hs5, left, cnt, ss, pre, hrg, hC, hpp, hJ5⟩
      have HMK : Hid (Marks W.heap.size W5 ds) := hmk
      have HPP : Hid (pre.Perm (ints (seenL E n j (ss.map (kidB E n j))))) := hpp
      have HC : Hid (Collected D left ss) := hC
      have HNZ : Hid (∀ x, Maps.has D (.string x) = true → fM E B n (pth E j ++ [47]) x ≠ 0) := hnz
      have HSA : Hid (∀ ks : List Nat, (∀ c, c ∈ ks ↔ Kid E n j c) → ks.Nodup → (seenL E n j ks).Perm (subL E n j)) := fun ks h1 h2 => seen_all hT hj h1 h2
      clear hmk hpp hC
      gi_wp2_with (first
        | (gi_at_next; refine wpListIn_next_ranges _ rfl _ rfl 9 (string_keyed Tryz.underlying9) rdP encStr id (fun key kl hk => by obtain ⟨x, hx, _⟩ := Maps.keyOf_str Tryz.underlying9 hk; exact ⟨x, hx⟩) (fun v _ _ => ⟨v, rfl⟩) (M j) W2.heap.size N _ _ _ rfl hrg ?_ ?_)
        | gi_in)
      · intro hc0 hl0
        gi_wp2
        exact leaves_marks (I := J pre) (fun W D h hC hD => HOWN.out.putObj _ h hC hD rfl) (fun W => results_none rfl _ _ _) (fun W h => ⟨⟨_, rfl⟩, pre, HPP.out.trans (ints_perm (HSA.out _ (kids_all hT.asc HC.out HNZ.out hat0 hl0) (kids_of hT.asc HC.out HNZ.out).1)), h⟩) HMK.out hJ5
      · intro x c kl y1 ps w2 cnt2 hkey hlk hv hat hrg2 hlt hg2 hsz2 hen
        obtain ⟨x', ex, rfl, hxl⟩ := Maps.keyOf_str Tryz.underlying9 hkey
        obtain rfl : x = x' := encStr_inj ex
        obtain ⟨hkid, hkp, hkf⟩ := kid_of hT.asc (B := B) (HNZ.out x (has_true_of_atKey hat))
        have hy1 : y1 = .lit (.int .i64 (fM E B n (pth E j ++ [47]) x : Int)) := (hat _).symm.trans (hat0 x)
        rw [hy1] at hv
        have hcv : c = .pointer (some ⟨B (kidB E n j x), 0, none⟩) := by have := rdP_inv hv; rw [hkf] at this; exact this
        subst hcv
        have HKID : Hid (Kid E n j (kidB E n j x)) := hkid
        have HSZ2 : Hid (w2.heap.size = W5.heap.size) := hsz2
        clear hv hy1 hat0 hkf hkp hkid hsz2
        gi_wp2_with (refine ⟨trivial, ?_⟩; gi_at_call 55; refine (callsIn_wide.2 (inum_any _ _)).mono ?_; rintro e w' ⟨rfl, rfl⟩)
        have hsz2 := HSZ2.out
        have hsB := HBW.out.size
        have hlt5 : W.heap.size < W5.heap.size := (Array.getElem?_eq_some_iff.1 hbp5).1
        have hbw2 : Below wB.heap.size wB w2 := hb5.grown hg2 hb5.size (fun j e => by cases e; omega)
        have hb6 : Below wB.heap.size wB (w2.alloc (.cells #[.pointer (some ⟨B (kidB E n j x), 0, none⟩)] 77)) := hbw2.alloc hbw2.size _
        have hbp6 : (w2.alloc (.cells #[.pointer (some ⟨B (kidB E n j x), 0, none⟩)] 77)).heap[W.heap.size]? = some (.cells #[.func (.yield l) #[] #[]] 119 (0, 0)) := (Below.heap_alloc w2 _ _ (by omega)).trans ((hg2.block _ hlt5 (fun e => by have := Option.some.inj e; omega)).trans hbp5)
        have hbx6 : (w2.alloc (.cells #[.pointer (some ⟨B (kidB E n j x), 0, none⟩)] 77)).heap[w2.heap.size]? = some (.cells #[.pointer (some ⟨B (kidB E n j x), 0, none⟩)] 77 (0, 0)) := World.alloc_heap_new w2 _
        have hj6 : J pre (w2.alloc (.cells #[.pointer (some ⟨B (kidB E n j x), 0, none⟩)] 77)) := HOWN.out.alloc _ (HOWN.out _ _ _ _ hJ5 hg2 (fun r e => by cases e; exact ⟨by omega, by obtain ⟨o, h1, h2⟩ := hrg.iter_walk; exact ⟨o, h1, by cases o <;> first | rfl | simp [Obj.isWalk] at h2⟩⟩))
        have hrg6 := hrg2.alloc (.cells #[.pointer (some ⟨B (kidB E n j x), 0, none⟩)] 77)
        have hmk6 : Marks W.heap.size (w2.alloc (.cells #[.pointer (some ⟨B (kidB E n j x), 0, none⟩)] 77)) ds := HMK.out.to fun D hD _ h => (Below.heap_alloc w2 _ _ (by have := (Array.getElem?_eq_some_iff.1 h).1; omega)).trans ((hg2.block _ (Array.getElem?_eq_some_iff.1 h).1 (fun e => by cases e; obtain ⟨o, h1, h2⟩ := hrg.iter_walk; rw [h] at h1; cases h1; cases h2)).trans h)
        have hs6 : (w2.alloc (.cells #[.pointer (some ⟨B (kidB E n j x), 0, none⟩)] 77)).heap.size = w2.heap.size + 1 := by simp
        have hleft : w2.rangeLeft (M j) W2.heap.size < W5.rangeLeft (M j) W2.heap.size := by rw [hrg2.left_eq, hrg.left_eq]; exact hlt
        have hsW : W.heap.size ≤ (w2.alloc (.cells #[.pointer (some ⟨B (kidB E n j x), 0, none⟩)] 77)).heap.size := by omega
        obtain ⟨W6, hW6⟩ : ∃ W6, w2.alloc (.cells #[.pointer (some ⟨B (kidB E n j x), 0, none⟩)] 77) = W6 := ⟨_, rfl⟩
        rw [hW6] at hb6 hbp6 hbx6 hj6 hrg6 hmk6 hs6 hsW ⊢
        clear hW6 hsz2
        have HMK6 : Hid (Marks W.heap.size W6 ds) := hmk6
        have HRG6 : Hid (W6.ranges Tryz.prog 9 rdP (M j) W2.heap.size N D (fun z => left z && !z.sameKey (.string x)) cnt2) := hrg6
        have HLE : Hid (cnt2 < W5.rangeLeft (M j) W2.heap.size) := by rw [hrg.left_eq]; exact hlt
        have hkd2 := kid_gt hT hj HKID.out
        obtain ⟨hnd, hks⟩ := kids_of (B := B) hT.asc (HC.out.step hlk hat) HNZ.out
        have hlen : pre.length + (subL E n (kidB E n j x)).length ≤ (subL E n j).length := by
          have h1 := seen_le hT hj hks hnd
          rw [List.map_append, List.map_cons, List.map_nil, seen_snoc, List.length_append] at h1
          have h2 := HPP.out.length_eq
          rw [ints_len] at h2
          omega
        refine range_o (by decide) (gf := 89) (lb := #[.pointer (some ⟨w2.heap.size, 0, none⟩)]) rfl (enters_of Tryz.func89 (by kernel_rfl) rfl)
          (HIH.out (kidB E n j x) HKID.out.1 (by omega) w2.heap.size W6 hb6 hbx6) hb6.size (Kq.refl _ _ _) (Nat.le_refl _) rfl
          (fun pre' W' => J (pre ++ pre') W' ∧ Kq wB.heap.size W.heap.size W6 W')
          (fun s A A' row h hg hr => ⟨HOWN.out _ A A' row h.1 hg (fun r e => ⟨by have := (hr r e).1; omega, (hr r e).2⟩), kq_own hb6.size s A A' row h.2 hg hr⟩)
          ⟨by rw [List.append_nil]; exact hj6, Kq.refl _ _ _⟩
          (fun y => { tmps := #[.func (.yield l) #[] #[], .pointer (some ⟨bx, 0, none⟩), .pointer (some ⟨W.heap.size, 0, none⟩), undef, .pointer (some ⟨B (kidB E n j x), 0, none⟩), .int .i64 y, .func (.yield l) #[] #[], x7, x8, x9, .int .i64 (j : Int), .bool true, .bool false, .pointer (some ⟨B j, 0, none⟩), .pointer (some ⟨B j, 0, none⟩), .pointer (some ⟨B j, 1, none⟩), .map (some (M j)), .pointer (some ⟨W2.heap.size, 0, none⟩), .tuple #[.bool true, encStr x, .pointer (some ⟨B (kidB E n j x), 0, none⟩)], .bool true, .tuple #[encStr x, .pointer (some ⟨B (kidB E n j x), 0, none⟩)], .pointer (some ⟨B (kidB E n j x), 0, none⟩), .pointer (some ⟨B (kidB E n j x), 0, none⟩), .func (.func 89) #[] #[.pointer (some ⟨w2.heap.size, 0, none⟩)], .int .i64 y, undef, undef, undef, undef], defers := [] }) ?assign ?body ?done
        case assign =>
          intro l2 y W7 K hK
          gi_wp2
          exact hK
        case body =>
          rintro l2 pre' y W7 ⟨hj7, hk7⟩ hlt7 hn7
          have hbp7 := hk7.our _ _ hbp6 (.inr ⟨_, _, rfl, .inl rfl⟩)
          have hcp7 : W7.cell? ⟨W.heap.size, 0, none⟩ = some (.func (.yield l) #[] #[]) := by simp [World.cell?, hbp7]
          obtain ⟨fn, tmps, assign, body, hy, hR⟩ := HY.out (pre ++ pre') y W7 hj7 (by rw [List.length_append]; omega)
          gi_wp2
          refine RoundIn.mono (R := fun e W' => e = .returned (.bool true) ∧ J (pre ++ pre' ++ [y]) W' ∧ Kq wB.heap.size W.heap.size W7 W') ⟨hR.1, fun c cs _ => hR.2 c cs (room_wide _)⟩ ?_
          rintro e W8 ⟨rfl, hj8, hk8⟩
          gi_wp2
          exact ⟨hk8.from (by omega), hk8.mono (by omega), by have := hk8.bel.size; omega, by rw [← List.append_assoc]; exact hj8, hk7.trans hk8⟩
        case done =>
          rintro D1 xs W8 hD1 hS ⟨hj8, hk8⟩ hD8
          gi_wp2
          refine ⟨⟨_, _, _, _, _, _, _, _, rfl, ⟨⟨D1, rfl, by omega, hD8, fun d' hd' e' => by have := HMK6.out.lt d' hd' D1 e'; omega⟩, HMK6.out.kq hk8⟩, hb6.trans hk8.bel, hk8.our _ _ hbp6 (.inr ⟨_, _, rfl, .inl rfl⟩), by have := hk8.bel.size; omega, _, _, ss ++ [x], pre ++ xs, HRG6.out.of_walks hk8.walks, HC.out.step hlk hat, ?_, hj8⟩, ?_⟩
          · rw [List.map_append, List.map_cons, List.map_nil, seen_snoc, ints_app]
            exact HPP.out.append hS
          · rw [(HRG6.out.of_walks hk8.walks).left_eq]; exact HLE.out
  · have hcm := (HBR.out W2 hb2).leaf j hj hkd
    have HSA : Hid ((ints [j]).Perm (ints (subL E n j))) := ints_perm (seen_all hT hj (ks := []) (fun c => ⟨fun h => (List.not_mem_nil h).elim, fun h => (no_kid hT hj hkd c h).elim⟩) List.nodup_nil)
    have hrn := run_range_nilMap (P := Tryz.prog) W2 80 9 77 Tryz.underlying80
    have hj4 : J [(j : Int)] (W2.alloc (.mapIter none 0 #[] 0)) := HOWN.out.alloc _ hJ2
    have hnx := fun ty => run_next_nilMap (P := Tryz.prog) W2 ty 0 0 #[]
    gi_wp2
    refine wpIn_loop_rounds 1 ?_
    show Code.wpIn _ _ _ _ _ _ _
    gi_wp2
    exact leaves_marks (C := W.heap.size) (I := J [(j : Int)]) (ds := []) (fun W D h hC hD => HOWN.out.putObj _ h hC hD rfl) (fun W => results_none rfl _ _ _) (fun W h => ⟨⟨_, rfl⟩, _, HSA.out, h⟩) trivial hj4

end Go.Proofs.YtaoimkjcaienbaaGreatDoor.nb
