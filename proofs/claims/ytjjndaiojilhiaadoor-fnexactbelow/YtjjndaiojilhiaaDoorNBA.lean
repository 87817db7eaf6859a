import Derived.Test.YtjjndaiojilhiaaDoorRT
import Derived.Test.YtjjndaiojilhiaaDoorTR
namespace Go.Proofs.YtjjndaiojilhiaaDoor.nb
open Go.RowKit rt
set_option linter.unusedVariables false
set_option linter.unusedSimpArgs false

/-! ### A loop over an iterator that calls itself: what the rounds keep for it, its contract, the loop -/

/-- What an iterator makes for itself: walks, the boxes of a yield and of a branch. -/
def Our (o : Obj) : Prop := o.isWalk = true ∨ ∃ (v : Value) (t : TypeId), o = .cells #[v] t (0, 0) ∧ (t = 57 ∨ t = 40)
/-- What the rounds keep for an iterator that was called where the heap ended at C: what lies below n0, what iterators made for themselves, and whatever is no cells from C on. -/
structure Kq (n0 C : Nat) (W W' : World) : Prop where
  bel : Below n0 W W'
  our : ∀ (k : Nat) (o : Obj), W.heap[k]? = some o → Our o → W'.heap[k]? = some o
  rc : ∀ (k : Nat) (o : Obj), C ≤ k → W.heap[k]? = some o → o.isCells = false → W'.heap[k]? = some o
theorem Kq.refl (n0 C : Nat) (W : World) : Kq n0 C W W := ⟨Below.refl _ _, fun _ _ h _ => h, fun _ _ _ h _ => h⟩
theorem Kq.trans {n0 C : Nat} {A B D : World} (h : Kq n0 C A B) (k : Kq n0 C B D) : Kq n0 C A D := ⟨h.bel.trans k.bel, fun i o hi ho => k.our i o (h.our i o hi ho) ho, fun i o hc hi ho => k.rc i o hc (h.rc i o hc hi ho) ho⟩
theorem Kq.mono {n0 C C' : Nat} {A B : World} (h : Kq n0 C A B) (hC : C ≤ C') : Kq n0 C' A B := ⟨h.bel, h.our, fun i o hc hi ho => h.rc i o (by omega) hi ho⟩
theorem Kq.alloc {n0 C : Nat} {A B : World} (h : Kq n0 C A B) (h0 : n0 ≤ B.heap.size) (o : Obj) : Kq n0 C A (B.alloc o) := ⟨h.bel.alloc h0 o, fun i x hi hx => (Below.heap_alloc B o i (Array.getElem?_eq_some_iff.1 (h.our i x hi hx)).1).trans (h.our i x hi hx), fun i x hc hi hx => (Below.heap_alloc B o i (Array.getElem?_eq_some_iff.1 (h.rc i x hc hi hx)).1).trans (h.rc i x hc hi hx)⟩
/-- One block turns that is none of these. -/
theorem Kq.put {n0 C : Nat} {A B B' : World} {r : Nat} (h : Kq n0 C A B) (hg : B.grownBy B' (some r)) (h0 : n0 ≤ r) (hs : n0 ≤ B.heap.size) (ho : ∀ o, B.heap[r]? = some o → ¬ Our o) (hc : ∀ o, B.heap[r]? = some o → C ≤ r → o.isCells = true) : Kq n0 C A B' := by
  refine ⟨h.bel.grown hg hs (fun k hk => by cases hk; exact h0), fun i x hi hx => ?_, fun i x hcc hi hx => ?_⟩
  · have hB := h.our i x hi hx
    exact (hg.block i (Array.getElem?_eq_some_iff.1 hB).1 (fun e => by cases e; exact ho x hB hx)).trans hB
  · have hB := h.rc i x hcc hi hx
    exact (hg.block i (Array.getElem?_eq_some_iff.1 hB).1 (fun e => by cases e; have := hc x hB hcc; rw [hx] at this; cases this)).trans hB

theorem yield_wide {P : Program} {m m' l : Nat} {args : Array Value} {W : World} {R : Ending → World → Prop} (h : YieldAt Fence.wide m P l args W R) : YieldAt Fence.wide m' P l args W R := by
  obtain ⟨fn, tmps, assign, body, hy, hR⟩ := h
  exact ⟨fn, tmps, assign, body, hy, hR.1, fun c cs _ => hR.2 c cs (room_wide _)⟩

/-- An iterator that gives some list of numbers, made in the world w. -/
def SeqO (P : Program) (g : Nat) (lb : Array Value) (n0 : Nat) (S : List Int → Prop) (N : Nat) (w : World) : Prop :=
  ∀ (n l : Nat) (J : List Int → World → Prop) (W : World), Kq n0 w.heap.size w W → w.heap.size ≤ W.heap.size → l < W.heap.size → OwnFrom W.heap.size J →
    (∀ pre x W1, J pre W1 → pre.length < N → YieldAt Fence.wide (n - 1) P l #[.int .i64 x] W1 fun e W' => e = .returned (.bool true) ∧ J (pre ++ [x]) W' ∧ Kq n0 W.heap.size W1 W') →
    J [] W → CallsIn Fence.wide n P g (#[.func (.yield l) #[] #[]] ++ lb) W fun e W' => (∃ v, e = .returned v) ∧ ∃ xs, S xs ∧ J xs W'

theorem not_our_loop (r : Loop) : ¬ Our (.loop r) := by
  rintro (h | ⟨v, t, h, _⟩)
  · cases h
  · cases h

/-- The loop over it. -/
theorem range_o {n : Nat} {P : Program} {g : Operand} {ps : Array Tmp} {assign body : Code} {Q : Exit → Act → World → Prop} {a : Act} {w : World} (h1 : 1 ≤ n) {gf : Nat} {lb : Array Value}
    (hg : a.eval g = .func (.func gf) #[] lb) (eg : ∀ args w, (callFunc gf args).run P w = .ok (.enter gf args) w) {n0 : Nat} {S : List Int → Prop} {N : Nat} {w0 : World} (hseq : SeqO P gf lb n0 S N w0)
    (hn0 : n0 ≤ w0.heap.size) (hw0 : Kq n0 w0.heap.size w0 w) (hsz : w0.heap.size ≤ w.heap.size)
    (hps : ps.size = 1) (I : List Int → World → Prop) (hI : OwnFrom w.heap.size I) (h0 : I [] w) (a1 : Int → Act)
    (hassign : ∀ (l : Nat) (x : Int) (W : World) (K : Act → World → Prop), K (a1 x) W → assign.wpIn (Fence.wide.inRound l) (n - 1 - 1) P (Exit.then K (fun _ _ _ => False)) { tmps := (ps.zip #[.int .i64 x]).foldl (fun t (p, v) => t.setIfInBounds p v) a.tmps, defers := [] } W)
    (hbody : ∀ (l : Nat) (pre : List Int) (x : Int) (W : World), I pre W → pre.length < N → n0 ≤ W.heap.size → body.wpIn (Fence.wide.inRound l) (n - 1 - 1) P (fun e _ W' => KeepsFrom w.heap.size W W' ∧ e = .normal ∧ Kq n0 (w.heap.size + 2) W W' ∧ n0 ≤ W'.heap.size ∧ I (pre ++ [x]) W') (a1 x) W)
    (hdone : ∀ (D : Nat) (xs : List Int) (W : World), w.heap.size ≤ D → S xs → I xs W → W.heap[D]? = some (.deferred (some [])) → Q .normal { a with defers := { target := .collected D, args := #[] } :: a.defers } W) :
    (Code.rangeFunc g ps assign body).wpIn Fence.wide n P Q a w := by
  refine wpIn_rangeFunc fun fn hfn => ?_
  obtain ⟨r, hr⟩ : ∃ r : Loop, r = { state := .ready, pending := none, fn := fn, tmps := a.tmps, params := ps, assign := assign, body := body, defers := w.heap.size } := ⟨_, rfl⟩
  obtain ⟨W1, hW1⟩ : ∃ W1, (w.alloc (.deferred (some []))).alloc (.loop r) = W1 := ⟨_, rfl⟩
  have hB1 : Bk w.heap.size r W1 := by
    rw [← hW1]
    refine ⟨?_, (Below.heap_alloc _ _ _ (by simp)).trans (World.alloc_heap_new w _)⟩
    have := World.alloc_heap_new (w.alloc (.deferred (some []))) (.loop r)
    rwa [World.size_alloc] at this
  have hI1 : I [] W1 := by rw [← hW1]; exact hI.alloc _ (hI.alloc _ h0)
  have hk1 : Kq n0 w0.heap.size w0 W1 := by rw [← hW1]; exact (hw0.alloc (by omega) _).alloc (by simp; omega) _
  have hs1 : W1.heap.size = w.heap.size + 2 := by rw [← hW1]; simp
  refine ⟨w.heap.size + 1, [{ target := .collected w.heap.size, args := #[] }], W1, { target := .fn (.func gf) lb, args := #[.func (.yield (w.heap.size + 1)) #[] #[]] }, W1, gf, #[.func (.yield (w.heap.size + 1)) #[] #[]] ++ lb, W1, ?_, ?_, fun _ _ => trivial, ?_, fun _ => h1, ?_⟩
  · rw [← hW1, hr]; exact run_enterLoop_outer _ _ _ _ _
  · simp only [resolve, hg]
    simp [go_sem]
  · simp [invoke, go_sem, eg]
  · have hOB : ∀ (s : List Int) (A B : World) (row : Option Nat), (I s A ∧ Bk w.heap.size r A ∧ n0 ≤ A.heap.size) → A.grownBy B row → (∀ q, row = some q → W1.heap.size ≤ q ∧ ∃ o : Obj, A.heap[q]? = some o ∧ o.isCells = false) → (I s B ∧ Bk w.heap.size r B ∧ n0 ≤ B.heap.size) := fun s A B row h hg hrow => by
      refine ⟨hI s A B row h.1 hg (fun q e => ⟨by have := (hrow q e).1; omega, (hrow q e).2⟩), ⟨?_, ?_⟩, Nat.le_trans h.2.2 hg.size⟩
      · exact (hg.block _ (Array.getElem?_eq_some_iff.1 h.2.1.lo).1 (fun e => by have := (hrow _ e.symm).1; omega)).trans h.2.1.lo
      · exact (hg.block _ (Array.getElem?_eq_some_iff.1 h.2.1.de).1 (fun e => by have := (hrow _ e.symm).1; omega)).trans h.2.1.de
    refine (hseq (n - 1) (w.heap.size + 1) (fun pre W => I pre W ∧ Bk w.heap.size r W ∧ n0 ≤ W.heap.size) W1 hk1 (by omega) (by omega) hOB ?_ ⟨hI1, hB1, by omega⟩).mono ?_
    · rintro pre x W ⟨hi, hB, hn⟩ hp
      refine round_t hB (by rw [hr]) (by trivial) _ (by rw [hr]; simp [hps]) (a1 x) (fun K hK => by rw [hr]; exact hassign _ x W K hK) ?_
      have hI2 : I pre (W.putObj (w.heap.size + 1) (.loop { r with state := .busy })) := hI.putObj _ hi (by omega) hB.lo rfl
      have hsz2 : (W.putObj (w.heap.size + 1) (.loop { r with state := .busy })).heap.size = W.heap.size := by simp [World.putObj]
      have hq1 : Kq n0 (w.heap.size + 2) W (W.putObj (w.heap.size + 1) (.loop { r with state := .busy })) := (Kq.refl _ _ W).put (grownBy_putObj' W _ _) (by omega) hn (fun o ho => by rw [hB.lo] at ho; cases ho; exact not_our_loop _) (fun o ho hc => by omega)
      have hbd := hbody (w.heap.size + 1) pre x _ hI2 hp (by omega)
      have hrb : body = r.body := by rw [hr]
      rw [hrb] at hbd
      refine wpIn_mono hbd ?_
      rintro e a' W' ⟨hk, rfl, hK, hn', hi'⟩
      have hB' := (hB.put _).to hk
      refine ⟨hk, .inl ⟨rfl, rfl, ⟨hI.putObj _ hi' (by omega) hB'.lo rfl, ?_, by simpa [World.putObj] using hn'⟩, ?_⟩⟩
      · have := hB'.put { r with state := .ready, pending := none }
        rw [hr] at this ⊢
        exact this
      · rw [hs1]
        exact (hq1.trans hK).put (grownBy_putObj' W' _ _) (by omega) hn' (fun o ho => by rw [hB'.lo] at ho; cases ho; exact not_our_loop _) (fun o ho hc => by omega)
    · rintro e W2 ⟨⟨v, rfl⟩, xs, hS, hi, hB, hn⟩
      exact ⟨none, _, by have := run_endLoop (P := P) hB.lo (by rw [hr]; simp); rw [show r.pending = none by rw [hr]] at this; exact this, hdone _ xs _ (Nat.le_refl _) hS (hI.putObj _ hi (by omega) hB.lo rfl) (hB.put _).de⟩

end Go.Proofs.YtjjndaiojilhiaaDoor.nb
