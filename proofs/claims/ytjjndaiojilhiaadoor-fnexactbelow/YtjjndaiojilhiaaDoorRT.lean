import Derived.Test.YtjjndaiojilhiaaDoorL
import Derived.RangeFuncNested
import Derived.RangeFuncBound
namespace Go.Proofs.YtjjndaiojilhiaaDoor.rt
open Go.RowKit
set_option linter.unusedVariables false
set_option linter.unusedSimpArgs false

/-! ### A loop over an iterator that writes into boxes of its own (T) -/

/-- The two blocks that a loop lays. -/
structure Bk (D : Nat) (r : Loop) (W : World) : Prop where
  lo : W.heap[D + 1]? = some (.loop r)
  de : W.heap[D]? = some (.deferred (some []))

theorem Bk.to {D : Nat} {r : Loop} {W W' : World} (h : Bk D r W) (hk : KeepsFrom D W W') : Bk D r W' := ⟨hk.same _ _ (by omega) h.lo rfl, hk.same _ _ (Nat.le_refl _) h.de rfl⟩
theorem Bk.put {D : Nat} {r : Loop} {W : World} (h : Bk D r W) (r' : Loop) : Bk D r' (W.putObj (D + 1) (.loop r')) := ⟨World.putObj_heap_same (Array.getElem?_eq_some_iff.1 h.lo).1, (World.putObj_heap_other (by omega)).trans h.de⟩

/-- What speaks of nothing that lies in T. -/
def Ab (T : Nat → Prop) (J : List ByteArray → World → Prop) : Prop := ∀ s W W' row, J s W → W.grownBy W' row → (∀ r, row = some r → T r) → J s W'

theorem Bk.ab {D : Nat} {r : Loop} {T : Nat → Prop} (hT : ∀ r, T r → r < D) {W W' : World} {row : Option Nat} (h : Bk D r W) (hg : W.grownBy W' row) (hr : ∀ r, row = some r → T r) : Bk D r W' :=
  ⟨(hg.block _ (Array.getElem?_eq_some_iff.1 h.lo).1 (fun e => by have := hT _ (hr _ e.symm); omega)).trans h.lo, (hg.block _ (Array.getElem?_eq_some_iff.1 h.de).1 (fun e => by have := hT _ (hr _ e.symm); omega)).trans h.de⟩

/-- One round. -/
theorem round_t {F : Fence} {n : Nat} {P : Program} {D : Nat} {r : Loop} {W : World} {R : Ending → World → Prop} (hB : Bk D r W) (hr : r.state = .ready) (hfn : F.fn r.fn) (args : Array Value) (hs : args.size = r.params.size) (a1 : Act)
    (ha : ∀ K : Act → World → Prop, K a1 W → r.assign.wpIn (F.inRound (D + 1)) n P (Exit.then K (fun _ _ _ => False)) { tmps := (r.params.zip args).foldl (fun t (p, v) => t.setIfInBounds p v) r.tmps, defers := [] } W)
    (hb : r.body.wpIn (F.inRound (D + 1)) n P (fun e _ W' => KeepsFrom D (W.putObj (D + 1) (.loop { r with state := .busy })) W' ∧ ((e = .normal ∧ R (.returned (.bool true)) (W'.putObj (D + 1) (.loop { r with state := .ready, pending := none }))) ∨ (e = .ret ∧ R (.returned (.bool false)) (W'.putObj (D + 1) (.loop { r with state := .done, pending := some .ret }))))) a1 (W.putObj (D + 1) (.loop { r with state := .busy }))) :
    YieldAt F n P (D + 1) args W R := by
  refine ⟨r.fn, _, r.assign, r.body, run_yield hB.lo hs, roundIn_of_wpIn hfn (ha _ ⟨_, run_beginRound hB.lo hr, wpIn_mono hb ?_⟩)⟩
  rintro e a' W' ⟨hk, ⟨rfl, h⟩ | ⟨rfl, h⟩⟩
  · exact ⟨_, _, run_endRound none ((hB.put _).to hk).lo, h⟩
  · exact ⟨_, _, run_endRound (some .ret) ((hB.put _).to hk).lo, h⟩

/-- An iterator that hands over the texts L, one behind the other. -/
def Hands (n : Nat) (P : Program) (g : Nat) (lb : Array Value) (K : World → World → Prop) (T : Nat → Prop) (L : List ByteArray) (w : World) : Prop :=
  ∀ (l : Nat) (J Jx : List ByteArray → World → Prop) (W : World), Below w.heap.size w W → Ab T J → Ab T Jx →
    (∀ pre x W1, J pre W1 → pre ++ [x] <+: L → YieldAt Fence.wide (n - 1) P l #[.string x] W1 fun e W' => (e = .returned (.bool true) ∧ J (pre ++ [x]) W' ∧ K W1 W') ∨ (e = .returned (.bool false) ∧ Jx (pre ++ [x]) W')) →
    J [] W → CallsIn Fence.wide n P g (#[.func (.yield l) #[] #[]] ++ lb) W fun e W' => (∃ v, e = .returned v) ∧ (J L W' ∨ ∃ pre, pre <+: L ∧ Jx pre W')

/-- The loop over it, whose body goes on or returns. -/
theorem range_t {n : Nat} {P : Program} {g : Operand} {ps : Array Tmp} {assign body : Code} {Q : Exit → Act → World → Prop} {a : Act} {w : World} (h1 : 1 ≤ n) {gf : Nat} {lb : Array Value}
    (hg : a.eval g = .func (.func gf) #[] lb) (eg : ∀ args w, (callFunc gf args).run P w = .ok (.enter gf args) w) {K : World → World → Prop} {T : Nat → Prop} {L : List ByteArray} (hseq : Hands (n - 1) P gf lb K T L w)
    (hT : ∀ r, T r → r < w.heap.size) (hKt : ∀ A B C : World, K A B → K B C → K A C) (hKb : ∀ (W : World) (l : Nat) (o o' : Obj), w.heap.size ≤ l → W.heap[l]? = some o → o.isCells = false → o.isWalk = false → K W (W.putObj l o'))
    (hps : ps.size = 1) (I Ix : List ByteArray → World → Prop) (hI : OwnFrom w.heap.size I) (hIx : OwnFrom w.heap.size Ix) (tI : Ab T I) (tIx : Ab T Ix) (h0 : I [] w) (a1 : ByteArray → Act)
    (hassign : ∀ (l : Nat) (x : ByteArray) (W : World) (K : Act → World → Prop), K (a1 x) W → assign.wpIn (Fence.wide.inRound l) (n - 1 - 1) P (Exit.then K (fun _ _ _ => False)) { tmps := (ps.zip #[.string x]).foldl (fun t (p, v) => t.setIfInBounds p v) a.tmps, defers := [] } W)
    (hbody : ∀ (l : Nat) (pre : List ByteArray) (x : ByteArray) (W : World), I pre W → pre ++ [x] <+: L → body.wpIn (Fence.wide.inRound l) (n - 1 - 1) P (fun e _ W' => KeepsFrom w.heap.size W W' ∧ ((e = .normal ∧ K W W' ∧ I (pre ++ [x]) W') ∨ (e = .ret ∧ Ix (pre ++ [x]) W'))) (a1 x) W)
    (hdone : ∀ (D : Nat) (W : World), w.heap.size ≤ D → I L W → W.heap[D]? = some (.deferred (some [])) → Q .normal { a with defers := { target := .collected D, args := #[] } :: a.defers } W)
    (hstop : ∀ (D : Nat) (pre : List ByteArray) (W : World), w.heap.size ≤ D → pre <+: L → Ix pre W → W.heap[D]? = some (.deferred (some [])) → Code.ret.wpIn Fence.wide n P Q { a with defers := { target := .collected D, args := #[] } :: a.defers } W) :
    (Code.rangeFunc g ps assign body).wpIn Fence.wide n P Q a w := by
  refine wpIn_rangeFunc fun fn hfn => ?_
  obtain ⟨r, hr⟩ : ∃ r : Loop, r = { state := .ready, pending := none, fn := fn, tmps := a.tmps, params := ps, assign := assign, body := body, defers := w.heap.size } := ⟨_, rfl⟩
  obtain ⟨W1, hW1⟩ : ∃ W1, (w.alloc (.deferred (some []))).alloc (.loop r) = W1 := ⟨_, rfl⟩
  have hB1 : Bk w.heap.size r W1 := by
    rw [← hW1]
    refine ⟨?_, (Below.heap_alloc _ _ _ (by simp)).trans (World.alloc_heap_new w _)⟩
    have := World.alloc_heap_new (w.alloc (.deferred (some []))) (.loop r)
    rwa [World.size_alloc] at this
  have hI1 : I [] W1 := by rw [← hW1]; exact hI.alloc _ (hI.alloc _ h0)
  have hb1 : Below w.heap.size w W1 := by rw [← hW1]; exact ((Below.refl _ w).alloc (Nat.le_refl _) _).alloc (by simp) _
  refine ⟨w.heap.size + 1, [{ target := .collected w.heap.size, args := #[] }], W1, { target := .fn (.func gf) lb, args := #[.func (.yield (w.heap.size + 1)) #[] #[]] }, W1, gf, #[.func (.yield (w.heap.size + 1)) #[] #[]] ++ lb, W1, ?_, ?_, fun _ _ => trivial, ?_, fun _ => h1, ?_⟩
  · rw [← hW1, hr]; exact run_enterLoop_outer _ _ _ _ _
  · simp only [resolve, hg]
    simp [go_sem]
  · simp [invoke, go_sem, eg]
  · refine (hseq (w.heap.size + 1) (fun pre W => I pre W ∧ Bk w.heap.size r W) (fun pre W => Ix pre W ∧ Bk w.heap.size { r with state := .done, pending := some .ret } W) W1 hb1
      (fun s A B row h hg hrow => ⟨tI s A B row h.1 hg hrow, h.2.ab hT hg hrow⟩) (fun s A B row h hg hrow => ⟨tIx s A B row h.1 hg hrow, h.2.ab hT hg hrow⟩) ?_ ⟨hI1, hB1⟩).mono ?_
    · rintro pre x W ⟨hi, hB⟩ hp
      have hlo : ∀ {r : Loop} {W : World}, Bk w.heap.size r W → ∀ o', K W (W.putObj (w.heap.size + 1) o') := fun h o' => hKb _ _ _ o' (by omega) h.lo rfl rfl
      refine round_t hB (by rw [hr]) (by trivial) _ (by rw [hr]; simp [hps]) (a1 x) (fun K hK => by rw [hr]; exact hassign _ x W K hK) ?_
      have hI2 : I pre (W.putObj (w.heap.size + 1) (.loop { r with state := .busy })) := hI.putObj _ hi (by omega) hB.lo rfl
      have hbd := hbody (w.heap.size + 1) pre x _ hI2 hp
      have hrb : body = r.body := by rw [hr]
      rw [hrb] at hbd
      refine wpIn_mono hbd ?_
      rintro e a' W' ⟨hk, ⟨rfl, hK, hi'⟩ | ⟨rfl, hi'⟩⟩
      · have hB' := (hB.put _).to hk
        refine ⟨hk, .inl ⟨rfl, .inl ⟨rfl, ⟨hI.putObj _ hi' (by omega) hB'.lo rfl, ?_⟩, hKt _ _ _ (hlo hB _) (hKt _ _ _ hK (hlo hB' _))⟩⟩⟩
        have := hB'.put { r with state := .ready, pending := none }
        rw [hr] at this ⊢
        exact this
      · have hB' := (hB.put _).to hk
        exact ⟨hk, .inr ⟨rfl, .inr ⟨rfl, hIx.putObj _ hi' (by omega) hB'.lo rfl, hB'.put _⟩⟩⟩
    · rintro e W2 ⟨⟨v, rfl⟩, ⟨hi, hB⟩ | ⟨pre, hp, hi, hB⟩⟩
      · refine ⟨none, _, by have := run_endLoop (P := P) hB.lo (by rw [hr]; simp); rw [show r.pending = none by rw [hr]] at this; exact this, hdone _ _ (Nat.le_refl _) (hI.putObj _ hi (by omega) hB.lo rfl) (hB.put _).de⟩
      · exact ⟨some .ret, _, run_endLoop (P := P) hB.lo (by simp), hstop _ pre _ (Nat.le_refl _) hp (hIx.putObj _ hi (by omega) hB.lo rfl) (hB.put _).de⟩

end Go.Proofs.YtjjndaiojilhiaaDoor.rt
