import Derived.Deep.RegionHeld3
import Derived.Test.YtajpfidgepebgaaG04
import Derived.Deep.Cut
import Derived.Deep.CutBlock
import Derived.Deep.CutRange
namespace Go.Proofs.Ytajpfidgepebgaa
theorem tq {P : Program} {ops : Array Oper} {Q : Exit → Act → World → Prop} {md : Region.Mode} {S : World → Prop} {i : Nat} {oi : Oper} {v : Value} {fuel : Nat} {listed : Array Bool} {a : Act} {w : World} (hi : ops.toList[i]? = some oi)
    (hy : ∀ w, S w → (execOp a.eval oi).run P w = .ok (.value v) w) (h : wpAnyH P md ops Q S fuel (listed.setIfInBounds i true) (a.put oi.dst v) w)
    (hs : Region.noSelect ops = true := by kernel_rfl) (hf : Region.free md ops listed i = true := by kernel_rfl) (hr : (Region.ready md ops listed).contains i = true := by kernel_rfl)
    (hQ : ∀ c a w, Q (.panic c) (a.put oi.dst v) w → Q (.panic c) a w := by exact fun _ _ _ h => h) (hw : Region.wanted oi (yielded ops a.tmps) = true := by rfl) (hS : S w := by assumption) : wpAnyH P md ops Q S (fuel + 1) listed a w :=
  wpAnyH_take ((Array.getElem?_toList).symm.trans hi) hs hf hr hQ (Or.inl ⟨hw, hy⟩) hS h
theorem uq {P : Program} {ops : Array Oper} {Q : Exit → Act → World → Prop} {md : Region.Mode} {S : World → Prop} {i : Nat} {oi : Oper} {v : Value} {fuel : Nat} {listed : Array Bool} {a : Act} {w : World} (hi : ops.toList[i]? = some oi)
    (h : wpAnyH P md ops Q S fuel (listed.setIfInBounds i true) (a.put oi.dst v) w) (hy : ∀ w, S w → (execOp a.eval oi).run P w = .ok (.value v) w := by (intro w hSw; (try dsimp only at hSw); go_simp; try with_reducible rfl))
    (hs : Region.noSelect ops = true := by kernel_rfl) (hf : Region.free md ops listed i = true := by kernel_rfl) (hr : (Region.ready md ops listed).contains i = true := by kernel_rfl)
    (hQ : ∀ c a w, Q (.panic c) (a.put oi.dst v) w → Q (.panic c) a w := by exact fun _ _ _ h => h) (hw : Region.wanted oi (yielded ops a.tmps) = true := by rfl) (hS : S w := by assumption) : wpAnyH P md ops Q S (fuel + 1) listed a w :=
  wpAnyH_take ((Array.getElem?_toList).symm.trans hi) hs hf hr hQ (Or.inl ⟨hw, hy⟩) hS h
theorem sq {P : Program} {ops : Array Oper} {Q : Exit → Act → World → Prop} {md : Region.Mode} {S : World → Prop} {i : Nat} {oi : Oper} {fuel : Nat} {listed : Array Bool} {a : Act} {w : World} (hi : ops.toList[i]? = some oi)
    (h : wpAnyH P md ops Q S fuel (listed.setIfInBounds i true) (a.put oi.dst undef) w)
    (hs : Region.noSelect ops = true := by kernel_rfl) (hf : Region.free md ops listed i = true := by kernel_rfl) (hr : (Region.ready md ops listed).contains i = true := by kernel_rfl)
    (hQ : ∀ c a w, Q (.panic c) (a.put oi.dst undef) w → Q (.panic c) a w := by exact fun _ _ _ h => h) (hw : Region.wanted oi (yielded ops a.tmps) = false := by rfl) (hS : S w := by assumption) : wpAnyH P md ops Q S (fuel + 1) listed a w :=
  wpAnyH_take ((Array.getElem?_toList).symm.trans hi) hs hf hr hQ (Or.inr ⟨hw, rfl⟩) hS h
theorem cq {P : Program} {ops : Array Oper} {Q : Exit → Act → World → Prop} {md : Region.Mode} {S : World → Prop} {fuel : Nat} {listed : Array Bool} {a : Act} {w : World} {i : Nat} {o : Oper} {rs : List Nat} (ho : ops.toList[i]? = some o)
    (h : ∀ K' : Act → World → Prop, Shut (∀ a w, S w → (S w → wpAnyH P md ops Q S fuel (listed.setIfInBounds i true) a w) → K' a w) → if Region.wanted o (yielded ops a.tmps) = true then Oper.wp P o a w K' Q else K' (a.put o.dst undef) w)
    (hs : AllReadyH P md ops Q S fuel listed a w rs) : AllReadyH P md ops Q S fuel listed a w (i :: rs) := AllReadyH.cons ((Array.getElem?_toList).symm.trans ho) h hs
theorem aP : (∀ (a : Act) (i : Tmp) (v : Value), a.put (some i) v = { a with tmps := a.tmps.setIfInBounds i v }) ∧ (∀ (a : Act) (v : Value), a.put none v = a) ∧ (∀ {α : Type} (l : List α) (i : Nat) (x : α), l.toArray.setIfInBounds i x = (l.set i x).toArray) ∧ (∀ {α : Type} (x y : α) (l : List α), (x :: l).set 0 y = y :: l) ∧ (∀ {α : Type} (x : α) (l : List α) (i : Nat) (y : α), (x :: l).set (i + 1) y = x :: l.set i y) :=
  ⟨fun _ _ _ => rfl, fun _ _ => rfl, fun _ _ _ => by simp, fun _ _ _ => rfl, fun _ _ _ _ => rfl⟩
theorem wq {P : Program} {ops : Array Oper} {Q : Exit → Act → World → Prop} {S : World → Prop} {id : Nat} {a : Act} {w : World} (n : Nat) (hm : P.follows .mixedOrders = true) (hS : S w.drew)
    (h : S w.drew → wpAnyH P .any ops Q S n (Array.replicate n false) a w.drew) (hn : ops.size = n := by kernel_rfl) : (Code.region id ops true).wp P Q a w := by
  subst hn
  exact wp_region_held_drew hm hS h
theorem un {P : Program} {ops : Array Oper} {Q : Exit → Act → World → Prop} {md : Region.Mode} {S : World → Prop} (n : Nat) {oi : Oper} {v : Value} {fuel : Nat} {listed : Array Bool} {a : Act} {w : World} (hi : ops.toList[n - (fuel + 1)]? = some oi)
    (h : wpAnyH P md ops Q S fuel (listed.setIfInBounds (n - (fuel + 1)) true) (a.put oi.dst v) w) (hw : Region.wanted oi (yielded ops a.tmps) = true := by rfl) (hy : ∀ w, S w → (execOp a.eval oi).run P w = .ok (.value v) w := by (intro w hSw; (try dsimp only at hSw); go_simp; try with_reducible rfl))
    (hs : Region.noSelect ops = true := by kernel_rfl) (hf : Region.free md ops listed (n - (fuel + 1)) = true := by kernel_rfl) (hr : (Region.ready md ops listed).contains (n - (fuel + 1)) = true := by kernel_rfl)
    (hQ : ∀ c a w, Q (.panic c) (a.put oi.dst v) w → Q (.panic c) a w := by exact fun _ _ _ h => h) (hS : S w := by assumption) : wpAnyH P md ops Q S (fuel + 1) listed a w :=
  wpAnyH_take ((Array.getElem?_toList).symm.trans hi) hs hf hr hQ (Or.inl ⟨hw, hy⟩) hS h
theorem sn {P : Program} {ops : Array Oper} {Q : Exit → Act → World → Prop} {md : Region.Mode} {S : World → Prop} (n : Nat) {oi : Oper} {fuel : Nat} {listed : Array Bool} {a : Act} {w : World} (hi : ops.toList[n - (fuel + 1)]? = some oi)
    (h : wpAnyH P md ops Q S fuel (listed.setIfInBounds (n - (fuel + 1)) true) (a.put oi.dst undef) w) (hw : Region.wanted oi (yielded ops a.tmps) = false := by rfl)
    (hs : Region.noSelect ops = true := by kernel_rfl) (hf : Region.free md ops listed (n - (fuel + 1)) = true := by kernel_rfl) (hr : (Region.ready md ops listed).contains (n - (fuel + 1)) = true := by kernel_rfl)
    (hQ : ∀ c a w, Q (.panic c) (a.put oi.dst undef) w → Q (.panic c) a w := by exact fun _ _ _ h => h) (hS : S w := by assumption) : wpAnyH P md ops Q S (fuel + 1) listed a w :=
  wpAnyH_take ((Array.getElem?_toList).symm.trans hi) hs hf hr hQ (Or.inr ⟨hw, rfl⟩) hS h
theorem rq {P : Program} {ops : Array Oper} {Q : Exit → Act → World → Prop} {md : Region.Mode} {S : World → Prop} {fuel : Nat} {listed : Array Bool} {a : Act} {w : World} (i : Nat) {o : Oper} (ho : ops.toList[i]? = some o)
    (h : ∀ K' : Act → World → Prop, Shut (∀ a w, S w → (S w → wpAnyH P md ops Q S fuel (listed.setIfInBounds i true) a w) → K' a w) → if Region.wanted o (yielded ops a.tmps) = true then Oper.wp P o a w K' Q else K' (a.put o.dst undef) w)
    (hr : Region.ready md ops listed = [i] := by kernel_rfl) : wpAnyH P md ops Q S (fuel + 1) listed a w := wpAnyH_ready hr (by simp) (AllReadyH.cons ((Array.getElem?_toList).symm.trans ho) h AllReadyH.nil)
theorem dq {P : Program} {ops : Array Oper} {Q : Exit → Act → World → Prop} {md : Region.Mode} {S : World → Prop} {fuel : Nat} {listed : Array Bool} {a : Act} {w : World} (h : Q .normal a w) (hr : Region.ready md ops listed = [] := by kernel_rfl) : wpAnyH P md ops Q S fuel listed a w := wpAnyH_done hr h _
end Go.Proofs.Ytajpfidgepebgaa


namespace Go.Proofs.Ytajpfidgepebgaa.fa
open Go.ChangeShapes Go.WideShapes Go.ChangeAt Go.RowKit Go.Deep Go.Maps
set_option linter.unusedVariables false
set_option linter.unusedSimpArgs false

/-! ### Failing: impl.webOf -/

theorem retWeb {fn : Func} {i : Tmp} (hf : fn.results = #[.cell i 46]) {tmps : Array Value} {W : World} {b : Nat} {v0 v1 : Value} {R : Ending → World → Prop} (h4 : tmps.getD i undef = .pointer (some ⟨b, 0, none⟩))
    (k0 : W.cell? ⟨b, 0, none⟩ = some v0) (k1 : W.cell? ⟨b, 1, none⟩ = some v1) (hR : R (.returned (.agg #[v0, v1])) W) : bodyPost Try.prog fn R Exit.ret { tmps := tmps, defers := [] } W := by
  have h4' : tmps[i]?.getD undef = .pointer (some ⟨b, 0, none⟩) := by simpa using h4
  exact bodyPost_ret (v := .agg #[v0, v1]) (by simp [results, hf, go_sem, h4', k0, k1]) rfl hR

theorem three_new (w : World) (o1 o2 o3 : Obj) : (((w.alloc o1).alloc o2).alloc o3).heap[w.heap.size]? = some o1 ∧ (((w.alloc o1).alloc o2).alloc o3).heap[w.heap.size + 1]? = some o2 ∧ (((w.alloc o1).alloc o2).alloc o3).heap[w.heap.size + 1 + 1]? = some o3 ∧ Below w.heap.size w (((w.alloc o1).alloc o2).alloc o3) ∧ (((w.alloc o1).alloc o2).alloc o3).heap.size = w.heap.size + 3 := by
  have s1 : (w.alloc o1).heap.size = w.heap.size + 1 := by simp
  have s2 : ((w.alloc o1).alloc o2).heap.size = w.heap.size + 1 + 1 := by simp
  refine ⟨?_, ?_, ?_, (((Below.refl _ _).alloc (Nat.le_refl _) _).alloc (by simp) _).alloc (by simp; omega) _, by simp⟩
  · rw [Below.heap_alloc _ _ _ (by rw [s2]; omega), Below.heap_alloc _ _ _ (by rw [s1]; omega)]
    exact blk_new w o1
  · rw [Below.heap_alloc _ _ _ (by rw [s2]; omega), ← s1]
    exact blk_new _ o2
  · rw [← s2]
    exact blk_new _ o3

def fX (A U n : Nat) (i : Nat) : Value := if i = 0 then .slice (some ⟨A, 0, none⟩) n n else .slice (some ⟨U, 0, none⟩) (n + 1) (n + 1)
/-- Where all of it lies. -/
structure WbR (w0 : World) (R4 A U X Bs : Nat) : Prop where
  l4 : w0.heap.size ≤ R4
  lA : w0.heap.size ≤ A
  lU : w0.heap.size ≤ U
  lX : w0.heap.size ≤ X
  b4 : R4 < Bs
  bA : A < Bs
  bU : U < Bs
  bX : X < Bs
  xA : X ≠ A
  xU : X ≠ U
  AU : A ≠ U
  x4 : X ≠ R4
  A4 : A ≠ R4
  U4 : U ≠ R4
/-- A web under way. -/
structure Wb (R4 A U X Bs n : Nat) (L : Nat → List Nat) (V : Nat → Value) (w : World) : Prop where
  r4 : w.rowIs R4 46 2 fun _ => .slice none 0 0
  rX : w.rowIs X 46 2 (fX A U n)
  ra : ∃ f, w.rowIs A 41 n f
  bh : BhV Bs U (n + 1) L V w
  sz : Bs ≤ w.heap.size
  rr : R4 ≠ A ∧ X ≠ A ∧ U ≠ A ∧ A < Bs ∧ X < Bs ∧ U < Bs ∧ R4 < Bs
theorem Wb.below {R4 A U X Bs n : Nat} {L : Nat → List Nat} {V : Nat → Value} {w w' : World} (h : Wb R4 A U X Bs n L V w) (hb : Below w.heap.size w w') : Wb R4 A U X Bs n L V w' := by
  obtain ⟨f, hf⟩ := h.ra
  exact ⟨h.r4.of_block (hb.block _ h.r4.lt), h.rX.of_block (hb.block _ h.rX.lt), ⟨f, hf.of_block (hb.block _ hf.lt)⟩, h.bh.below hb, Nat.le_trans h.sz hb.size, h.rr⟩
theorem Wb.ahead {R4 A U X Bs n : Nat} {L : Nat → List Nat} {V : Nat → Value} {w : World} (h : Wb R4 A U X Bs n L V w) (i : Nat) (v : Value) : Wb R4 A U X Bs n L V (w.setCell ⟨A, i, none⟩ v) := by
  obtain ⟨f, hf⟩ := h.ra
  obtain ⟨e1, e2, e3, e4, _⟩ := h.rr
  exact ⟨h.r4.of_block (ty.blk_oth e1), h.rX.of_block (ty.blk_oth e2), ⟨_, hf.set i v⟩, h.bh.store (Ne.symm e3) e4 i v, by have := h.sz; simpa using this, h.rr⟩
theorem Wb.grown {R4 A U X Bs n : Nat} {L L' : Nat → List Nat} {V V' : Nat → Value} {w W' : World} (h : Wb R4 A U X Bs n L V w) (e4 : U ≠ R4) (eX : X ≠ U) (hbh : BhV Bs U (n + 1) L' V' W') (hk : ∀ I, I < w.heap.size → I ≠ U → (∀ j, j < n + 1 → (V j).ownBlock ≠ some I) → W'.heap[I]? = w.heap[I]?) (hs : w.heap.size ≤ W'.heap.size) : Wb R4 A U X Bs n L' V' W' := by
  obtain ⟨f, hf⟩ := h.ra
  have h1 := h.rr
  have no : ∀ {I}, I < Bs → ∀ j, j < n + 1 → (V j).ownBlock ≠ some I := fun {I} hI j hj e => by have := ((h.bh.own j hj).lt I e).1; omega
  exact ⟨h.r4.of_block (hk _ h.r4.lt (Ne.symm e4) (no (by omega))), h.rX.of_block (hk _ h.rX.lt eX (no (by omega))), ⟨f, hf.of_block (hk _ hf.lt (by omega) (no (by omega)))⟩, hbh, Nat.le_trans h.sz hs, h.rr⟩
theorem Wb.fresh {R4 A U X Bs n g : Nat} {L : Nat → List Nat} {V : Nat → Value} {w : World} (h : Wb R4 A U X Bs n L V w) (hg : w.heap.size ≤ g) : g ≠ A ∧ g ≠ X ∧ g ≠ U ∧ g ≠ R4 ∧ ∀ j, j < n + 1 → (V j).ownBlock ≠ some g := by
  have h1 := h.rr
  have h2 := h.sz
  refine ⟨by omega, by omega, by omega, by omega, fun j hj e => ?_⟩
  have := ((h.bh.own j hj).lt g e).2
  omega
/-- As it is made. -/
theorem web_made {w0 wd W : World} {us : List ty.Un} {n A U X : Nat} {MA MU : Array Value} (hwl : w0.heap.size < wd.heap.size) (h4 : wd.rowIs w0.heap.size 46 2 fun _ => .slice none 0 0) (hb : Below wd.heap.size wd W) (hs : W.heap.size = wd.heap.size + 3) (hA : W.heap[A]? = some (.cells MA 41)) (hMA : MA = madeCells #[.slice none 0 0] n) (hMU : MU = madeCells #[.slice none 0 0] (n + 1)) (hU : W.heap[U]? = some (.cells MU 41)) (hX : W.heap[X]? = some (.cells #[.slice (some ⟨A, 0, none⟩) n n, .slice (some ⟨U, 0, none⟩) (n + 1) (n + 1)] 46))
    (lA : wd.heap.size ≤ A) (lU : wd.heap.size ≤ U) (lX : wd.heap.size ≤ X) (xA : X ≠ A) (xU : X ≠ U) (AU : A ≠ U) :
    WbR w0 w0.heap.size A U X (wd.heap.size + 3) ∧ Wb w0.heap.size A U X (wd.heap.size + 3) n (bhL us 0) (fun _ => .slice none 0 0) W ∧ Below wd.heap.size wd W := by
  have bA : A < W.heap.size := (Array.getElem?_eq_some_iff.1 hA).1
  have bU : U < W.heap.size := (Array.getElem?_eq_some_iff.1 hU).1
  have bX : X < W.heap.size := (Array.getElem?_eq_some_iff.1 hX).1
  have rX : W.rowIs X 46 2 (fX A U n) := ⟨_, hX, rfl, fun i hi => by
    match i, hi with
    | 0, _ => rfl
    | 1, _ => rfl⟩
  have rA : W.rowIs A 41 n fun _ => .slice none 0 0 := ⟨_, hA, by rw [hMA, size_madeCells], fun i hi => by rw [hMA]; simp [madeCells, hi, Nat.mod_one]⟩
  have rU : W.rowIs U 41 (n + 1) fun _ => .slice none 0 0 := ⟨_, hU, by rw [hMU, size_madeCells], fun i hi => by rw [hMU]; simp [madeCells, hi, Nat.mod_one]⟩
  exact ⟨⟨Nat.le_refl _, by omega, by omega, by omega, by omega, by omega, by omega, by omega, xA, xU, AU, by omega, by omega, by omega⟩, ⟨h4.of_block (hb.block _ hwl), rX, ⟨_, rA⟩, BhV.zero us rU, by omega, by omega⟩, hb⟩

/-- What it answers. -/
def WebR (us : List ty.Un) (n : Nat) (w w' : World) (e : Ending) : Prop := ∃ A U Bs V, e = .returned (.agg #[.slice (some ⟨A, 0, none⟩) n n, .slice (some ⟨U, 0, none⟩) (n + 1) (n + 1)]) ∧ BhV Bs U (n + 1) (bhL us n) V w' ∧ w.heap.size ≤ U ∧ U < Bs ∧ Bs ≤ w'.heap.size

set_option maxRecDepth 100000 in
set_option maxHeartbeats 16000000 in
theorem web_any (md : Option Nat) (a : Option Addr) (c : Nat) (us : List ty.Un) (w : World) (hb : ty.SrcUn md w a us) (hU : Us us) :
    Calls Try.prog 20 #[.slice a us.length c, .func (.func 40) #[] #[]] w fun e w' => WebR us us.length w w' e ∧ Below w.heap.size w w' := by
  have hn1 := hU.few
  have hmk := ty.makeN (P := Try.prog) 44 41 (.slice none 0 0) 1 24 Try.underlying44 infoR .i64 .i64 us.length (by omega) (by omega)
  have hmk2 := ty.makeN (P := Try.prog) 44 41 (.slice none 0 0) 1 24 Try.underlying44 infoR .i64 .i64 (us.length + 1) (by omega) (by omega)
  rw [Nat.mul_one] at hmk hmk2
  rw [show (((us.length + 1 : Nat)) : Int) = (us.length : Int) + 1 by omega] at hmk2
  have HSR := Lib.hid hb
  have HU := Lib.hid hU
  have HNE : Hid (∀ (u : ty.Un) (d1 : Value) (d2 : Option Addr) (e2 : Nat) W, u ∈ us → Below w.heap.size w W → (∀ (k : Nat) (m : ByteArray), u.fNeeds[k]? = some m → ∃ nb no, d2 = some ⟨nb, no, none⟩ ∧ W.cell? ⟨nb, no + k, none⟩ = some (.string m)) → Calls Try.prog 40 #[.slice a us.length c, .agg #[.string u.fName, d1, .slice d2 u.fNeeds.length e2, .string u.fExec, .bool u.fKeep]] W fun e w' => (∃ g o cap, e = .returned (.slice (some ⟨g, o, none⟩) (nds us u).length cap) ∧ fi.Ib W.heap.size w' g o cap (nds us u)) ∧ Below W.heap.size W w') := fun u d1 d2 e2 W hu h hc => needed_any md a _ us u d1 d2 e2 W (hb.below h) hU hu hc
  have HIT : Hid (∀ (i : Nat) (u : ty.Un), us[i]? = some u → ∃ b o d1 e1 d2 e2, a = some ⟨b, o, none⟩ ∧ ∀ W, Below w.heap.size w W → (W.cell? ⟨b, o + i * 5, none⟩ = some (.string u.fName) ∧ W.cell? ⟨b, o + i * 5 + 1, none⟩ = some (.slice d1 u.fAfter.length e1) ∧ W.cell? ⟨b, o + i * 5 + 2, none⟩ = some (.slice d2 u.fNeeds.length e2) ∧ W.cell? ⟨b, o + i * 5 + 3, none⟩ = some (.string u.fExec) ∧ W.cell? ⟨b, o + i * 5 + 4, none⟩ = some (.bool u.fKeep)) ∧ ∀ (k : Nat) (m : ByteArray), u.fNeeds[k]? = some m → ∃ nb no, d2 = some ⟨nb, no, none⟩ ∧ W.cell? ⟨nb, no + k, none⟩ = some (.string m)) := fun i u hu => by
    rcases hb with h | ⟨b, o, e, _, hc⟩
    · rw [h.2] at hu; simp at hu
    obtain ⟨d1, e1, d2, e2, q0, q1, q2, q3, q4, s1, s2, _⟩ := hc i u hu
    refine ⟨b, o, d1, e1, d2, e2, e, fun W h => ?_⟩
    have k : ∀ {q r v}, w.cell? ⟨q, r, none⟩ = some v → W.cell? ⟨q, r, none⟩ = some v := fun {q r v} h' => (h.cell (p := ⟨q, r, none⟩) (World.block_lt_of_cell? _ _ h')).trans h'
    exact ⟨⟨k q0, k q1, k q2, k q3, k q4⟩, fun j m hm => by
      rcases s2 with h' | ⟨nb, no, e2', _, hc2⟩
      · rw [h'.2] at hm; simp at hm
      · exact ⟨nb, no, e2', k (hc2 j m hm)⟩⟩
  obtain ⟨n, hnn⟩ : ∃ n, us.length = n := ⟨_, rfl⟩
  have HN : Hid (us.length = n) := hnn
  rw [hnn] at hn1 hmk hmk2 HNE ⊢
  obtain ⟨MA, hMA⟩ : ∃ M, M = madeCells (Value.slice none 0 0).cells n := ⟨_, rfl⟩
  obtain ⟨MU, hMU⟩ : ∃ M, M = madeCells (Value.slice none 0 0).cells (n + 1) := ⟨_, rfl⟩
  rw [← hMA] at hmk
  rw [← hMU] at hmk2
  have HMA : Hid (MA = madeCells #[.slice none 0 0] n) := hMA
  have HMU : Hid (MU = madeCells #[.slice none 0 0] (n + 1)) := hMU
  have HW1 : Hid ((w.alloc (.cells #[.slice none 0 0, .slice none 0 0] 46)).drew.rowIs w.heap.size 46 2 fun _ => .slice none 0 0) := ⟨_, blk_new w _, rfl, fun i hi => by
    match i, hi with
    | 0, _ => rfl
    | 1, _ => rfl⟩
  have hwl : w.heap.size < (w.alloc (.cells #[.slice none 0 0, .slice none 0 0] 46)).drew.heap.size := by simp
  have HB0 : Hid (Below w.heap.size w (w.alloc (.cells #[.slice none 0 0, .slice none 0 0] 46)).drew) := ((Below.refl _ _).alloc (Nat.le_refl _) _).drew
  have hwr1 : IntKind.i64.wrap ((n : Int) + 1) = (n : Int) + 1 := by rw [IntKind.wrap_i64]; omega
  clear hb hU hnn hMA hMU
  go_enter Try.func20, Try.ntmps20
  go_upto_region 1 with fail
  go_cut [5] from 10 (fun p wx => ∃ A U X, p = .pointer (some ⟨X, 0, none⟩) ∧ (∃ Bs, WbR w w.heap.size A U X Bs ∧ Wb w.heap.size A U X Bs n (bhL us 0) (fun _ => .slice none 0 0) wx) ∧ Below w.heap.size w wx)
  case first =>
    refine wp_region_held_drew (S := fun _ => True) (by kernel_rfl) trivial (fun hHeld => ?_)
    obtain ⟨wd, hwd⟩ : ∃ z, (w.alloc (.cells #[.slice none 0 0, .slice none 0 0] 46)).drew = z := ⟨_, rfl⟩
    rw [hwd] at HW1 hwl HB0
    rw [hwd]
    clear hwd
    refine uq (i := 0) rfl ?_
    try simp only [aP]
    refine uq (i := 1) rfl ?_
    try simp only [aP]
    refine uq (i := 3) rfl ?_
    try simp only [aP]
    refine uq (i := 4) rfl ?_
    try simp only [aP]
    refine uq (i := 5) rfl ?_
    try simp only [aP]
    refine wpAnyH_ready (rs := [2, 6, 8]) (by kernel_rfl) (by simp) ?_
    refine cq rfl (fun K hK => ?_) (cq rfl (fun K hK => ?_) (cq rfl (fun K hK => ?_) AllReadyH.nil))
    · go_simp
      try go_wp2_with fail
      refine hK.out _ _ (trivial) (fun hHeld => ?_)
      clear hK K
      try simp only [aP]
      refine wpAnyH_ready (rs := [6, 8]) (by kernel_rfl) (by simp) ?_
      refine cq rfl (fun K hK => ?_) (cq rfl (fun K hK => ?_) AllReadyH.nil)
      · go_simp
        try go_wp2_with fail
        refine hK.out _ _ (trivial) (fun hHeld => ?_)
        clear hK K
        try simp only [aP]
        refine uq (i := 7) rfl ?_
        try simp only [aP]
        refine wpAnyH_ready (rs := [8]) (by kernel_rfl) (by simp) ?_
        refine cq rfl (fun K hK => ?_) AllReadyH.nil
        go_simp
        try go_wp2_with fail
        refine hK.out _ _ (trivial) (fun hHeld => ?_)
        clear hK K
        try simp only [aP]
        obtain ⟨k1, k2, k3, kb, ks⟩ := three_new wd (.cells MA 41) (.cells MU 41) (.cells #[.slice (some ⟨wd.heap.size, 0, none⟩) n n, .slice (some ⟨wd.heap.size + 1, 0, none⟩) (n + 1) (n + 1)] 46)
        have HWM := Lib.hid (web_made (w0 := w) (us := us) (n := n) hwl HW1.out kb ks k1 HMA.out HMU.out k2 k3 (by omega) (by omega) (by omega) (by omega) (by omega) (by omega))
        clear k1 k2 k3 kb ks
        refine rq 9 rfl fun K hK => ?_
        go_simp
        try go_wp2_with fail
        refine hK.out _ _ (trivial) (fun hHeld => ?_)
        clear hK K
        try simp only [aP]
        refine dq ?_
        go_wp2_with fail
        go_meet
        case rel => exact ⟨_, _, _, rfl, ⟨_, HWM.out.1, HWM.out.2.1⟩, HB0.out.trans (HWM.out.2.2.mono HB0.out.size)⟩
      · go_simp
        try go_wp2_with fail
        refine hK.out _ _ (trivial) (fun hHeld => ?_)
        clear hK K
        try simp only [aP]
        refine wpAnyH_ready (rs := [6]) (by kernel_rfl) (by simp) ?_
        refine cq rfl (fun K hK => ?_) AllReadyH.nil
        go_simp
        try go_wp2_with fail
        refine hK.out _ _ (trivial) (fun hHeld => ?_)
        clear hK K
        try simp only [aP]
        refine uq (i := 7) rfl ?_
        try simp only [aP]
        obtain ⟨k1, k2, k3, kb, ks⟩ := three_new wd (.cells MA 41) (.cells #[.slice (some ⟨wd.heap.size, 0, none⟩) n n, .slice (some ⟨wd.heap.size + 1 + 1, 0, none⟩) (n + 1) (n + 1)] 46) (.cells MU 41)
        have HWM := Lib.hid (web_made (w0 := w) (us := us) (n := n) hwl HW1.out kb ks k1 HMA.out HMU.out k3 k2 (by omega) (by omega) (by omega) (by omega) (by omega) (by omega))
        clear k1 k2 k3 kb ks
        refine rq 9 rfl fun K hK => ?_
        go_simp
        try go_wp2_with fail
        refine hK.out _ _ (trivial) (fun hHeld => ?_)
        clear hK K
        try simp only [aP]
        refine dq ?_
        go_wp2_with fail
        go_meet
        case rel => exact ⟨_, _, _, rfl, ⟨_, HWM.out.1, HWM.out.2.1⟩, HB0.out.trans (HWM.out.2.2.mono HB0.out.size)⟩
    · go_simp
      try go_wp2_with fail
      refine hK.out _ _ (trivial) (fun hHeld => ?_)
      clear hK K
      try simp only [aP]
      refine wpAnyH_ready (rs := [2, 8]) (by kernel_rfl) (by simp) ?_
      refine cq rfl (fun K hK => ?_) (cq rfl (fun K hK => ?_) AllReadyH.nil)
      · go_simp
        try go_wp2_with fail
        refine hK.out _ _ (trivial) (fun hHeld => ?_)
        clear hK K
        try simp only [aP]
        refine uq (i := 7) rfl ?_
        try simp only [aP]
        refine wpAnyH_ready (rs := [8]) (by kernel_rfl) (by simp) ?_
        refine cq rfl (fun K hK => ?_) AllReadyH.nil
        go_simp
        try go_wp2_with fail
        refine hK.out _ _ (trivial) (fun hHeld => ?_)
        clear hK K
        try simp only [aP]
        obtain ⟨k1, k2, k3, kb, ks⟩ := three_new wd (.cells MU 41) (.cells MA 41) (.cells #[.slice (some ⟨wd.heap.size + 1, 0, none⟩) n n, .slice (some ⟨wd.heap.size, 0, none⟩) (n + 1) (n + 1)] 46)
        have HWM := Lib.hid (web_made (w0 := w) (us := us) (n := n) hwl HW1.out kb ks k2 HMA.out HMU.out k1 k3 (by omega) (by omega) (by omega) (by omega) (by omega) (by omega))
        clear k1 k2 k3 kb ks
        refine rq 9 rfl fun K hK => ?_
        go_simp
        try go_wp2_with fail
        refine hK.out _ _ (trivial) (fun hHeld => ?_)
        clear hK K
        try simp only [aP]
        refine dq ?_
        go_wp2_with fail
        go_meet
        case rel => exact ⟨_, _, _, rfl, ⟨_, HWM.out.1, HWM.out.2.1⟩, HB0.out.trans (HWM.out.2.2.mono HB0.out.size)⟩
      · go_simp
        try go_wp2_with fail
        refine hK.out _ _ (trivial) (fun hHeld => ?_)
        clear hK K
        try simp only [aP]
        refine wpAnyH_ready (rs := [2]) (by kernel_rfl) (by simp) ?_
        refine cq rfl (fun K hK => ?_) AllReadyH.nil
        go_simp
        try go_wp2_with fail
        refine hK.out _ _ (trivial) (fun hHeld => ?_)
        clear hK K
        try simp only [aP]
        refine uq (i := 7) rfl ?_
        try simp only [aP]
        obtain ⟨k1, k2, k3, kb, ks⟩ := three_new wd (.cells MU 41) (.cells #[.slice (some ⟨wd.heap.size + 1 + 1, 0, none⟩) n n, .slice (some ⟨wd.heap.size, 0, none⟩) (n + 1) (n + 1)] 46) (.cells MA 41)
        have HWM := Lib.hid (web_made (w0 := w) (us := us) (n := n) hwl HW1.out kb ks k3 HMA.out HMU.out k1 k2 (by omega) (by omega) (by omega) (by omega) (by omega) (by omega))
        clear k1 k2 k3 kb ks
        refine rq 9 rfl fun K hK => ?_
        go_simp
        try go_wp2_with fail
        refine hK.out _ _ (trivial) (fun hHeld => ?_)
        clear hK K
        try simp only [aP]
        refine dq ?_
        go_wp2_with fail
        go_meet
        case rel => exact ⟨_, _, _, rfl, ⟨_, HWM.out.1, HWM.out.2.1⟩, HB0.out.trans (HWM.out.2.2.mono HB0.out.size)⟩
    · go_simp
      try go_wp2_with fail
      refine hK.out _ _ (trivial) (fun hHeld => ?_)
      clear hK K
      try simp only [aP]
      refine wpAnyH_ready (rs := [2, 6]) (by kernel_rfl) (by simp) ?_
      refine cq rfl (fun K hK => ?_) (cq rfl (fun K hK => ?_) AllReadyH.nil)
      · go_simp
        try go_wp2_with fail
        refine hK.out _ _ (trivial) (fun hHeld => ?_)
        clear hK K
        try simp only [aP]
        refine wpAnyH_ready (rs := [6]) (by kernel_rfl) (by simp) ?_
        refine cq rfl (fun K hK => ?_) AllReadyH.nil
        go_simp
        try go_wp2_with fail
        refine hK.out _ _ (trivial) (fun hHeld => ?_)
        clear hK K
        try simp only [aP]
        refine uq (i := 7) rfl ?_
        try simp only [aP]
        obtain ⟨k1, k2, k3, kb, ks⟩ := three_new wd (.cells #[.slice (some ⟨wd.heap.size + 1, 0, none⟩) n n, .slice (some ⟨wd.heap.size + 1 + 1, 0, none⟩) (n + 1) (n + 1)] 46) (.cells MA 41) (.cells MU 41)
        have HWM := Lib.hid (web_made (w0 := w) (us := us) (n := n) hwl HW1.out kb ks k2 HMA.out HMU.out k3 k1 (by omega) (by omega) (by omega) (by omega) (by omega) (by omega))
        clear k1 k2 k3 kb ks
        refine rq 9 rfl fun K hK => ?_
        go_simp
        try go_wp2_with fail
        refine hK.out _ _ (trivial) (fun hHeld => ?_)
        clear hK K
        try simp only [aP]
        refine dq ?_
        go_wp2_with fail
        go_meet
        case rel => exact ⟨_, _, _, rfl, ⟨_, HWM.out.1, HWM.out.2.1⟩, HB0.out.trans (HWM.out.2.2.mono HB0.out.size)⟩
      · go_simp
        try go_wp2_with fail
        refine hK.out _ _ (trivial) (fun hHeld => ?_)
        clear hK K
        try simp only [aP]
        refine wpAnyH_ready (rs := [2]) (by kernel_rfl) (by simp) ?_
        refine cq rfl (fun K hK => ?_) AllReadyH.nil
        go_simp
        try go_wp2_with fail
        refine hK.out _ _ (trivial) (fun hHeld => ?_)
        clear hK K
        try simp only [aP]
        refine uq (i := 7) rfl ?_
        try simp only [aP]
        obtain ⟨k1, k2, k3, kb, ks⟩ := three_new wd (.cells #[.slice (some ⟨wd.heap.size + 1 + 1, 0, none⟩) n n, .slice (some ⟨wd.heap.size + 1, 0, none⟩) (n + 1) (n + 1)] 46) (.cells MU 41) (.cells MA 41)
        have HWM := Lib.hid (web_made (w0 := w) (us := us) (n := n) hwl HW1.out kb ks k3 HMA.out HMU.out k2 k1 (by omega) (by omega) (by omega) (by omega) (by omega) (by omega))
        clear k1 k2 k3 kb ks
        refine rq 9 rfl fun K hK => ?_
        go_simp
        try go_wp2_with fail
        refine hK.out _ _ (trivial) (fun hHeld => ?_)
        clear hK K
        try simp only [aP]
        refine dq ?_
        go_wp2_with fail
        go_meet
        case rel => exact ⟨_, _, _, rfl, ⟨_, HWM.out.1, HWM.out.2.1⟩, HB0.out.trans (HWM.out.2.2.mono HB0.out.size)⟩
  case rest =>
  obtain ⟨A, U, X, rfl, ⟨Bs, hwr, hwb⟩, hbc⟩ := hcut
  have HWR := Lib.hid hwr
  have HWB := Lib.hid hwb
  have HBC := Lib.hid hbc
  obtain ⟨R4, hR4⟩ : ∃ R, w.heap.size = R := ⟨_, rfl⟩
  rw [hR4] at HWB HWR
  have HR4 : Hid (w.heap.size = R4) := hR4
  clear hwr hwb hbc hmk hmk2 HMA HMU HW1 hwl HB0 hwr1
  try rw [hR4]
  clear hR4
  go_wp2
  go_loopw [6, 7, 9, 20] (fun _ _ _ y wr => ∃ (i : Nat) (V : Nat → Value), i ≤ n ∧ y = .int .i64 (i : Int) ∧ Wb R4 A U X Bs n (bhL us i) V wr ∧ Below w.heap.size w wr) (fun _ _ _ y _ => n - (intOf y).toNat)
  case atStart => exact ⟨0, _, Nat.zero_le _, rfl, HWB.out, HBC.out⟩
  case round =>
    obtain ⟨i, V, hi, rfl, hwb, hbel⟩ := hrel
    have HWI := Lib.hid hwb
    have HBE := Lib.hid hbel
    clear hwb
    by_cases hil : i < n
    · have hil' : (i : Int) < (n : Int) := by omega
      have hi0 : (0 : Int) ≤ (i : Int) := by omega
      obtain ⟨u, hu⟩ : ∃ u, us[i]? = some u := ⟨_, List.getElem?_eq_getElem (by rw [HN.out]; exact hil)⟩
      have HUU := Lib.hid hu
      obtain ⟨b, o', d1, e1, d2, e2, rfl, hc⟩ := HIT.out i u hu
      obtain ⟨⟨q0, q1, q2, q3, q4⟩, _⟩ := hc wr hbel
      have hml : u.fNeeds.length ≤ 20 := HU.out.nds u (List.mem_of_getElem? hu)
      have HNB0 : Hid (∀ W, Below w.heap.size w W → Calls Try.prog 40 #[.slice (some ⟨b, o', none⟩) n c, .agg #[.string u.fName, .slice d1 u.fAfter.length e1, .slice d2 u.fNeeds.length e2, .string u.fExec, .bool u.fKeep]] W fun e w' => (∃ g o cap, e = .returned (.slice (some ⟨g, o, none⟩) (nds us u).length cap) ∧ fi.Ib W.heap.size w' g o cap (nds us u)) ∧ Below W.heap.size W w') := fun W h => HNE.out u _ d2 e2 W (List.mem_of_getElem? hu) h (hc W h).2
      have HNL : Hid ((nds us u).length = u.fNeeds.length) := nds_len us u
      have HLE : Hid (∀ x ∈ nds us u, x ≤ n) := fun x hx => by rw [← HN.out]; exact nds_le hx
      obtain ⟨P, hP⟩ : ∃ P, u.fName = P := ⟨_, rfl⟩
      obtain ⟨ml, hmm⟩ : ∃ q, u.fNeeds.length = q := ⟨_, rfl⟩
      obtain ⟨al, hal⟩ : ∃ q, u.fAfter.length = q := ⟨_, rfl⟩
      obtain ⟨xe, hxe⟩ : ∃ q, u.fExec = q := ⟨_, rfl⟩
      obtain ⟨kp, hkp⟩ : ∃ q, u.fKeep = q := ⟨_, rfl⟩
      rw [hP] at q0
      rw [hal] at q1
      rw [hmm] at q2 hml HNL
      rw [hxe] at q3
      rw [hkp] at q4
      rw [hP, hal, hmm, hxe, hkp] at HNB0
      obtain ⟨WA, hWA⟩ : ∃ WA, WA = wr.alloc (.cells #[.string P, .slice d1 al e1, .slice d2 ml e2, .string xe, .bool kp] 31) := ⟨_, rfl⟩
      have HAB : Hid (Below wr.heap.size wr WA) := by show Below _ _ _; rw [hWA]; exact (Below.refl _ _).alloc (Nat.le_refl _) _
      have HWA := Lib.hid (HWI.out.below HAB.out)
      have HS5 : Hid (∀ w', Below WA.heap.size WA w' → w'.cell? ⟨X, 0, none⟩ = some (.slice (some ⟨A, 0, none⟩) n n) ∧ w'.cell? ⟨wr.heap.size, 0, none⟩ = some (.string P) ∧ w'.cell? ⟨wr.heap.size, 1, none⟩ = some (.slice d1 al e1) ∧ w'.cell? ⟨wr.heap.size, 2, none⟩ = some (.slice d2 ml e2) ∧ w'.cell? ⟨wr.heap.size, 3, none⟩ = some (.string xe) ∧ w'.cell? ⟨wr.heap.size, 4, none⟩ = some (.bool kp)) := fun W h => by
        have k := fun j => h.cell (p := ⟨wr.heap.size, j, none⟩) (by show wr.heap.size < _; rw [hWA]; simp)
        refine ⟨(HWA.out.below h).rX.cell (i := 0) (by omega), ?_⟩
        rw [k 0, k 1, k 2, k 3, k 4, hWA]
        exact ⟨by simp [go_sem], by simp [go_sem], by simp [go_sem], by simp [go_sem], by simp [go_sem]⟩
      have HD5 : Hid (Below WA.heap.size WA (wr.alloc (.cells #[.string P, .slice d1 al e1, .slice d2 ml e2, .string xe, .bool kp] 31)).drew) := by show Below _ _ _; rw [← hWA]; exact (Below.refl _ _).drew
      have HNB : Hid (∀ W, Below WA.heap.size WA W → Calls Try.prog 40 #[.slice (some ⟨b, o', none⟩) n c, .agg #[.string P, .slice d1 al e1, .slice d2 ml e2, .string xe, .bool kp]] W fun e w' => (∃ g o cap, e = .returned (.slice (some ⟨g, o, none⟩) (nds us u).length cap) ∧ fi.Ib W.heap.size w' g o cap (nds us u)) ∧ Below W.heap.size W w') := fun W h => HNB0.out W ((HBE.out.trans (HAB.out.mono HBE.out.size)).trans (h.mono (HBE.out.trans (HAB.out.mono HBE.out.size)).size))
      have hAw : wr.heap.size ≠ A := by have := HWI.out.rr; have := HWI.out.sz; omega
      clear hu hc hP hmm hal hxe hkp hWA hbel HNB0
      go_upto_region 5 with fail
      refine wp_region_held_drew (S := fun w' => w'.cell? ⟨X, 0, none⟩ = some (.slice (some ⟨A, 0, none⟩) n n) ∧ w'.cell? ⟨wr.heap.size, 0, none⟩ = some (.string P) ∧ w'.cell? ⟨wr.heap.size, 1, none⟩ = some (.slice d1 al e1) ∧ w'.cell? ⟨wr.heap.size, 2, none⟩ = some (.slice d2 ml e2) ∧ w'.cell? ⟨wr.heap.size, 3, none⟩ = some (.string xe) ∧ w'.cell? ⟨wr.heap.size, 4, none⟩ = some (.bool kp)) (by kernel_rfl) (HS5.out _ HD5.out) (fun hHeld => ?_)
      refine uq (i := 0) rfl ?_
      try simp only [aP]
      refine uq (i := 1) rfl ?_
      try simp only [aP]
      refine uq (i := 2) rfl ?_
      try simp only [aP]
      refine uq (i := 3) rfl ?_
      try simp only [aP]
      refine uq (i := 4) rfl ?_
      try simp only [aP]
      refine uq (i := 5) rfl ?_
      try simp only [aP]
      refine rq 6 rfl fun K hK => ?_
      go_simp
      (go_at_call 40; refine (HNB.out _ HD5.out).mono ?_; rintro e w2 ⟨⟨g, o, cap, rfl, hib2⟩, hl2⟩)
      try go_wp2_with fail
      have HD6 := Lib.hid (HD5.out.trans (hl2.mono HD5.out.size))
      refine hK.out _ _ (HS5.out _ HD6.out) (fun hHeld => ?_)
      clear hK K
      try simp only [aP]
      refine uq (i := 7) rfl ?_
      try simp only [aP]
      have HW2 := Lib.hid (HWA.out.below HD6.out)
      obtain ⟨fA, hfA⟩ := HW2.out.ra
      have a0 := hfA.cell (i := i) (by omega)
      have a1 := hfA.frozen i
      have HW3 := Lib.hid (HW2.out.ahead i (.slice (some ⟨g, o, none⟩) (nds us u).length cap))
      have HC3 : Hid ((w2.setCell ⟨A, i, none⟩ (.slice (some ⟨g, o, none⟩) (nds us u).length cap)).cell? ⟨A, i, none⟩ = some (.slice (some ⟨g, o, none⟩) (nds us u).length cap)) := by
        have := (hfA.set i (.slice (some ⟨g, o, none⟩) (nds us u).length cap)).cell (i := i) (by omega)
        rw [if_pos rfl] at this
        exact this
      have HGA : Hid (g ≠ A ∧ g ≠ X ∧ g ≠ U ∧ g ≠ R4 ∧ ∀ j, j < n + 1 → (V j).ownBlock ≠ some g) := HWA.out.fresh (Nat.le_trans HD5.out.size hib2.new)
      have HI3 : Hid (fi.Ib wr.heap.size (w2.setCell ⟨A, i, none⟩ (.slice (some ⟨g, o, none⟩) (nds us u).length cap)) g o cap (nds us u)) := (hib2.kept (by simp) (ty.blk_oth HGA.out.1)).mono (Nat.le_trans HAB.out.size HD5.out.size)
      have HB3 := Lib.hid ((HBE.out.trans (HAB.out.mono HBE.out.size)).trans (HD6.out.mono (HBE.out.trans (HAB.out.mono HBE.out.size)).size))
      have HB4 : Hid (Below w.heap.size w (w2.setCell ⟨A, i, none⟩ (.slice (some ⟨g, o, none⟩) (nds us u).length cap))) := HB3.out.setCell HWR.out.lA _
      clear hHeld hfA hib2 hl2
      refine rq 8 rfl fun K hK => ?_
      go_simp
      try go_wp2_with fail
      refine hK.out _ _ (by
        have k := HS5.out _ HD6.out
        refine ⟨?_, ?_, ?_, ?_, ?_, ?_⟩
        · exact (World.cell?_of_block (a := ⟨X, 0, none⟩) (ty.blk_oth HWR.out.xA)).trans k.1
        · exact (World.cell?_of_block (a := ⟨wr.heap.size, 0, none⟩) (ty.blk_oth hAw)).trans k.2.1
        · exact (World.cell?_of_block (a := ⟨wr.heap.size, 1, none⟩) (ty.blk_oth hAw)).trans k.2.2.1
        · exact (World.cell?_of_block (a := ⟨wr.heap.size, 2, none⟩) (ty.blk_oth hAw)).trans k.2.2.2.1
        · exact (World.cell?_of_block (a := ⟨wr.heap.size, 3, none⟩) (ty.blk_oth hAw)).trans k.2.2.2.2.1
        · exact (World.cell?_of_block (a := ⟨wr.heap.size, 4, none⟩) (ty.blk_oth hAw)).trans k.2.2.2.2.2) (fun hHeld => ?_)
      clear hK K
      try simp only [aP]
      refine dq ?_
      generalize hW3 : w2.setCell ⟨A, i, none⟩ (.slice (some ⟨g, o, none⟩) (nds us u).length cap) = w3 at *
      clear hW3 a0 a1 hHeld HS5 HD5 HD6 HB3 HNB
      have lX0 : w3.cell? ⟨X, 0, none⟩ = some (.slice (some ⟨A, 0, none⟩) n n) := HW3.out.rX.cell (i := 0) (by omega)
      have lA0 := HC3.out
      have HK3 : Hid (Wb R4 A U X Bs n (bhK us i (nds us u) 0) V w3) := by
        have e : bhK us i (nds us u) 0 = bhL us i := by funext z; exact bhK_zero us i _ z
        show Wb _ _ _ _ _ _ _ _ _
        rw [e]
        exact HW3.out
      have HLN : Hid ((nds us u).length ≤ 20) := by show _ ≤ _; rw [HNL.out]; exact hml
      have hBw : Bs ≤ wr.heap.size := HWI.out.sz
      obtain ⟨ll, hll⟩ : ∃ q, (nds us u).length = q := ⟨_, rfl⟩
      have HLL : Hid ((nds us u).length = ll) := hll
      rw [hll] at lA0
      try rw [hll]
      have hll2 : ll ≤ 20 := by have h := HLN.out; rw [hll] at h; exact h
      clear hll HW3 HC3
      obtain ⟨wo, hwo⟩ : ∃ wo, wo = wr := ⟨_, rfl⟩
      rw [← hwo] at HI3 hBw
      clear hwo
      go_wp2
      go_loopw [9, 39] (fun _ y wx => ∃ (j : Nat) (V : Nat → Value), j ≤ ll ∧ y = .int .i64 (j : Int) ∧ Wb R4 A U X Bs n (bhK us i (nds us u) j) V wx ∧ (∀ k, k < n + 1 → (V k).ownBlock ≠ some g) ∧ fi.Ib wo.heap.size wx g o cap (nds us u) ∧ Below w.heap.size w wx) (fun _ y _ => ll - (intOf y).toNat)
      case atStart => exact ⟨0, V, Nat.zero_le _, rfl, HK3.out, HGA.out.2.2.2.2, HI3.out, HB4.out⟩
      case round =>
        obtain ⟨j, V', hj, rfl, hwb, hno, hib, hbel⟩ := hrel
        have HWJ := Lib.hid hwb
        have HNO := Lib.hid hno
        have HIJ := Lib.hid hib
        have HBJ := Lib.hid hbel
        clear hwb hno hib hbel
        by_cases hjl : j < ll
        · have hjl' : (j : Int) < (ll : Int) := by omega
          have hj0 : (0 : Int) ≤ (j : Int) := by omega
          obtain ⟨x, hx⟩ : ∃ x, (nds us u)[j]? = some x := ⟨_, List.getElem?_eq_getElem (by rw [HLL.out]; exact hjl)⟩
          have hxn : x ≤ n := HLE.out x (List.mem_of_getElem? hx)
          have cx : wr.cell? ⟨g, o + j, none⟩ = some (.int .i64 (x : Int)) := by
            have := HIJ.out.cells j (by rw [HLL.out]; exact hjl)
            rw [(List.getElem?_eq_some_iff.1 hx).2] at this
            exact this
          have HST : Hid (∀ z, z < n + 1 → (if z = x then bhK us i (nds us u) j x ++ [i] else bhK us i (nds us u) j z) = bhK us i (nds us u) (j + 1) z) := fun z _ => bhK_step hx z
          have HKL : Hid ((bhK us i (nds us u) j x).length ≤ 2000000) := by show _ ≤ _; have := bhK_len HU.out (us := us) (i := i) (j := j) (x := x) HLN.out; omega
          have hxi : (x : Int) < (n : Int) + 1 := by omega
          have hxi2 : (x : Int) < ((n + 1 : Nat) : Int) := by omega
          have hx0 : (0 : Int) ≤ (x : Int) := by omega
          have HDr : Hid (Below wr.heap.size wr wr.drew) := (Below.refl _ _).drew
          have HWd := Lib.hid (HWJ.out.below HDr.out)
          have HId := Lib.hid (HIJ.out.below HDr.out)
          have HBd := Lib.hid (HBJ.out.trans (HDr.out.mono HBJ.out.size))
          have HXd : Hid (wr.drew.cell? ⟨X, 1, none⟩ = some (.slice (some ⟨U, 0, none⟩) (n + 1) (n + 1))) := HWd.out.rX.cell (i := 1) (by omega)
          clear hx HWJ HIJ HBJ HDr
          go_upto_region 9 with fail
          refine wp_region_held_drew (S := fun w' => w'.cell? ⟨X, 1, none⟩ = some (.slice (some ⟨U, 0, none⟩) (n + 1) (n + 1))) (by kernel_rfl) HXd.out (fun hHeld => ?_)
          obtain ⟨wd, hwd⟩ : ∃ z, wr.drew = z := ⟨_, rfl⟩
          rw [hwd] at HWd HId HBd HXd hHeld
          rw [hwd]
          clear hwd
          have HAd : Hid (Below wd.heap.size wd (wd.alloc (.cells #[.int .i64 (i : Int)] 3))) := (Below.refl _ _).alloc (Nat.le_refl _) _
          have l7 : wd.cell? ⟨U, x, none⟩ = some (V' x) := HWd.out.bh.row.cell (i := x) (by omega)
          have HWa := Lib.hid (HWd.out.below HAd.out)
          have l7a : (wd.alloc (.cells #[.int .i64 (i : Int)] 3)).cell? ⟨U, x, none⟩ = some (V' x) := HWa.out.bh.row.cell (i := x) (by omega)
          have HXa : Hid ((wd.alloc (.cells #[.int .i64 (i : Int)] 3)).cell? ⟨X, 1, none⟩ = some (.slice (some ⟨U, 0, none⟩) (n + 1) (n + 1))) := HWa.out.rX.cell (i := 1) (by omega)
          have hRR := HWR.out
          obtain ⟨_, W6, hap, ⟨a6, l6, c6, rfl⟩, hrow6, ⟨V6, hV6, hG6⟩, hb6, hi6⟩ := HWa.out.bh.grow hRR.bU (at' := x) (by omega) (x := i) (ad := ⟨wd.heap.size, 0, none⟩) (by rw [World.cell?_alloc_new]; rfl) HWa.out.sz HKL.out
          have c7 : W6.cell? ⟨U, x, none⟩ = some (V' x) := hrow6.cell (i := x) (by omega)
          have q7 : W6.frozen? ⟨U, x, none⟩ = false := hrow6.frozen _
          have noX : ∀ {I}, I < Bs → ∀ j, j < n + 1 → (V' j).ownBlock ≠ some I := fun {I} hI j hj e => by have := ((HWa.out.bh.own j hj).lt I e).1; omega
          have hXa := HWa.out.rX.lt
          have c7x : W6.cell? ⟨X, 1, none⟩ = some (.slice (some ⟨U, 0, none⟩) (n + 1) (n + 1)) := (World.cell?_of_block (a := ⟨X, 1, none⟩) (hi6 X hXa (noX hRR.bX))).trans HXa.out
          have HX6 : Hid ((W6.setCell ⟨U, x, none⟩ (.slice a6 l6 c6)).cell? ⟨X, 1, none⟩ = some (.slice (some ⟨U, 0, none⟩) (n + 1) (n + 1))) := (World.cell?_of_block (a := ⟨X, 1, none⟩) (ty.blk_oth hRR.xU)).trans c7x
          have hb6' := hb6 w.heap.size hRR.lU (Nat.le_trans HBd.out.size HAd.out.size)
          have hs6 := (hb6 0 (Nat.zero_le _) (Nat.zero_le _)).size
          have hk6 : ∀ I, I < (wd.alloc (.cells #[.int .i64 (i : Int)] 3)).heap.size → I ≠ U → (∀ j, j < n + 1 → (V' j).ownBlock ≠ some I) → (W6.setCell ⟨U, x, none⟩ (.slice a6 l6 c6)).heap[I]? = (wd.alloc (.cells #[.int .i64 (i : Int)] 3)).heap[I]? := fun I h1 h2 h3 => (ty.blk_oth h2).trans (hi6 I h1 h3)
          have HW6 : Hid (Wb R4 A U X Bs n (bhK us i (nds us u) (j + 1)) V6 (W6.setCell ⟨U, x, none⟩ (.slice a6 l6 c6))) := HWa.out.grown hRR.U4 hRR.xU (hV6.congr HST.out) hk6 hs6
          have hIa := HId.out.below HAd.out
          have HC6 : Hid (∀ k, k < n + 1 → (V6 k).ownBlock ≠ some g) := hG6 g hIa.lt HNO.out
          have HI6 : Hid (fi.Ib wo.heap.size (W6.setCell ⟨U, x, none⟩ (.slice a6 l6 c6)) g o cap (nds us u)) := hIa.kept hs6 (hk6 g hIa.lt (by have := hIa.new; have := hRR.bU; omega) HNO.out)
          have HB6 : Hid (Below w.heap.size w (W6.setCell ⟨U, x, none⟩ (.slice a6 l6 c6))) := (HBd.out.trans (HAd.out.mono HBd.out.size)).trans hb6'
          clear hRR hrow6 hV6 hG6 hb6 hi6 noX hXa hb6' hs6 hk6 hIa HWa HST
          refine uq (i := 0) rfl ?_
          try simp only [aP]
          refine uq (i := 1) rfl ?_
          try simp only [aP]
          refine uq (i := 2) rfl ?_
          try simp only [aP]
          refine uq (i := 3) rfl ?_
          try simp only [aP]
          refine uq (i := 4) rfl ?_
          try simp only [aP]
          refine uq (i := 5) rfl ?_
          try simp only [aP]
          refine uq (i := 6) rfl ?_
          try simp only [aP]
          refine uq (i := 8) rfl ?_
          try simp only [aP]
          refine wpAnyH_ready (rs := [7, 9]) (by kernel_rfl) (by simp) ?_
          refine cq rfl (fun K hK => ?_) (cq rfl (fun K hK => ?_) AllReadyH.nil)
          · go_simp
            try go_wp2_with fail
            refine hK.out _ _ (HXd.out) (fun hHeld => ?_)
            clear hK K
            try simp only [aP]
            refine wpAnyH_ready (rs := [9]) (by kernel_rfl) (by simp) ?_
            refine cq rfl (fun K hK => ?_) AllReadyH.nil
            go_simp
            try go_wp2_with fail
            refine hK.out _ _ (HXa.out) (fun hHeld => ?_)
            clear hK K
            try simp only [aP]
            refine rq 10 rfl fun K hK => ?_
            refine fi.wp_appI _ _ rfl rfl rfl rfl hap ?_
            refine hK.out _ _ c7x (fun hHeld => ?_)
            clear hK K
            try simp only [aP]
            refine uq (i := 11) rfl ?_
            try simp only [aP]
            refine rq 12 rfl fun K hK => ?_
            go_simp
            try go_wp2_with fail
            refine hK.out _ _ HX6.out (fun hHeld => ?_)
            clear hK K
            try simp only [aP]
            refine dq ?_
            go_wp2
            go_roundw
            case rel => exact ⟨j + 1, V6, by omega, by go_num, HW6.out, HC6.out, HI6.out, HB6.out⟩
            case measure => simp [intOf]; omega
          · go_simp
            try go_wp2_with fail
            refine hK.out _ _ (HXa.out) (fun hHeld => ?_)
            clear hK K
            try simp only [aP]
            refine wpAnyH_ready (rs := [7]) (by kernel_rfl) (by simp) ?_
            refine cq rfl (fun K hK => ?_) AllReadyH.nil
            go_simp
            try go_wp2_with fail
            refine hK.out _ _ (HXa.out) (fun hHeld => ?_)
            clear hK K
            try simp only [aP]
            refine rq 10 rfl fun K hK => ?_
            refine fi.wp_appI _ _ rfl rfl rfl rfl hap ?_
            refine hK.out _ _ c7x (fun hHeld => ?_)
            clear hK K
            try simp only [aP]
            refine uq (i := 11) rfl ?_
            try simp only [aP]
            refine rq 12 rfl fun K hK => ?_
            go_simp
            try go_wp2_with fail
            refine hK.out _ _ HX6.out (fun hHeld => ?_)
            clear hK K
            try simp only [aP]
            refine dq ?_
            go_wp2
            go_roundw
            case rel => exact ⟨j + 1, V6, by omega, by go_num, HW6.out, HC6.out, HI6.out, HB6.out⟩
            case measure => simp [intOf]; omega
        · have hjl' : ¬ (j : Int) < (ll : Int) := by omega
          obtain rfl : j = ll := by omega
          have HWN : Hid (Wb R4 A U X Bs n (bhL us (i + 1)) V' wr) := ⟨HWJ.out.r4, HWJ.out.rX, HWJ.out.ra, HWJ.out.bh.congr fun z _ => by rw [← HLL.out]; exact bhK_all HUU.out z, HWJ.out.sz, HWJ.out.rr⟩
          go_wp2
          go_roundw
          case rel => exact ⟨i + 1, V', by omega, by go_num, HWN.out, HBJ.out⟩
          case measure => simp [intOf]; omega
    · have hil' : ¬ (i : Int) < (n : Int) := by omega
      obtain rfl : i = n := by omega
      have x0 : wr.cell? ⟨X, 0, none⟩ = some (.slice (some ⟨A, 0, none⟩) i i) := HWI.out.rX.cell (i := 0) (by omega)
      have x1 : wr.cell? ⟨X, 1, none⟩ = some (.slice (some ⟨U, 0, none⟩) (i + 1) (i + 1)) := HWI.out.rX.cell (i := 1) (by omega)
      have y0 := HWI.out.r4.cell (i := 0) (by omega)
      have y1 := HWI.out.r4.cell (i := 1) (by omega)
      have z0 := HWI.out.r4.frozen 0
      have z1 := HWI.out.r4.frozen 1
      have HE := Lib.hid HWI.out.bh
      have hR := HWR.out
      have HF : Hid (BhV Bs U (i + 1) (bhL us i) V ((wr.setCell ⟨R4, 0, none⟩ (.slice (some ⟨A, 0, none⟩) i i)).setCell ⟨R4, 1, none⟩ (.slice (some ⟨U, 0, none⟩) (i + 1) (i + 1)))) := (HE.out.store (Ne.symm hR.U4) hR.b4 0 _).store (Ne.symm hR.U4) hR.b4 1 _
      have HG4 := Lib.hid ((HWI.out.r4.set 0 (.slice (some ⟨A, 0, none⟩) i i)).set 1 (.slice (some ⟨U, 0, none⟩) (i + 1) (i + 1)))
      have k0 : ((wr.setCell ⟨R4, 0, none⟩ (.slice (some ⟨A, 0, none⟩) i i)).setCell ⟨R4, 1, none⟩ (.slice (some ⟨U, 0, none⟩) (i + 1) (i + 1))).cell? ⟨R4, 0, none⟩ = some (.slice (some ⟨A, 0, none⟩) i i) := (HG4.out.cell (i := 0) (by omega)).trans (by simp)
      have k1 : ((wr.setCell ⟨R4, 0, none⟩ (.slice (some ⟨A, 0, none⟩) i i)).setCell ⟨R4, 1, none⟩ (.slice (some ⟨U, 0, none⟩) (i + 1) (i + 1))).cell? ⟨R4, 1, none⟩ = some (.slice (some ⟨U, 0, none⟩) (i + 1) (i + 1)) := (HG4.out.cell (i := 1) (by omega)).trans (by simp)
      have HBF : Hid (Below w.heap.size w ((wr.setCell ⟨R4, 0, none⟩ (.slice (some ⟨A, 0, none⟩) i i)).setCell ⟨R4, 1, none⟩ (.slice (some ⟨U, 0, none⟩) (i + 1) (i + 1)))) := (HBE.out.setCell hR.l4 _).setCell hR.l4 _
      have hsz : Bs ≤ ((wr.setCell ⟨R4, 0, none⟩ (.slice (some ⟨A, 0, none⟩) i i)).setCell ⟨R4, 1, none⟩ (.slice (some ⟨U, 0, none⟩) (i + 1) (i + 1))).heap.size := by have := HWI.out.sz; simpa using this
      have HFIN := Lib.hid (And.intro (And.intro hR.lU (And.intro hR.bU hsz)) (And.intro k0 k1))
      clear hbel hR k0 k1 hsz HG4
      go_wp2
      exact retWeb (fn := Try.f20) Try.results20 rfl HFIN.out.2.1 HFIN.out.2.2 ⟨⟨A, U, Bs, V, rfl, HF.out, HFIN.out.1⟩, HBF.out⟩

end Go.Proofs.Ytajpfidgepebgaa.fa

namespace Go.Proofs.Ytajpfidgepebgaa.fw
open Go.ChangeShapes Go.WideShapes Go.ChangeAt Go.RowKit Go.Deep Go.Maps
open fa (Us uNo nds aw aws aw_mem aw_len aw_le BhV Wb WbR)
set_option linter.unusedVariables false
set_option linter.unusedSimpArgs false

/-! ### The web of what is waited for -/

structure Ua (us : List ty.Un) : Prop extends Us us where
  aft : ∀ u ∈ us, u.fAfter.length ≤ 20
theorem ua_of {us : List ty.Un} (h : un.usB us = true) : Ua us := by
  refine ⟨fa.us_of h, fun u hu => ?_⟩
  unfold un.usB at h
  simp only [Bool.and_eq_true, decide_eq_true_eq, List.all_eq_true] at h
  have := h.2.2 u hu
  unfold un.unB at this
  simp only [Bool.and_eq_true, decide_eq_true_eq] at this
  exact this.2.2.1
theorem Ua.len {us : List ty.Un} (h : Ua us) (u : ty.Un) (hu : u ∈ us) : (aw us u).length ≤ 40 := by
  rw [aw_len, ← fa.awK_all]
  have := fa.awK_len us u u.fAfter.length
  have := h.aft u hu
  have := h.nds u hu
  omega
def ndA (us : List ty.Un) (y : Nat) : List Nat := (us[y]?.map (aw us)).getD []
theorem ndA_some {us : List ty.Un} {y : Nat} {u : ty.Un} (h : us[y]? = some u) : ndA us y = aw us u := by unfold ndA; rw [h]; rfl
def bhL (us : List ty.Un) (i x : Nat) : List Nat := (List.range i).flatMap fun y => ((ndA us y).filter fun z => decide (z = x)).map fun _ => y
def bhK (us : List ty.Un) (i : Nat) (l : List Nat) (j x : Nat) : List Nat := bhL us i x ++ ((l.take j).filter fun z => decide (z = x)).map fun _ => i
theorem bhL_zero (us : List ty.Un) (x : Nat) : bhL us 0 x = [] := by simp [bhL]
theorem bhK_zero (us : List ty.Un) (i : Nat) (l : List Nat) (x : Nat) : bhK us i l 0 x = bhL us i x := by simp [bhK]
theorem bhK_all {us : List ty.Un} {i : Nat} {u : ty.Un} (h : us[i]? = some u) (x : Nat) : bhK us i (aw us u) (aw us u).length x = bhL us (i + 1) x := by
  unfold bhK
  rw [List.take_length]
  unfold bhL
  rw [List.range_succ, List.flatMap_append, List.flatMap_singleton, ndA_some h]
theorem bhK_step {us : List ty.Un} {i j x : Nat} {l : List Nat} (h : l[j]? = some x) (z : Nat) : (if z = x then bhK us i l j x ++ [i] else bhK us i l j z) = bhK us i l (j + 1) z := by
  unfold bhK
  rw [List.take_add_one, h, Option.toList_some, List.filter_append, List.map_append]
  by_cases e : z = x
  · subst e
    rw [if_pos rfl, List.filter_cons_of_pos (by simp)]
    simp
  · rw [if_neg e, List.filter_cons_of_neg (by simpa using Ne.symm e)]
    simp
theorem bhL_len {us : List ty.Un} (hU : Ua us) (x : Nat) : ∀ i, (bhL us i x).length ≤ 40 * i
  | 0 => by rw [bhL_zero]; simp
  | i + 1 => by
    have h1 := bhL_len hU x i
    have h2 : ((ndA us i).filter fun z => decide (z = x)).length ≤ 40 := by
      refine Nat.le_trans (List.length_filter_le _ _) ?_
      cases hu : us[i]? with
      | none => unfold ndA; rw [hu]; simp
      | some u => rw [ndA_some hu]; exact hU.len u (List.mem_of_getElem? hu)
    have e : bhL us (i + 1) x = bhL us i x ++ ((ndA us i).filter fun z => decide (z = x)).map fun _ => i := by
      unfold bhL
      rw [List.range_succ, List.flatMap_append, List.flatMap_singleton]
    rw [e, List.length_append, List.length_map]
    omega
theorem bhK_len {us : List ty.Un} (hU : Ua us) {i j x : Nat} {l : List Nat} (hl : l.length ≤ 40) : (bhK us i l j x).length ≤ 40 * i + 40 := by
  have h1 := bhL_len hU x i
  have h2 : ((l.take j).filter fun z => decide (z = x)).length ≤ 40 := by
    refine Nat.le_trans (List.length_filter_le _ _) ?_
    rw [List.length_take]
    omega
  unfold bhK
  rw [List.length_append, List.length_map]
  omega
theorem bhL_mem (us : List ty.Un) (x y : Nat) : y ∈ bhL us us.length x ↔ ∃ u, us[y]? = some u ∧ x ∈ aw us u := by
  unfold bhL
  simp only [List.mem_flatMap, List.mem_range, List.mem_map, List.mem_filter, decide_eq_true_eq]
  constructor
  · rintro ⟨z, hz, q, ⟨hq, rfl⟩, rfl⟩
    refine ⟨us[z], List.getElem?_eq_getElem hz, ?_⟩
    rwa [ndA_some (List.getElem?_eq_getElem hz)] at hq
  · rintro ⟨u, hu, hx⟩
    exact ⟨y, (List.getElem?_eq_some_iff.1 hu).1, x, ⟨by rw [ndA_some hu]; exact hx, rfl⟩, rfl⟩

/-- What stands ahead of each unit, in rows of their own. -/
def Ah (us : List ty.Un) (i Bs A n : Nat) (V : Nat → Value) (w : World) : Prop := ∀ (k : Nat) (u : ty.Un), k < i → us[k]? = some u → ∃ g o cap, w.cell? ⟨A, k, none⟩ = some (.slice (some ⟨g, o, none⟩) (aw us u).length cap) ∧ fi.Ib Bs w g o cap (aw us u) ∧ ∀ j, j < n + 1 → (V j).ownBlock ≠ some g
theorem Ah.zero (us : List ty.Un) (Bs A n : Nat) (V : Nat → Value) (w : World) : Ah us 0 Bs A n V w := fun k u hk => absurd hk (Nat.not_lt_zero k)
theorem Ah.kept {us : List ty.Un} {i Bs A n : Nat} {V V' : Nat → Value} {w w' : World} (h : Ah us i Bs A n V w) (hs : w.heap.size ≤ w'.heap.size) (hA : w'.heap[A]? = w.heap[A]?) (hg : ∀ g, Bs ≤ g → g < w.heap.size → (∀ j, j < n + 1 → (V j).ownBlock ≠ some g) → w'.heap[g]? = w.heap[g]? ∧ ∀ j, j < n + 1 → (V' j).ownBlock ≠ some g) : Ah us i Bs A n V' w' := fun k u hk hu => by
  obtain ⟨g, o, cap, h1, h2, h3⟩ := h k u hk hu
  obtain ⟨h4, h5⟩ := hg g h2.new h2.lt h3
  exact ⟨g, o, cap, (World.cell?_of_block (a := ⟨A, k, none⟩) hA).trans h1, h2.kept hs h4, h5⟩
theorem Ah.below {us : List ty.Un} {i Bs A n : Nat} {V : Nat → Value} {w w' : World} (h : Ah us i Bs A n V w) (hA : A < w.heap.size) (hb : Below w.heap.size w w') : Ah us i Bs A n V w' := h.kept hb.size (hb.block A hA) fun g _ hl hn => ⟨hb.block g hl, hn⟩
theorem Ah.add {us : List ty.Un} {i Bs A n g o cap : Nat} {V : Nat → Value} {w : World} {u : ty.Un} (h : Ah us i Bs A n V w) (hu : us[i]? = some u) (hA : A < Bs) (hc : (w.setCell ⟨A, i, none⟩ (.slice (some ⟨g, o, none⟩) (aw us u).length cap)).cell? ⟨A, i, none⟩ = some (.slice (some ⟨g, o, none⟩) (aw us u).length cap)) (hi : fi.Ib Bs (w.setCell ⟨A, i, none⟩ (.slice (some ⟨g, o, none⟩) (aw us u).length cap)) g o cap (aw us u)) (hn : ∀ j, j < n + 1 → (V j).ownBlock ≠ some g) : Ah us (i + 1) Bs A n V (w.setCell ⟨A, i, none⟩ (.slice (some ⟨g, o, none⟩) (aw us u).length cap)) := fun k x hk hx => by
  rcases Nat.lt_or_ge k i with hki | hki
  · obtain ⟨g', o', cap', h1, h2, h3⟩ := h k x hki hx
    exact ⟨g', o', cap', (World.cell?_setCell_other w ⟨A, i, none⟩ ⟨A, k, none⟩ _ (fun e => by cases e; omega)).trans h1, h2.kept (by simp) (ty.blk_oth (by have := h2.new; omega)), h3⟩
  · obtain rfl : k = i := by omega
    rw [hu] at hx
    cases hx
    exact ⟨g, o, cap, hc, hi, hn⟩

end Go.Proofs.Ytajpfidgepebgaa.fw
