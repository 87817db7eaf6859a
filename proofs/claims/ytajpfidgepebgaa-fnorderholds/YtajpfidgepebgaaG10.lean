import Derived.Test.YtajpfidgepebgaaG09
import Derived.Deep.CutRange
import Derived.Deep.Cut
namespace Go.Proofs.Ytajpfidgepebgaa.du
open Go.ChangeShapes Go.WideShapes Go.ChangeAt Go.RowKit Go.Deep
open Go.Proofs.Ytajpfidgepebgaa.dr (Draws Tab below_can once_can int_any tab_new)
set_option linter.unusedVariables false
set_option linter.unusedSimpArgs false

/-! ### l18Draw -/

theorem rc_new {w2 W : World} {t : TypeId} {arr : Array Value} (h : arr.size = 5) : ∃ f, (W.alloc (.cells arr t)).rowIs W.heap.size t 5 f := ⟨fun j => arr[j]?.getD undef, arr, heap_alloc_new W _, h, fun i hi => by
  have hq : arr[i]? = some (arr[i]'(by omega)) := Array.getElem?_eq_getElem _
  simp [hq]⟩
/-- Draws, perhaps with a unit's five cells laid. -/
structure ZU (w2 W : World) (c : Nat) (a : Option Addr) (n cap : Nat) (ub : Nat) : Prop where
  dr : Draws w2 W c a n cap
  ge : w2.heap.size ≤ ub
  row : ∃ f, W.rowIs ub 31 5 f
theorem ZU.lt {w2 W : World} {c : Nat} {a : Option Addr} {n cap ub : Nat} (h : ZU w2 W c a n cap ub) : ub < W.heap.size := by
  obtain ⟨f, c', hc, _⟩ := h.row
  exact (Array.getElem?_eq_some_iff.1 hc).1
theorem ZU.draws {w2 W W' : World} {c : Nat} {a : Option Addr} {n cap ub : Nat} (h : ZU w2 W c a n cap ub) (hcw : c < w2.heap.size) (d : Draws W W' c a n cap) : ZU w2 W' c a n cap ub := by
  obtain ⟨f, hf⟩ := h.row
  exact ⟨h.dr.trans d, h.ge, f, hf.of_block (d.grown.block ub h.lt (by have := h.ge; simp; omega))⟩
theorem ZU.below {w2 W W' : World} {c : Nat} {a : Option Addr} {n cap ub : Nat} (h : ZU w2 W c a n cap ub) (hc : dr.Can w2 c a n cap) (hcw : c < w2.heap.size) (d : Below W.heap.size W W') : ZU w2 W' c a n cap ub := by
  obtain ⟨f, hf⟩ := h.row
  exact ⟨h.dr.below hc hcw d, h.ge, f, hf.of_block (d.block ub h.lt)⟩
theorem ZU.new {w2 W : World} {c : Nat} {a : Option Addr} {n cap : Nat} (h : Draws w2 W c a n cap) (hc : dr.Can w2 c a n cap) (hcw : c < w2.heap.size) {arr : Array Value} (ha : arr.size = 5) : ZU w2 (W.alloc (.cells arr 31)) c a n cap W.heap.size :=
  ⟨h.alloc hc hcw _, h.grown.size, rc_new (w2 := W) ha⟩
/-- What the loop over After and Needs keeps. -/
structure IR (w2 W : World) (c : Nat) (a : Option Addr) (n cap : Nat) (ub : Nat) (nm ex : ByteArray) (kp : Bool) (k1 k2 : Nat) : Prop where
  st : ∃ a1 e1 l1 a2 e2 l2, UR w2.heap.size W ub nm ex kp (.slice a1 l1.length e1) (.slice a2 l2.length e2) l1 l2 ∧ (l1.length ≤ k1 ∧ l2.length ≤ k2) ∧ (∀ x ∈ l1, x.size ≤ 64) ∧ (∀ x ∈ l2, x.size ≤ 64)
  dr : Draws w2 W c a n cap
theorem IR.draws {w2 W W' : World} {c : Nat} {a : Option Addr} {n cap ub k1 k2 : Nat} {nm ex : ByteArray} {kp : Bool} (h : IR w2 W c a n cap ub nm ex kp k1 k2) (hcw : c < w2.heap.size) (d : Draws W W' c a n cap) : IR w2 W' c a n cap ub nm ex kp k1 k2 := by
  obtain ⟨a1, e1, l1, a2, e2, l2, hu, hr⟩ := h.st
  exact ⟨⟨a1, e1, l1, a2, e2, l2, hu.draws d hcw, hr⟩, h.dr.trans d⟩
theorem IR.more {w2 W : World} {c : Nat} {a : Option Addr} {n cap ub k1 k2 q1 q2 : Nat} {nm ex : ByteArray} {kp : Bool} (h : IR w2 W c a n cap ub nm ex kp k1 k2) (h1 : k1 ≤ q1) (h2 : k2 ≤ q2) : IR w2 W c a n cap ub nm ex kp q1 q2 := by
  obtain ⟨a1, e1, l1, a2, e2, l2, hu, hr, hs⟩ := h.st
  exact ⟨⟨a1, e1, l1, a2, e2, l2, hu, ⟨by omega, by omega⟩, hs⟩, h.dr⟩
/-- A unit's five cells, as they are laid. -/
theorem ur_new {w2 W W' : World} {c : Nat} {a : Option Addr} {n cap ub : Nat} {nm ex : ByteArray} {kp : Bool} (h : ZU w2 W c a n cap ub) (hc : dr.Can w2 c a n cap) (hcw : c < w2.heap.size) (he : W' = ((((W.setCell ⟨ub, 0, none⟩ (.string nm)).setCell ⟨ub, 1, none⟩ (.slice none 0 0)).setCell ⟨ub, 2, none⟩ (.slice none 0 0)).setCell ⟨ub, 3, none⟩ (.string ex)).setCell ⟨ub, 4, none⟩ (.bool kp)) : IR w2 W' c a n cap ub nm ex kp 0 0 := by
  obtain ⟨f, hf⟩ := h.row
  have r0 := hf.set 0 (.string nm)
  have r1 := r0.set 1 (.slice none 0 0)
  have r2 := r1.set 2 (.slice none 0 0)
  have r3 := r2.set 3 (.string ex)
  have r4 := r3.set 4 (.bool kp)
  rw [← he] at r4
  have hb : Below w2.heap.size W W' := by
    rw [he]
    exact (((((Below.refl _ _).setCell h.ge _).setCell h.ge _).setCell h.ge _).setCell h.ge _).setCell h.ge _
  exact ⟨⟨none, 0, [], none, 0, [], ⟨⟨_, r4⟩, by simpa using r4.cell (i := 0) (by omega), by simpa using r4.cell (i := 1) (by omega), by simpa using r4.cell (i := 2) (by omega), by simpa using r4.cell (i := 3) (by omega), by simpa using r4.cell (i := 4) (by omega), h.ge, World.ownsRow_nil _ _ _ _, World.ownsRow_nil _ _ _ _, by simp [Value.ownBlock], by simp [Value.ownBlock], .inl rfl⟩, ⟨Nat.le_refl _, Nat.le_refl _⟩, fun x hx => by simp at hx, fun x hx => by simp at hx⟩, draws_mid h.dr hc hcw hb⟩
theorem ur_new2 {w2 W : World} {c : Nat} {a : Option Addr} {n cap : Nat} {nm ex : ByteArray} {kp : Bool} (h : Draws w2 W c a n cap) (hc : dr.Can w2 c a n cap) (hcw : c < w2.heap.size) : IR w2 (W.alloc (.cells #[.string nm, .slice none 0 0, .slice none 0 0, .string ex, .bool kp] 31)) c a n cap W.heap.size nm ex kp 0 0 := by
  have hz := ZU.new (arr := #[.string nm, .slice none 0 0, .slice none 0 0, .string ex, .bool kp]) h hc hcw rfl
  exact ⟨⟨none, 0, [], none, 0, [], ⟨hz.row, by simp, by simp, by simp, by simp, by simp, hz.ge, World.ownsRow_nil _ _ _ _, World.ownsRow_nil _ _ _ _, by simp [Value.ownBlock], by simp [Value.ownBlock], .inl rfl⟩, ⟨Nat.le_refl _, Nat.le_refl _⟩, fun x hx => by simp at hx, fun x hx => by simp at hx⟩, hz.dr⟩
theorem ZU.cells {w2 W : World} {c : Nat} {a : Option Addr} {n cap ub : Nat} (h : ZU w2 W c a n cap ub) (v0 v1 v2 v3 : Value) : ∃ z0 z1 z2 z3 z4 : Value, (W.cell? ⟨ub, 0, none⟩ = some z0 ∧ W.frozen? ⟨ub, 0, none⟩ = false) ∧
    ((W.setCell ⟨ub, 0, none⟩ v0).cell? ⟨ub, 1, none⟩ = some z1 ∧ (W.setCell ⟨ub, 0, none⟩ v0).frozen? ⟨ub, 1, none⟩ = false) ∧
    (((W.setCell ⟨ub, 0, none⟩ v0).setCell ⟨ub, 1, none⟩ v1).cell? ⟨ub, 2, none⟩ = some z2 ∧ ((W.setCell ⟨ub, 0, none⟩ v0).setCell ⟨ub, 1, none⟩ v1).frozen? ⟨ub, 2, none⟩ = false) ∧
    ((((W.setCell ⟨ub, 0, none⟩ v0).setCell ⟨ub, 1, none⟩ v1).setCell ⟨ub, 2, none⟩ v2).cell? ⟨ub, 3, none⟩ = some z3 ∧ (((W.setCell ⟨ub, 0, none⟩ v0).setCell ⟨ub, 1, none⟩ v1).setCell ⟨ub, 2, none⟩ v2).frozen? ⟨ub, 3, none⟩ = false) ∧
    (((((W.setCell ⟨ub, 0, none⟩ v0).setCell ⟨ub, 1, none⟩ v1).setCell ⟨ub, 2, none⟩ v2).setCell ⟨ub, 3, none⟩ v3).cell? ⟨ub, 4, none⟩ = some z4 ∧ ((((W.setCell ⟨ub, 0, none⟩ v0).setCell ⟨ub, 1, none⟩ v1).setCell ⟨ub, 2, none⟩ v2).setCell ⟨ub, 3, none⟩ v3).frozen? ⟨ub, 4, none⟩ = false) := by
  obtain ⟨f, hf⟩ := h.row
  have r0 := hf.set 0 v0
  have r1 := r0.set 1 v1
  have r2 := r1.set 2 v2
  have r3 := r2.set 3 v3
  exact ⟨_, _, _, _, _, ⟨hf.cell (i := 0) (by omega), hf.frozen 0⟩, ⟨r0.cell (i := 1) (by omega), r0.frozen 1⟩, ⟨r1.cell (i := 2) (by omega), r1.frozen 2⟩, ⟨r2.cell (i := 3) (by omega), r2.frozen 3⟩, ⟨r3.cell (i := 4) (by omega), r3.frozen 4⟩⟩
/-- What the loop over the names keeps. -/
structure OR (w wr : World) (c : Nat) (a : Option Addr) (n cap : Nat) (v : Value) (us : List ty.Un) : Prop where
  row : AU w.heap.size wr v us
  sm : ∀ u ∈ us, ty.wt1Un u ≤ 1000
  dr : Draws w wr c a n cap
  tab : Tab wr (w.heap.size + 1) 6
  ne : v.ownBlock ≠ some (w.heap.size + 1)
theorem OR.draws {w wr w' : World} {c : Nat} {a : Option Addr} {n cap : Nat} {v : Value} {us : List ty.Un} (h : OR w wr c a n cap v us) (hcw : c < w.heap.size) (d : Draws wr w' c a n cap) : OR w w' c a n cap v us :=
  ⟨h.row.draws d hcw, h.sm, h.dr.trans d, h.tab.draws d (by omega), h.ne⟩
theorem OR.below {w wr w' : World} {c : Nat} {a : Option Addr} {n cap : Nat} {v : Value} {us : List ty.Un} (h : OR w wr c a n cap v us) (hc : dr.Can w c a n cap) (hcw : c < w.heap.size) (d : Below wr.heap.size wr w') : OR w w' c a n cap v us :=
  ⟨h.row.below d, h.sm, h.dr.below hc hcw d, h.tab.below d, h.ne⟩
theorem wt_unit {u : ty.Un} (h0 : u.fName.size ≤ 64) (h3 : u.fExec.size ≤ 10) (l1 : u.fAfter.length ≤ 6) (l2 : u.fNeeds.length ≤ 6) (h1 : ∀ x ∈ u.fAfter, x.size ≤ 64) (h2 : ∀ x ∈ u.fNeeds, x.size ≤ 64) : ty.wt1Un u ≤ 1000 := by
  have := wtS_le h1
  have := wtS_le h2
  unfold ty.wt1Un
  omega
theorem wt_units {us : List ty.Un} {B : Nat} (h : ∀ u ∈ us, ty.wt1Un u ≤ B) : ty.wtUn us ≤ (B + 1) * us.length := by
  unfold ty.wtUn ty.wtkUn
  rw [List.take_length]
  induction us with
  | nil => simp
  | cons x l ih =>
    have h1 := h x (by simp)
    have h2 := ih fun y hy => h y (by simp [hy])
    simp only [List.map_cons, List.sum_cons, List.length_cons] at h2 ⊢
    rw [Nat.mul_add]
    omega
theorem OR.app {w wr W' : World} {c : Nat} {a : Option Addr} {n cap : Nat} {v v' : Value} {us : List ty.Un} {u : ty.Un} (h : OR w wr c a n cap v us) (hc : dr.Can w c a n cap) (hcw : c < w.heap.size) (ha : AU w.heap.size W' v' (us ++ [u])) (hu : ty.wt1Un u ≤ 1000) (hb : Below w.heap.size wr W') (hg : wr.grownBy W' v.ownBlock) (hv : v'.ownBlock = v.ownBlock ∨ v'.ownBlock = some wr.heap.size) : OR w W' c a n cap v' (us ++ [u]) :=
  ⟨ha, fun x hx => by
    rcases List.mem_append.1 hx with k | k
    · exact h.sm x k
    · simp only [List.mem_singleton] at k; subst k; exact hu, draws_mid h.dr hc hcw hb, tab_grown h.tab hg h.ne, by
    have hlt : w.heap.size + 1 < wr.heap.size := by
      obtain ⟨y, _, hy⟩ := h.tab 0 (by omega)
      exact World.block_lt_of_cell? _ _ hy
    rcases hv with e | e
    · rw [e]; exact h.ne
    · rw [e]; intro e2; have := Option.some.inj e2; omega⟩
/-- What is handed back. -/
def FN (w W : World) (c : Nat) (a : Option Addr) (n cap : Nat) (g : Nat) (m cp : Nat) : Prop := ∃ g' cp' us', Ending.returned (.slice (some ⟨g, 0, none⟩) m cp) = .returned (.slice (some ⟨g', 0, none⟩) us'.length cp') ∧ us'.length ≤ 6 ∧ (w.heap.size ≤ g' ∧ g' < W.heap.size ∧ OU w.heap.size W g' us' ∧ ∀ o, W.frozen? ⟨g', o, none⟩ = false) ∧ ty.wtUn us' ≤ 50000 ∧ Draws w W c a n cap
theorem OR.ret {w W : World} {c : Nat} {a : Option Addr} {n cap g cp : Nat} {us : List ty.Un} (h : OR w W c a n cap (.slice (some ⟨g, 0, none⟩) us.length cp) us) (hl : us.length ≤ 6) : FN w W c a n cap g us.length cp := by
  obtain ⟨g', c', e, h1, h2, h3⟩ := h.row.at'
  cases e
  exact ⟨g, cp, us, rfl, hl, ⟨h1, h2, h3, h.row.frz⟩, by have := wt_units h.sm; omega, h.dr⟩
theorem OR.core {w W W1 : World} {c : Nat} {a : Option Addr} {n cap g cp i r : Nat} {us : List ty.Un} {u' : ty.Un} {val : Value} (h : OR w W c a n cap (.slice (some ⟨g, 0, none⟩) us.length cp) us) (hl : us.length ≤ 6) (hc : dr.Can w c a n cap) (hcw : c < w.heap.size) (hb : Below W.heap.size W W1) (hr : r < 5) (hw : ty.wt1Un u' ≤ 6000)
    (hk : ∃ a1 e1 a2 e2, (W1.setCell ⟨g, i * 5 + r, none⟩ val).cell? ⟨g, i * 5, none⟩ = some (.string u'.fName) ∧ (W1.setCell ⟨g, i * 5 + r, none⟩ val).cell? ⟨g, i * 5 + 1, none⟩ = some (.slice a1 u'.fAfter.length e1) ∧ (W1.setCell ⟨g, i * 5 + r, none⟩ val).cell? ⟨g, i * 5 + 2, none⟩ = some (.slice a2 u'.fNeeds.length e2) ∧ (W1.setCell ⟨g, i * 5 + r, none⟩ val).cell? ⟨g, i * 5 + 3, none⟩ = some (.string u'.fExec) ∧ (W1.setCell ⟨g, i * 5 + r, none⟩ val).cell? ⟨g, i * 5 + 4, none⟩ = some (.bool u'.fKeep) ∧ Tx w.heap.size (W1.setCell ⟨g, i * 5 + r, none⟩ val) g a1 u'.fAfter ∧ Tx w.heap.size (W1.setCell ⟨g, i * 5 + r, none⟩ val) g a2 u'.fNeeds) : FN w (W1.setCell ⟨g, i * 5 + r, none⟩ val) c a n cap g us.length cp := by
  obtain ⟨g', c', e, h1, h2, h3⟩ := h.row.at'
  cases e
  have hws := h.dr.grown.size
  have hou := h3.upd (k := i) (u' := u') (W' := W1.setCell ⟨g, i * 5 + r, none⟩ val) (by simp; exact hb.size) (fun q k1 k2 k3 => (blk_oth k3).trans (hb.block q k2)) (fun o ho => (oth (by omega)).trans (World.cell?_of_block (a := ⟨g, o, none⟩) (hb.block g h2))) hk
  refine ⟨g, cp, us.set i u', by rw [List.length_set], by rw [List.length_set]; exact hl, ⟨h1, by simp; exact Nat.lt_of_lt_of_le h2 hb.size, hou, fun o => by rw [show (W1.setCell ⟨g, i * 5 + r, none⟩ val).frozen? ⟨g, o, none⟩ = W1.frozen? ⟨g, o, none⟩ by simp [go_sem], World.frozen?_of_block (a := ⟨g, o, none⟩) (hb.block g h2)]; exact h.row.frz o⟩, ?_, draws_mid h.dr hc hcw ((hb.mono hws).setCell h1 _)⟩
  have := wt_units (us := us.set i u') (B := 6000) fun x hx => by
    rcases List.mem_or_eq_of_mem_set hx with k | k
    · have := h.sm x k; omega
    · rw [k]; exact hw
  rw [List.length_set] at this
  omega
structure CL (w W1 : World) (g i : Nat) (x : ty.Un) (a1 : Option Addr) (e1 : Nat) (a2 : Option Addr) (e2 : Nat) : Prop where
  q0 : W1.cell? ⟨g, i * 5, none⟩ = some (.string x.fName)
  q1 : W1.cell? ⟨g, i * 5 + 1, none⟩ = some (.slice a1 x.fAfter.length e1)
  q2 : W1.cell? ⟨g, i * 5 + 2, none⟩ = some (.slice a2 x.fNeeds.length e2)
  q3 : W1.cell? ⟨g, i * 5 + 3, none⟩ = some (.string x.fExec)
  q4 : W1.cell? ⟨g, i * 5 + 4, none⟩ = some (.bool x.fKeep)
  t1 : Tx w.heap.size W1 g a1 x.fAfter
  t2 : Tx w.heap.size W1 g a2 x.fNeeds
theorem OR.cells {w W W1 : World} {c : Nat} {a : Option Addr} {n cap g cp i : Nat} {us : List ty.Un} {x : ty.Un} (h : OR w W c a n cap (.slice (some ⟨g, 0, none⟩) us.length cp) us) (hb : Below W.heap.size W W1) (hx : us[i]? = some x) : ∃ a1 e1 a2 e2, CL w W1 g i x a1 e1 a2 e2 := by
  obtain ⟨g', c', e, h1, h2, h3⟩ := h.row.at'
  cases e
  obtain ⟨a1, e1, a2, e2, q0, q1, q2, q3, q4, t1, t2⟩ := h3.ent i x hx
  have k : ∀ o, W1.cell? ⟨g, o, none⟩ = W.cell? ⟨g, o, none⟩ := fun o => World.cell?_of_block (a := ⟨g, o, none⟩) (hb.block g h2)
  exact ⟨a1, e1, a2, e2, (k _).trans q0, (k _).trans q1, (k _).trans q2, (k _).trans q3, (k _).trans q4, t1.kept hb.size (fun q _ k2 _ => hb.block q k2) (.inl rfl), t2.kept hb.size (fun q _ k2 _ => hb.block q k2) (.inl rfl)⟩
theorem Tx.set {lo : Nat} {W : World} {g o : Nat} {a : Option Addr} {l : List ByteArray} {v : Value} (h : Tx lo W g a l) : Tx lo (W.setCell ⟨g, o, none⟩ v) g a l := h.kept (by simp) (fun q _ _ k3 => blk_oth k3) (.inl rfl)
theorem OR.fin0 {w W W1 : World} {c : Nat} {a : Option Addr} {n cap g cp i : Nat} {us : List ty.Un} {x : ty.Un} (h : OR w W c a n cap (.slice (some ⟨g, 0, none⟩) us.length cp) us) (hl : us.length ≤ 6) (hc : dr.Can w c a n cap) (hcw : c < w.heap.size) (hb : Below W.heap.size W W1) (hx : us[i]? = some x) (s : ByteArray) (hs : s.size ≤ 64) : FN w (W1.setCell ⟨g, i * 5, none⟩ (.string s)) c a n cap g us.length cp := by
  obtain ⟨a1, e1, a2, e2, hC⟩ := h.cells hb hx
  refine h.core (r := 0) (u' := ⟨s, x.fAfter, x.fNeeds, x.fExec, x.fKeep⟩) hl hc hcw hb (by omega) ?_ ⟨a1, e1, a2, e2, World.cell?_setCell_same _ _ _ hC.q0, (oth (by omega)).trans hC.q1, (oth (by omega)).trans hC.q2, (oth (by omega)).trans hC.q3, (oth (by omega)).trans hC.q4, hC.t1.set, hC.t2.set⟩
  have := h.sm x (List.mem_of_getElem? hx)
  unfold ty.wt1Un at this ⊢
  simp only
  omega
theorem OR.fin3 {w W W1 : World} {c : Nat} {a : Option Addr} {n cap g cp i : Nat} {us : List ty.Un} {x : ty.Un} (h : OR w W c a n cap (.slice (some ⟨g, 0, none⟩) us.length cp) us) (hl : us.length ≤ 6) (hc : dr.Can w c a n cap) (hcw : c < w.heap.size) (hb : Below W.heap.size W W1) (hx : us[i]? = some x) (s : ByteArray) (hs : s.size ≤ 4500) : FN w (W1.setCell ⟨g, i * 5 + 3, none⟩ (.string s)) c a n cap g us.length cp := by
  obtain ⟨a1, e1, a2, e2, hC⟩ := h.cells hb hx
  refine h.core (r := 3) (u' := ⟨x.fName, x.fAfter, x.fNeeds, s, x.fKeep⟩) hl hc hcw hb (by omega) ?_ ⟨a1, e1, a2, e2, (oth (by omega)).trans hC.q0, (oth (by omega)).trans hC.q1, (oth (by omega)).trans hC.q2, World.cell?_setCell_same _ _ _ hC.q3, (oth (by omega)).trans hC.q4, hC.t1.set, hC.t2.set⟩
  have := h.sm x (List.mem_of_getElem? hx)
  unfold ty.wt1Un at this ⊢
  simp only
  omega
theorem tx_new {lo g o : Nat} {W : World} {l : List ByteArray} {v : Value} (hlo : lo ≤ W.heap.size) (hg : g < W.heap.size) : Tx lo ((W.alloc (.cells (sv l).toArray 9)).setCell ⟨g, o, none⟩ v) g (some ⟨W.heap.size, 0, none⟩) l :=
  Tx.set (.inr ⟨W.heap.size, rfl, hlo, by simp, by omega, fun i x hx => by
    rw [show (W.alloc (.cells (sv l).toArray 9)).cell? ⟨W.heap.size, i, none⟩ = (sv l).toArray[i]? from World.cell?_alloc_new W _ _ i]
    simp [sv, hx]⟩)
theorem OR.fin1 {w W : World} {c : Nat} {a : Option Addr} {n cap g cp i : Nat} {us : List ty.Un} {x : ty.Un} (h : OR w W c a n cap (.slice (some ⟨g, 0, none⟩) us.length cp) us) (hl : us.length ≤ 6) (hc : dr.Can w c a n cap) (hcw : c < w.heap.size) (hx : us[i]? = some x) (l : List ByteArray) (hs : ty.wtS l ≤ 100) : FN w ((W.alloc (.cells (sv l).toArray 9)).setCell ⟨g, i * 5 + 1, none⟩ (.slice (some ⟨W.heap.size, 0, none⟩) l.length l.length)) c a n cap g us.length cp := by
  obtain ⟨a1, e1, a2, e2, hC⟩ := h.cells ((Below.refl _ _).alloc (Nat.le_refl _) _) hx
  obtain ⟨g', c', e, h1, h2, h3⟩ := h.row.at'
  cases e
  refine h.core (r := 1) (u' := ⟨x.fName, l, x.fNeeds, x.fExec, x.fKeep⟩) hl hc hcw ((Below.refl _ _).alloc (Nat.le_refl _) _) (by omega) ?_ ⟨some ⟨W.heap.size, 0, none⟩, l.length, a2, e2, (oth (by omega)).trans hC.q0, World.cell?_setCell_same _ _ _ hC.q1, (oth (by omega)).trans hC.q2, (oth (by omega)).trans hC.q3, (oth (by omega)).trans hC.q4, tx_new h.dr.grown.size h2, hC.t2.set⟩
  have := h.sm x (List.mem_of_getElem? hx)
  unfold ty.wt1Un at this ⊢
  simp only
  omega
theorem OR.fin2 {w W : World} {c : Nat} {a : Option Addr} {n cap g cp i : Nat} {us : List ty.Un} {x : ty.Un} (h : OR w W c a n cap (.slice (some ⟨g, 0, none⟩) us.length cp) us) (hl : us.length ≤ 6) (hc : dr.Can w c a n cap) (hcw : c < w.heap.size) (hx : us[i]? = some x) (l : List ByteArray) (hs : ty.wtS l ≤ 100) : FN w ((W.alloc (.cells (sv l).toArray 9)).setCell ⟨g, i * 5 + 2, none⟩ (.slice (some ⟨W.heap.size, 0, none⟩) l.length l.length)) c a n cap g us.length cp := by
  obtain ⟨a1, e1, a2, e2, hC⟩ := h.cells ((Below.refl _ _).alloc (Nat.le_refl _) _) hx
  obtain ⟨g', c', e, h1, h2, h3⟩ := h.row.at'
  cases e
  refine h.core (r := 2) (u' := ⟨x.fName, x.fAfter, l, x.fExec, x.fKeep⟩) hl hc hcw ((Below.refl _ _).alloc (Nat.le_refl _) _) (by omega) ?_ ⟨a1, e1, some ⟨W.heap.size, 0, none⟩, l.length, (oth (by omega)).trans hC.q0, (oth (by omega)).trans hC.q1, World.cell?_setCell_same _ _ _ hC.q2, (oth (by omega)).trans hC.q3, (oth (by omega)).trans hC.q4, hC.t1.set, tx_new h.dr.grown.size h2⟩
  have := h.sm x (List.mem_of_getElem? hx)
  unfold ty.wt1Un at this ⊢
  simp only
  omega
theorem zeros_str {W : World} {N : Nat} (hN : N ≤ 1000000) : (convert 22 9 (.slice (some ⟨W.heap.size, 0, none⟩) N N)).run Try.prog (W.alloc (.cells (madeCells #[.int .u8 0] N) 5)) = .ok (.string ⟨(List.replicate N 0).toArray⟩) (W.alloc (.cells (madeCells #[.int .u8 0] N) 5)) := by
  refine own_string (base := W.heap.size) (n := N) Try.underlying22 Try.underlying5 Try.underlying9 ?_
  have hm : (madeCells #[.int .u8 0] N).toList = byteCells (List.replicate N 0) := by
    simp [madeCells, byteCells]
    apply List.ext_getElem?
    intro i
    rcases Nat.lt_or_ge i N with h | h
    · simp [h, Nat.mod_one]
    · simp [h, Nat.not_lt.2 h]
  refine ⟨by simp [byteCells], .inr ⟨W.heap.size, N, _, rfl, Nat.le_refl _, World.alloc_heap_new W _, Nat.le_refl _, by unfold maxLen; omega, ?_, ?_⟩⟩
  · rw [← Array.length_toList, hm]; simp [byteCells]
  · rw [hm]
    apply List.take_of_length_le
    simp [byteCells]

end Go.Proofs.Ytajpfidgepebgaa.du
