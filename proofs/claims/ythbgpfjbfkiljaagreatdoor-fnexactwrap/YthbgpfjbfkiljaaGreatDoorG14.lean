import Derived.Test.YthbgpfjbfkiljaaGreatDoorG05
import Derived.Test.YthbgpfjbfkiljaaGreatDoorG01
import Derived.Lib.ConvBytes
import Derived.ArgAppend
import Derived.Lib.AppendStr
import Derived.Lib.Hide
import Derived.Test.YthbgpfjbfkiljaaGreatDoorRows
set_option linter.unusedVariables false
set_option linter.unusedSimpArgs false
set_option maxRecDepth 100000
set_option maxHeartbeats 16000000
namespace Go.Proofs.YthbgpfjbfkiljaaGreatDoor.tt
open Go.ChangeShapes Go.WideShapes Go.ChangeAt Go.RowKit Go.Deep
theorem pre_ltS {x y : List UInt8} (hy : y ≠ []) : x < x ++ y := by
 induction x with
 | nil => cases y with
  | nil => exact absurd rfl hy
  | cons b y => exact List.nil_lt_cons _ _
 | cons c x ih => exact List.cons_lt_cons_iff.2 (.inr ⟨rfl, ih⟩)
theorem up_lt {x : List UInt8} (h : up x ≠ []) : up x < x ∧ Und x (up x) := by
 unfold up at h ⊢
 cases hl : lst x with
 | none => rw [hl] at h; exact absurd rfl h
 | some k =>
  rw [hl] at h
  simp only at h ⊢
  have hk := (List.getElem?_eq_some_iff.1 (lst_some hl).1)
  obtain ⟨hk1, hk2⟩ := hk
  have e : x = x.take k ++ x.drop k := (List.take_append_drop k x).symm
  refine ⟨?_, ?_⟩
  ·conv => rhs; rw [e]
   exact pre_ltS (fun h0 => by rw [List.drop_eq_nil_iff] at h0; omega)
  ·unfold Und
   rw [pre_take, List.length_append, List.length_take, Nat.min_eq_left (Nat.le_of_lt hk1)]
   refine ⟨by simp; omega, ?_⟩
   show x.take (k + 1) = _
   rw [List.take_add_one, List.getElem?_eq_getElem hk1, hk2]
   rfl
theorem tr_iff {E : Nat → En} {k : Nat} : Tr E k ↔ (∀ i, i < k → eOk (E i) = true) ∧ Asc E k ∧ ∀ i, i < k → up (pth E i) ≠ [] → Dir E k (up (pth E i)) := by
 constructor
 ·intro h
  refine ⟨h.1, h.asc, fun i hi hu => ?_⟩
  obtain ⟨j, h1, h2, h3⟩ := h.2.2 i hi hu
  exact ⟨j, by omega, h2, h3⟩
 ·rintro ⟨h1, h2, h3⟩
  refine ⟨h1, fun i hi => h2 i (i + 1) (by omega) hi, fun i hi hu => ?_⟩
  obtain ⟨j, k1, k2, k3⟩ := h3 i hi hu
  refine ⟨j, ?_, k2, k3⟩
  have hlt := (up_lt hu).1
  rcases Nat.lt_trichotomy j i with h | h | h
  ·exact h
  ·rw [h] at k2; rw [← k2] at hlt; exact absurd hlt (List.lt_irrefl _)
  ·have := h2 i j h k1
   rw [k2] at this
   exact absurd (List.lt_trans this hlt) (List.lt_irrefl _)
section
variable {E : Nat → En} {n a : Nat} {e : En}
theorem pt_old (hr : Rk E n e.path.data.toList a) (hA : Asc E n) {k : Nat} (hk : k < ptN E n e a) : (k = a ∧ ptF E n e a k = e) ∨ ∃ j, j < n ∧ ptF E n e a k = E j ∧ pth E j ≠ e.path.data.toList ∧ (k < a ↔ j < a) ∧ (k < a → j = k) ∧ (a < k → j = if isB E n e.path.data.toList a = true then k else k - 1) := by
 have hle := hr.le
 unfold ptN at hk
 unfold ptF
 rcases Nat.lt_trichotomy k a with h | h | h
 ·refine .inr ⟨k, by omega, by rw [if_pos h], fun h' => ?_, by simp, fun _ => rfl, fun h' => by omega⟩
  have := hr.lo k h
  rw [h'] at this
  exact List.lt_irrefl _ this
 ·exact .inl ⟨h, by rw [if_neg (by omega), if_pos h]⟩
 ·by_cases hb : isB E n e.path.data.toList a = true
  ·rw [if_pos hb] at hk
   obtain ⟨hi1, hi2⟩ := isB_iff.1 hb
   refine .inr ⟨k, hk, by rw [if_neg (by omega), if_neg (by omega), if_pos hb], fun h' => ?_, by simp, fun h' => by omega, fun _ => by rw [if_pos hb]⟩
   have := hA a k h hk
   rw [hi2, h'] at this
   exact List.lt_irrefl _ this
  ·rw [if_neg hb] at hk
   refine .inr ⟨k - 1, by omega, by rw [if_neg (by omega), if_neg (by omega), if_neg hb], fun h' => ?_, by omega, fun h' => by omega, fun _ => by rw [if_neg hb]⟩
   rcases Nat.lt_or_ge a (k - 1) with h2 | h2
   ·have h3 := hA a (k - 1) h2 (by omega)
    rw [h'] at h3
    exact hr.hi a (Nat.le_refl _) (by omega) h3
   ·have h3 : k - 1 = a := by omega
    rw [h3] at h'
    exact hb (isB_yes ⟨by omega, h'⟩)
theorem pt_new (hr : Rk E n e.path.data.toList a) {j : Nat} (hj : j < n) (hp : pth E j ≠ e.path.data.toList) : ∃ k, k < ptN E n e a ∧ ptF E n e a k = E j := by
 unfold ptN ptF
 by_cases hb : isB E n e.path.data.toList a = true
 ·obtain ⟨hi1, hi2⟩ := isB_iff.1 hb
  have hja : j ≠ a := fun h => hp (by rw [h]; exact hi2)
  refine ⟨j, by rw [if_pos hb]; exact hj, ?_⟩
  by_cases h : j < a
  ·rw [if_pos h]
  ·rw [if_neg h, if_neg hja, if_pos hb]
 ·by_cases h : j < a
  ·exact ⟨j, by rw [if_neg hb]; omega, by rw [if_pos h]⟩
  ·exact ⟨j + 1, by rw [if_neg hb]; omega, by rw [if_neg (by omega), if_neg (by omega), if_neg hb]; rfl⟩
theorem put_tree (hT : Tr E n) (hr : Rk E n e.path.data.toList a) (hk : Tk E n e a) : Tr (ptF E n e a) (ptN E n e a) := by
 obtain ⟨t1, t2, t3⟩ := tr_iff.1 hT
 obtain ⟨k1, k2, k3, k4⟩ := hk
 have hle := hr.le
 have haN : a < ptN E n e a := by
  unfold ptN
  by_cases hb : isB E n e.path.data.toList a = true
  ·rw [if_pos hb]; exact (isB_iff.1 hb).1
  ·rw [if_neg hb]; omega
 have hat : ptF E n e a a = e := by unfold ptF; rw [if_neg (by omega), if_pos rfl]
 refine tr_iff.2 ⟨fun i hi => ?_, fun i j hij hj => ?_, fun i hi hu => ?_⟩
 ·rcases pt_old hr t2 hi with ⟨_, h⟩ | ⟨j, hj, h, _⟩
  ·rw [h]; exact k1
  ·rw [h]; exact t1 j hj
 ·rcases pt_old hr t2 (Nat.lt_trans hij hj) with ⟨h1, h⟩ | ⟨x, hx, h, hxp, hxa, hx1, hx2⟩
  ·rcases pt_old hr t2 hj with ⟨h2, g⟩ | ⟨y, hy, g, hyp, hya, hy1, hy2⟩
   ·omega
   ·show pth (ptF E n e a) i < pth (ptF E n e a) j
    unfold pth
    rw [h, g]
    have hn := hr.hi y (by omega) hy
    rcases lt_tri (pth E y) e.path.data.toList with h3 | h3 | h3
    ·exact absurd h3 hn
    ·exact absurd h3 hyp
    ·exact h3
  ·rcases pt_old hr t2 hj with ⟨h2, g⟩ | ⟨y, hy, g, hyp, hya, hy1, hy2⟩
   ·show pth (ptF E n e a) i < pth (ptF E n e a) j
    unfold pth
    rw [h, g]
    exact hr.lo x (by omega)
   ·show pth (ptF E n e a) i < pth (ptF E n e a) j
    unfold pth
    rw [h, g]
    refine t2 x y ?_ hy
    rcases Nat.lt_or_ge j a with h3 | h3
    ·have := hx1 (by omega); have := hy1 h3; omega
    ·have hja : j ≠ a := fun h' => by
      rw [h', hat] at g
      exact hyp (by show (E y).path.data.toList = _; rw [← g])
     have := hy2 (by omega)
     rcases Nat.lt_or_ge i a with h4 | h4
     ·have := hx1 h4; have := hya; omega
     ·have hia : i ≠ a := fun h' => by
       rw [h', hat] at h
       exact hxp (by show (E x).path.data.toList = _; rw [← h])
      have h8 := hx2 (by omega)
      by_cases hb : isB E n e.path.data.toList a = true
      ·rw [if_pos hb] at h8 this; omega
      ·rw [if_neg hb] at h8 this; omega
 ·have key : ∀ q, q ≠ [] → Dir E n q → (q = e.path.data.toList → e.kind = 1) → Dir (ptF E n e a) (ptN E n e a) q := by
   rintro q _ ⟨j, hj, hpj, hkj⟩ hq
   by_cases h : q = e.path.data.toList
   ·exact ⟨a, haN, by unfold pth; rw [hat, h], by rw [hat]; exact hq h⟩
   ·obtain ⟨k, hk, hF⟩ := pt_new hr hj (by rw [hpj]; exact h)
    exact ⟨k, hk, by unfold pth; rw [hF]; exact hpj, by rw [hF]; exact hkj⟩
  rcases pt_old hr t2 hi with ⟨_, h⟩ | ⟨j, hj, h, hpj, _⟩
  ·have e1 : pth (ptF E n e a) i = e.path.data.toList := by unfold pth; rw [h]
   rw [e1] at hu ⊢
   refine key _ hu (k2 hu) fun h2 => ?_
   have := (up_lt hu).1
   rw [h2] at this
   exact absurd this (List.lt_irrefl _)
  ·have e1 : pth (ptF E n e a) i = pth E j := by unfold pth; rw [h]
   rw [e1] at hu ⊢
   refine key _ hu (t3 j hj hu) fun h2 => ?_
   rcases k3 with h3 | h3
   ·exact h3
   ·exact absurd ⟨j, hj, by rw [← h2]; exact (up_lt hu).2⟩ h3
theorem put_few (hn : n ≤ 500) (hk : Tk E n e a) : ptN E n e a ≤ 500 := by
 unfold ptN
 by_cases hb : isB E n e.path.data.toList a = true
 ·rw [if_pos hb]; exact hn
 ·rw [if_neg hb]
  rcases hk.2.2.2 with h | h
  ·exact absurd (isB_yes h) hb
  ·omega
end
end Go.Proofs.YthbgpfjbfkiljaaGreatDoor.tt

set_option linter.unusedVariables false
set_option linter.unusedSimpArgs false
set_option maxRecDepth 100000
set_option maxHeartbeats 16000000
namespace Go.Proofs.YthbgpfjbfkiljaaGreatDoor.bf
open Go.ChangeShapes Go.WideShapes Go.ChangeAt Go.RowKit Go.Deep
structure Bf (base : Nat) (w : World) (g cap : Nat) (l : List UInt8) : Prop where
 new : base ≤ g
 lt : g < w.heap.size
 cells : ∀ j (h : j < l.length), w.cell? ⟨g, j, none⟩ = some (.int .u8 (l[j].toNat : Int))
 spare : ∀ j, j < cap → (w.cell? ⟨g, j, none⟩).isSome = true ∧ w.frozen? ⟨g, j, none⟩ = false
 le : l.length ≤ cap
 max : cap ≤ maxLen
theorem Bf.kept {base : Nat} {w w' : World} {g cap : Nat} {l : List UInt8} (h : Bf base w g cap l) (hs : w.heap.size ≤ w'.heap.size) (hb : w'.heap[g]? = w.heap[g]?) : Bf base w' g cap l :=
 ⟨h.new, by have := h.lt; omega, fun j hj => (World.cell?_of_block (a := ⟨g, j, none⟩) hb).trans (h.cells j hj), fun j hj => by
  rw [World.cell?_of_block (a := ⟨g, j, none⟩) hb, World.frozen?_of_block (a := ⟨g, j, none⟩) hb]; exact h.spare j hj, h.le, h.max⟩
theorem Bf.below {base : Nat} {w w' : World} {g cap : Nat} {l : List UInt8} (h : Bf base w g cap l) (hb : Below w.heap.size w w') : Bf base w' g cap l := h.kept hb.size (hb.block g h.lt)
structure Ap (base : Nat) (w : World) (g : Nat) (w' : World) (g' cap' : Nat) (l' : List UInt8) : Prop where
 bf : Bf base w' g' cap' l'
 grown : w.grownBy w' (some g)
 here : g' = g ∨ w.heap.size ≤ g'
theorem Ap.refl {base : Nat} {w : World} {g cap : Nat} {l : List UInt8} (h : Bf base w g cap l) : Ap base w g w g cap l := ⟨h, ⟨rfl, rfl, rfl, Nat.le_refl _, fun _ _ _ => rfl⟩, .inl rfl⟩
theorem Ap.trans {base : Nat} {w w1 w2 : World} {g g1 g2 c1 c2 : Nat} {l1 l2 : List UInt8} (h : Ap base w g w1 g1 c1 l1) (k : Ap base w1 g1 w2 g2 c2 l2) : Ap base w g w2 g2 c2 l2 := by
 have s1 := h.grown.size
 refine ⟨k.bf, ⟨k.grown.os.trans h.grown.os, k.grown.tape.trans h.grown.tape, k.grown.output.trans h.grown.output, Nat.le_trans s1 k.grown.size, fun i hi hn => ?_⟩, ?_⟩
 ·rw [k.grown.block i (by omega) (fun e => ?_), h.grown.block i hi hn]
  have e' := Option.some.inj e
  rcases h.here with q | q
  ·exact hn (by rw [e', q])
  ·omega
 ·rcases k.here with q | q
  ·rw [q]; exact h.here
  ·exact .inr (by omega)
theorem Ap.after {base : Nat} {w w1 w2 : World} {g g2 c2 : Nat} {l2 : List UInt8} (hb : Below w.heap.size w w1) (k : Ap base w1 g w2 g2 c2 l2) : Ap base w g w2 g2 c2 l2 := by
 have s1 := hb.size
 refine ⟨k.bf, ⟨k.grown.os.trans hb.os, k.grown.tape.trans hb.tape, k.grown.output.trans hb.output, Nat.le_trans s1 k.grown.size, fun i hi hn => ?_⟩, ?_⟩
 ·rw [k.grown.block i (by omega) hn, hb.block i hi]
 ·rcases k.here with q | q
  ·exact .inl q
  ·exact .inr (by omega)
theorem Ap.bel {base : Nat} {w w1 : World} {g g1 c1 : Nat} {l1 : List UInt8} (h : Ap base w g w1 g1 c1 l1) (hg : base ≤ g) (hB : base ≤ w.heap.size) : Below base w w1 :=
 ⟨h.grown.os, h.grown.tape, h.grown.output, h.grown.size, fun k hk => h.grown.block k (by omega) (fun e => by have := Option.some.inj e; omega)⟩
def byteVals (l : List UInt8) : List Value := l.map fun b => Value.int .u8 (b.toNat : Int)
theorem byteVals_length (l : List UInt8) : (byteVals l).length = l.length := by simp [byteVals]
theorem byteVals_get {l : List UInt8} {j : Nat} {u : Value} (h : (byteVals l)[j]? = some u) : ∃ hj : j < l.length, u = .int .u8 (l[j].toNat : Int) := by
 have hj : j < l.length := by have := (List.getElem?_eq_some_iff.1 h).1; rwa [byteVals_length] at this
 refine ⟨hj, ?_⟩
 simpa [byteVals, hj] using h.symm
theorem byteVals_at {l : List UInt8} {j : Nat} (h : j < l.length) : (byteVals l)[j]? = some (.int .u8 (l[j].toNat : Int)) := by simp [byteVals, h]
theorem byteVals_one (l : List UInt8) : ∀ u ∈ byteVals l, u.oneCell' = true := by
 intro u hu
 obtain ⟨b, _, rfl⟩ := List.mem_map.1 hu
 rfl
theorem strCells_eq (s : ByteArray) : Lib.strCells s = byteVals s.data.toList := rfl
theorem setCells_bf {base : Nat} {w : World} {g cap : Nat} {l m : List UInt8} (h : Bf base w g cap l) (hr : l.length + m.length ≤ cap) : Ap base w g (w.setCells g l.length (byteVals m)) g cap (l ++ m) := by
 have sz : ∀ (vs : List Value) (o : Nat) (W : World), (W.setCells g o vs).heap.size = W.heap.size := by
  intro vs
  induction vs with
  | nil => intro o W; rfl
  | cons v r ih => intro o W; exact (ih (o + 1) _).trans (by simp [World.setCell])
 have bl : Below g w (w.setCells g l.length (byteVals m)) := below_setCells' (Nat.le_refl _) _ _ _ (Below.refl _ _)
 have oth : ∀ (vs : List Value) (o : Nat) (W : World) (k : Nat), k ≠ g → (W.setCells g o vs).heap[k]? = W.heap[k]? := by
  intro vs
  induction vs with
  | nil => intro o W k _; rfl
  | cons v r ih => intro o W k hk; exact (ih (o + 1) _ k hk).trans (Below.heap_setCell _ _ _ _ hk)
 have fz : ∀ (vs : List Value) (o : Nat) (W : World) (j : Nat), (W.setCells g o vs).frozen? ⟨g, j, none⟩ = W.frozen? ⟨g, j, none⟩ := by
  intro vs
  induction vs with
  | nil => intro o W j; rfl
  | cons v r ih => intro o W j; exact (ih (o + 1) _ j).trans (by simp [go_sem])
 have cs : ∀ (j : Nat), (w.setCells g l.length (byteVals m)).cell? ⟨g, j, none⟩ = if h : l.length ≤ j ∧ j - l.length < m.length then some (.int .u8 (m[j - l.length].toNat : Int)) else w.cell? ⟨g, j, none⟩ := by
  intro j
  split
  ·next hj =>
   have := World.cell?_setCells_in g (byteVals m) l.length w (fun i hi => (h.spare _ (by rw [byteVals_length] at hi; omega)).1) (j - l.length) (by rw [byteVals_length]; exact hj.2)
   rw [show l.length + (j - l.length) = j by omega] at this
   rw [this]
   simp [byteVals]
  ·next hj =>
   exact World.cell?_setCells_out _ _ _ _ _ (fun _ _ => by rw [byteVals_length]; show j < _ ∨ _ ≤ j; omega)
 refine ⟨⟨h.new, by rw [sz]; exact h.lt, fun j hj => ?_, fun j hj => ⟨?_, ?_⟩, by simpa using hr, h.max⟩, ⟨bl.os, bl.tape, bl.output, by rw [sz]; exact Nat.le_refl _, fun k hk hn => oth _ _ _ _ (fun e => hn (by rw [e]))⟩, .inl rfl⟩
 ·rw [cs]
  by_cases hl : l.length ≤ j
  ·have hj' : j - l.length < m.length := by rw [List.length_append] at hj; omega
   rw [dif_pos ⟨hl, hj'⟩, List.getElem_append_right hl]
  ·rw [dif_neg (fun e => hl e.1), h.cells j (by omega), List.getElem_append_left (by omega)]
 ·rw [cs]
  split
  ·rfl
  ·exact (h.spare j hj).1
 ·rw [fz]; exact (h.spare j hj).2
where
 below_setCells' {B : Nat} {a : World} {b : Nat} (hb : B ≤ b) : ∀ (vs : List Value) (o : Nat) (w : World), Below B a w → Below B a (w.setCells b o vs)
  | [], _, _, h => h
  | v :: r, o, w, h => below_setCells' hb r (o + 1) _ (h.setCell (p := ⟨b, o, none⟩) hb v)
theorem grow_bf {base : Nat} {w : World} {g cap c2 : Nat} {l m : List UInt8} (h : Bf base w g cap l) (hB : base ≤ w.heap.size) (e : TypeId) (hc : (l ++ m).length ≤ c2) (hm : c2 ≤ maxLen) :
  Ap base w g (w.drew.alloc (.cells ((byteVals l).toArray ++ (byteVals m).toArray ++ Builtin.zeroCells (Value.int .u8 0).cells (c2 - (l.length + m.length))) e)) w.heap.size c2 (l ++ m) := by
 have hz : (Value.int IntKind.u8 0).cells.size = 1 := rfl
 have hlen : ((byteVals l).toArray ++ (byteVals m).toArray ++ Builtin.zeroCells (Value.int .u8 0).cells (c2 - (l.length + m.length))).size = c2 := by
  rw [List.length_append] at hc
  simp only [Array.size_append, List.size_toArray, size_zeroCells, hz, byteVals_length]
  omega
 have hcell : ∀ j, (w.drew.alloc (.cells ((byteVals l).toArray ++ (byteVals m).toArray ++ Builtin.zeroCells (Value.int .u8 0).cells (c2 - (l.length + m.length))) e)).cell? ⟨w.heap.size, j, none⟩ = ((byteVals l).toArray ++ (byteVals m).toArray ++ Builtin.zeroCells (Value.int .u8 0).cells (c2 - (l.length + m.length)))[j]? := fun j => World.cell?_alloc_new w.drew _ _ j
 refine ⟨⟨hB, by simp, fun j hj => ?_, fun j hj => ⟨?_, ?_⟩, hc, hm⟩, ⟨rfl, rfl, rfl, by simp, fun k hk _ => Below.heap_alloc w.drew _ k hk⟩, .inr (Nat.le_refl _)⟩
 ·have hj2 : j < ((byteVals l).toArray ++ (byteVals m).toArray).size := by simpa [byteVals_length] using hj
  rw [hcell, Array.getElem?_append_left hj2]
  rw [← byteVals_at hj]
  simp [byteVals]
 ·rw [hcell, Array.getElem?_eq_getElem (by omega)]; rfl
 ·have hb : (w.drew.alloc (.cells ((byteVals l).toArray ++ (byteVals m).toArray ++ Builtin.zeroCells (Value.int .u8 0).cells (c2 - (l.length + m.length))) e)).heap[w.heap.size]? = _ := heap_alloc_new w.drew _
  unfold World.frozen?
  simp only [hb]
  simp
theorem run_bytes {P : Program} {base : Nat} {w : World} {g cap : Nat} {l m : List UInt8} (h : Bf base w g cap l) (hB : base ≤ w.heap.size) (t e : TypeId) (ht : P.underlying t = some (.slice e))
  (hinfo : (P.info? e).map (fun i => (i.zero, i.size, i.bytes)) = some (some (.int .u8 0), 1, 1)) (ad : Addr) (c : Nat) (hm : ∀ j u, (byteVals m)[j]? = some u → w.cell? (ad.add j) = some u) (hz : l.length + m.length ≤ 1099511627776) :
  ∃ g' cap' w', (∀ ty, (Builtin.append_ #[t, t] ty #[.slice (some ⟨g, 0, none⟩) l.length cap, .slice (some ad) m.length c]).run P w = .ok (.slice (some ⟨g', 0, none⟩) (l ++ m).length cap') w') ∧ Ap base w g w' g' cap' (l ++ m) := by
 obtain ⟨i, hi, hzz⟩ := Option.map_eq_some_iff.1 hinfo
 simp only [Prod.mk.injEq] at hzz
 obtain ⟨hz0, hsz, hby⟩ := hzz
 have hL : (l ++ m).length = l.length + m.length := List.length_append
 by_cases hroom : l.length + m.length ≤ cap
 ·have hr := fun ty => run_append_room_cells (P := P) w t ty e i ht hi g 0 l.length cap ad m.length c (byteVals m) (by rw [hsz, byteVals_length]; omega) hm (byteVals_one m) hroom
   (fun j hj => (h.spare _ (by rw [byteVals_length] at hj; rw [hsz]; omega)).1) (fun j hj => (h.spare _ (by rw [byteVals_length] at hj; rw [hsz]; omega)).2)
  simp only [hsz, Nat.mul_one, Nat.zero_add] at hr
  exact ⟨g, cap, _, fun ty => by rw [hr ty, hL], setCells_bf h hroom⟩
 ·have holds : ∀ j u, (byteVals l)[j]? = some u → w.cell? ((⟨g, 0, none⟩ : Addr).add j) = some u := by
   intro j u hj
   obtain ⟨hj', rfl⟩ := byteVals_get hj
   rw [addr_add, Nat.zero_add]
   exact h.cells j hj'
  have hr := fun ty => run_append_grow (P := P) w t ty e i (.int .u8 0) ht hi hz0 ⟨g, 0, none⟩ l.length cap (byteVals l) (by rw [hsz, byteVals_length]; omega) holds ad m.length c (byteVals m) (by rw [hsz, byteVals_length]; omega) hm (by omega) (by omega)
   (growslice_fits (by omega) (by rw [hby]; omega))
  refine ⟨w.heap.size, grownCap w (l.length + m.length) cap e, _, fun ty => by rw [hr ty, hL], grow_bf h hB e ?_ (grownCap_le_maxLen w _ cap e (by unfold maxLen; omega))⟩
  rw [hL]
  exact grownCap_ge w (l.length + m.length) cap e
theorem run_text {P : Program} {base : Nat} {w : World} {g cap : Nat} {l : List UInt8} (h : Bf base w g cap l) (hB : base ≤ w.heap.size) (t u e : TypeId) (ht : P.underlying t = some (.slice e)) (hu : P.underlying u = some .string)
  (hinfo : (P.info? e).map (fun i => (i.zero, i.size, i.bytes)) = some (some (.int .u8 0), 1, 1)) (s : ByteArray) (hz : l.length + s.size ≤ 1099511627776) :
  ∃ g' cap' w', (∀ ty, (Builtin.append_ #[t, u] ty #[.slice (some ⟨g, 0, none⟩) l.length cap, .string s]).run P w = .ok (.slice (some ⟨g', 0, none⟩) (l ++ s.data.toList).length cap') w') ∧ Ap base w g w' g' cap' (l ++ s.data.toList) := by
 obtain ⟨i, hi, hzz⟩ := Option.map_eq_some_iff.1 hinfo
 simp only [Prod.mk.injEq] at hzz
 obtain ⟨hz0, hsz, hby⟩ := hzz
 have hs : s.data.toList.length = s.size := by simp
 have hL : (l ++ s.data.toList).length = l.length + s.size := by rw [List.length_append, hs]
 by_cases hroom : l.length + s.size ≤ cap
 ·have hf := Lib.run_firstCells_string (P := P) w 1 s
  have hst := run_storeCells_cells (P := P) g (0 + l.length * 1) (Lib.strCells s) 0 w (fun j hj => by rw [Lib.strCells_length] at hj; exact (h.spare _ (by omega)).1) (fun j hj => by rw [Lib.strCells_length] at hj; exact (h.spare _ (by omega)).2) (Lib.strCells_oneCell s)
  refine ⟨g, cap, w.setCells g l.length (byteVals s.data.toList), fun ty => ?_, setCells_bf h (by rw [hs]; exact hroom)⟩
  rw [hL, ← strCells_eq]
  simp only [Nat.add_zero, Nat.mul_one, Nat.zero_add] at hst
  simp [Builtin.append_, run_underlying ht, run_underlying hu, sizeOf, typeInfo, hi, hsz, Builtin.lenOf, hroom, hf, Addr.add_lit, hst]
 ·have holds : ∀ j u, (byteVals l)[j]? = some u → w.cell? ((⟨g, 0, none⟩ : Addr).add j) = some u := by
   intro j u hj
   obtain ⟨hj', rfl⟩ := byteVals_get hj
   rw [addr_add, Nat.zero_add]
   exact h.cells j hj'
  have hr := fun ty => Lib.run_append_grow_string (P := P) w t u ty e i (.int .u8 0) ht hu hi hz0 ⟨g, 0, none⟩ l.length cap (byteVals l) (by rw [hsz, byteVals_length]; omega) holds s (by omega) (by omega)
   (growslice_fits (by omega) (by rw [hby]; omega))
  rw [strCells_eq] at hr
  refine ⟨w.heap.size, grownCap w (l.length + s.size) cap e, _, fun ty => by rw [hr ty, hL], ?_⟩
  have := grow_bf (m := s.data.toList) h hB e (c2 := grownCap w (l.length + s.size) cap e) (by rw [hL]; exact grownCap_ge w (l.length + s.size) cap e) (grownCap_le_maxLen w _ cap e (by unfold maxLen; omega))
  rw [hs] at this
  exact this
theorem app_any {P : Program} (w : World) {ops : Array Oper} {rest : List Oper} {o : Oper} {a : Act} {Q : Exit → Act → World → Prop} (hgd : o.guard = none) (s x : Operand) (t u : TypeId)
  (ho : o.op = .call { callee := .builtin .append, args := #[s, x], argTypes := #[t, u] }) (v xv : Value) (hs : a.eval s = v) (hx : a.eval x = xv) (v' : Value) (w' : World)
  (hr : ∀ ty, (Builtin.append_ #[t, u] ty #[v, xv]).run P w = .ok v' w') (h : wpList P ops Q rest (a.put o.dst v') w') : wpList P ops Q (o :: rest) a w :=
 wpList_plain hgd fun _ hK => by
  unfold Oper.wp execOp
  simp only [ho, resolve, invoke, builtin, Sem.run_bind, Sem.run_pure, Result.andThen_ok, List.map_toArray, List.map_cons, List.map_nil, hs, hx, hr]
  exact hK _ _ h
theorem app_bytes {P : Program} (w : World) {ops : Array Oper} {rest : List Oper} {o : Oper} {a : Act} {Q : Exit → Act → World → Prop} (hgd : o.guard = none) (s x : Operand) (t : TypeId)
  (ho : o.op = .call { callee := .builtin .append, args := #[s, x], argTypes := #[t, t] }) (e : TypeId) (ht : P.underlying t = some (.slice e)) (hinfo : (P.info? e).map (fun i => (i.zero, i.size, i.bytes)) = some (some (.int .u8 0), 1, 1))
  {base g cap n k : Nat} {l m : List UInt8} (hs : a.eval s = .slice (some ⟨g, 0, none⟩) n cap) (hn : l.length = n) (ad : Addr) (c : Nat) (hx : a.eval x = .slice (some ad) k c) (hk : m.length = k)
  (h : Bf base w g cap l) (hm : ∀ j u, (byteVals m)[j]? = some u → w.cell? (ad.add j) = some u) (hz : l.length + m.length ≤ 1099511627776)
  (hK : ∀ g' cap' w' n', Hid (n' = (l ++ m).length) → Ap base w g w' g' cap' (l ++ m) → wpList P ops Q rest (a.put o.dst (.slice (some ⟨g', 0, none⟩) n' cap')) w') : wpList P ops Q (o :: rest) a w := by
 subst hn hk
 obtain ⟨g', cap', w', hr, hap⟩ := run_bytes h (by have := h.lt; have := h.new; omega) t e ht hinfo ad c hm hz
 exact app_any w hgd s x t t ho _ _ hs hx _ _ hr (hK g' cap' w' _ rfl hap)
theorem app_text {P : Program} (w : World) {ops : Array Oper} {rest : List Oper} {o : Oper} {a : Act} {Q : Exit → Act → World → Prop} (hgd : o.guard = none) (s x : Operand) (t u : TypeId)
  (ho : o.op = .call { callee := .builtin .append, args := #[s, x], argTypes := #[t, u] }) (e : TypeId) (ht : P.underlying t = some (.slice e)) (hu : P.underlying u = some .string) (hinfo : (P.info? e).map (fun i => (i.zero, i.size, i.bytes)) = some (some (.int .u8 0), 1, 1))
  {base g cap n : Nat} {l : List UInt8} (hs : a.eval s = .slice (some ⟨g, 0, none⟩) n cap) (hn : l.length = n) (S : ByteArray) (hx : a.eval x = .string S)
  (h : Bf base w g cap l) (hz : l.length + S.size ≤ 1099511627776)
  (hK : ∀ g' cap' w' n', Hid (n' = (l ++ S.data.toList).length) → Ap base w g w' g' cap' (l ++ S.data.toList) → wpList P ops Q rest (a.put o.dst (.slice (some ⟨g', 0, none⟩) n' cap')) w') : wpList P ops Q (o :: rest) a w := by
 subst hn
 obtain ⟨g', cap', w', hr, hap⟩ := run_text h (by have := h.lt; have := h.new; omega) t u e ht hu hinfo S hz
 exact app_any w hgd s x t u ho _ _ hs hx _ _ hr (hK g' cap' w' _ rfl hap)
theorem conv_bf {P : Program} (w : World) (src dst e : TypeId) (S : ByteArray) (hS : S.size ≤ 1099511627776) (hs : P.underlying src = some .string) (hd : P.underlying dst = some (.slice e)) (he : P.underlying e = some (.int .u8)) :
  ∃ cap W1, (convert src dst (.string S)).run P w = .ok (.slice (some ⟨w.heap.size, 0, none⟩) S.size cap) W1 ∧ Bf w.heap.size W1 w.heap.size cap S.data.toList ∧ Below w.heap.size w W1 ∧ W1.heap.size = w.heap.size + 1 := by
 have hb := Lib.bytesWorld_at_new w e S
 have hge := grownCap_ge w S.size 0 e
 have hz : (Lib.bytesCells w e S).size = grownCap w S.size 0 e := by simp [Lib.bytesCells]; omega
 have hsz : S.data.toList.length = S.size := by simp
 refine ⟨_, _, Lib.run_convert_string_bytes w src dst e S hs hd he, ⟨Nat.le_refl _, by rw [Lib.bytesWorld_size]; omega, fun j hj => ?_, fun j hj => ⟨?_, ?_⟩, by rw [hsz]; exact hge, grownCap_le_maxLen w S.size 0 e (by unfold maxLen; omega)⟩, ⟨rfl, rfl, rfl, by rw [Lib.bytesWorld_size]; omega, fun k hk => Lib.bytesWorld_at_old w e S k hk⟩, Lib.bytesWorld_size _ _ _⟩
 ·rw [Lib.bytesWorld_cell w e S j (by omega), List.getD_eq_getElem?_getD, List.getElem?_eq_getElem hj]; rfl
 ·simp only [World.cell?, hb]
  rw [Array.getElem?_eq_getElem (by omega)]
  rfl
 ·simp only [World.frozen?, hb]
  simp
  omega
end Go.Proofs.YthbgpfjbfkiljaaGreatDoor.bf

set_option linter.unusedVariables false
set_option linter.unusedSimpArgs false
set_option maxRecDepth 100000
set_option maxHeartbeats 16000000
namespace Go.Proofs.YthbgpfjbfkiljaaGreatDoor.bf
open Go.ChangeShapes Go.WideShapes Go.ChangeAt Go.RowKit Go.Deep
theorem info5 : (Tryz.prog.info? 5).map (fun i => (i.zero, i.size, i.bytes)) = some (some (.int .u8 0), 1, 1) := by kernel_rfl
def num (n : Nat) : List UInt8 := if n < 128 then [UInt8.ofNat n] else UInt8.ofNat (n % 128 + 128) :: num (n / 128)
termination_by n
decreasing_by omega
theorem num_low {n : Nat} (h : n < 128) : num n = [UInt8.ofNat n] := by rw [num, if_pos h]
theorem num_high {n : Nat} (h : ¬ n < 128) : num n = UInt8.ofNat (n % 128 + 128) :: num (n / 128) := by rw [num, if_neg h]
theorem num_len : ∀ (k n : Nat), n < 128 * 2 ^ k → (num n).length ≤ k + 1
 | 0, n, h => by rw [num_low (by omega)]; simp
 | k + 1, n, h => by
  by_cases hn : n < 128
  ·rw [num_low hn]; simp
  ·rw [num_high hn]
   have := num_len k (n / 128) (by rw [Nat.pow_succ] at h; omega)
   simp; omega
theorem one_at (w : World) (x : UInt8) (V : Int) (e : TypeId) (hV : V = (x.toNat : Int)) : ∀ j u, (byteVals [x])[j]? = some u → (w.alloc (.cells #[.int .u8 V] e)).cell? ((⟨w.heap.size, 0, none⟩ : Addr).add j) = some u := by
 subst hV
 exact one_new w _ e
theorem one_at' (w : World) (k : Nat) (hk : k = w.heap.size) (x : UInt8) (V : Int) (e : TypeId) (hV : V = (x.toNat : Int)) : ∀ j u, (byteVals [x])[j]? = some u → (w.alloc (.cells #[.int .u8 V] e)).cell? ((⟨k, 0, none⟩ : Addr).add j) = some u := by
 subst hk
 exact one_at w x V e hV
theorem byte_val {n : Nat} (h : n < 256) : ((n : Nat) : Int) = ((UInt8.ofNat n).toNat : Int) := by
 simp [UInt8.toNat_ofNat]; omega
theorem num_any (base g cap z0 : Nat) (l : List UInt8) (n : Nat) (hn : n ≤ 1048576) (w : World) (h : Bf base w g cap l) (hl : l.length ≤ 1099511627000) (hz0 : z0 = l.length) :
  Calls Tryz.prog 165 #[.slice (some ⟨g, 0, none⟩) z0 cap, .int .i64 (n : Int)] w fun e w' => ∃ g' cap' z', e = .returned (.slice (some ⟨g', 0, none⟩) z' cap') ∧ Hid (z' = (l ++ num n).length) ∧ Ap base w g w' g' cap' (l ++ num n) := by
 have HZ0 : Hid (z0 = l.length) := hz0
 clear hz0
 go_enter Tryz.func165, Tryz.ntmps165
 go_wp2
 go_loopw [0, 1] (fun b x wr => ∃ (g' cap' m z : Nat) (pre : List UInt8), z = (l ++ pre).length ∧ b = .slice (some ⟨g', 0, none⟩) z cap' ∧ x = .int .i64 (m : Int) ∧ m ≤ n ∧ num n = pre ++ num m ∧ Ap base w g wr g' cap' (l ++ pre)) (fun _ x _ => (intOf x).toNat)
 case atStart => exact ⟨g, cap, n, z0, [], by rw [List.append_nil]; exact HZ0.out, rfl, rfl, Nat.le_refl _, rfl, by rw [List.append_nil]; exact Ap.refl h⟩
 case round =>
  obtain ⟨g', cap', m, z, pre, hz, rfl, rfl, hm, he, hap⟩ := hrel
  obtain ⟨L, hL⟩ : ∃ L, L = l ++ pre := ⟨_, rfl⟩
  rw [← hL] at hz hap
  have HLL : Hid (L = l ++ pre) := hL
  have HZ : Hid (z = L.length) := hz
  have HE : Hid (num n = pre ++ num m) := he
  have HL : Hid (L.length + 1 ≤ 1099511627776) := by
   have h1 := num_len 14 n (by rw [show 128 * 2 ^ 14 = 2097152 from rfl]; omega)
   rw [he, List.length_append] at h1
   show _ ≤ _
   rw [hL, List.length_append]
   omega
  have HAP : Hid (Ap base w g wr g' cap' L) := hap
  clear hz he hap hL
  by_cases hlt : m < 128
  ·have hlt' : ¬ (128 : Int) ≤ (m : Int) := by omega
   obtain ⟨x, hx⟩ : ∃ x, x = UInt8.ofNat m := ⟨_, rfl⟩
   have HX : Hid (num n = pre ++ [x]) := by show _ = _; rw [HE.out, num_low hlt, hx]
   have HV : Hid ((m : Int) = (x.toNat : Int)) := by show _ = _; rw [hx]; exact byte_val (n := m) (by omega)
   clear hx
   go_wp2_with (first
    | (at_builtin; refine app_bytes _ rfl _ _ 125 rfl 5 Tryz.underlying125 info5 rfl HZ.out.symm ⟨wr.heap.size, 0, none⟩ 1 (m := [x]) rfl rfl (HAP.out.bf.below ((Below.refl _ _).alloc (Nat.le_refl _) _)) (one_at wr _ _ _ HV.out) HL.out ?_)
    | go_in)
   intro g2 c2 w2 n2 hn2 hap2
   have HA : Hid (Ap base w g w2 g2 c2 (l ++ num n)) := by
    have := HAP.out.trans (hap2.after ((Below.refl _ _).alloc (Nat.le_refl _) _))
    rwa [HLL.out, List.append_assoc, ← HX.out] at this
   have HN : Hid (n2 = (l ++ num n).length) := by have := hn2.out; have h2 := HLL.out; show n2 = _; rw [HX.out, ← List.append_assoc, ← h2]; simpa using this
   clear hap2 hn2
   go_wp2
   go_ret
   exact ⟨g2, c2, n2, rfl, HN, HA.out⟩
  ·have hlt' : (128 : Int) ≤ (m : Int) := by omega
   obtain ⟨x, hx⟩ : ∃ x, x = UInt8.ofNat (m % 128 + 128) := ⟨_, rfl⟩
   have HV : Hid ((m : Int) % 128 + 128 = (x.toNat : Int)) := by show _ = _; rw [hx, ← byte_val (n := m % 128 + 128) (by omega)]; omega
   have HF : Hid (num n = (pre ++ [x]) ++ num (m / 128)) := by show _ = _; rw [HE.out, num_high hlt, hx]; simp
   clear hx
   go_wp2_with (first
    | (at_builtin; refine app_bytes _ rfl _ _ 125 rfl 5 Tryz.underlying125 info5 rfl HZ.out.symm ⟨wr.heap.size, 0, none⟩ 1 (m := [x]) rfl rfl (HAP.out.bf.below ((Below.refl _ _).alloc (Nat.le_refl _) _)) (one_at wr _ _ _ HV.out) HL.out ?_)
    | go_in)
   intro g2 c2 w2 n2 hn2 hap2
   have HA : Hid (Ap base w g w2 g2 c2 (l ++ (pre ++ [x]))) := by
    have := HAP.out.trans (hap2.after ((Below.refl _ _).alloc (Nat.le_refl _) _))
    rwa [HLL.out, List.append_assoc] at this
   have HN : Hid (n2 = (l ++ (pre ++ [x])).length) := by have := hn2.out; have h2 := HLL.out; show n2 = _; rw [← List.append_assoc, ← h2]; simpa using this
   clear hap2 hn2
   go_wp2
   go_roundw
   case rel => exact ⟨g2, c2, m / 128, n2, _, HN.out, rfl, by go_num, by omega, HF.out, HA.out⟩
   case measure => simp [intOf]; omega
theorem numb_any (base g cap z0 : Nat) (l : List UInt8) (n : Nat) (hn : n ≤ 1048576) (w : World) (h : Bf base w g cap l) (hl : l.length ≤ 1099511627000) (hz0 : z0 = l.length) :
  Calls Tryz.prog 189 #[.slice (some ⟨g, 0, none⟩) z0 cap, .int .i64 (n : Int)] w fun e w' => ∃ g' cap' z', e = .returned (.slice (some ⟨g', 0, none⟩) z' cap') ∧ Hid (z' = (l ++ num n).length) ∧ Ap base w g w' g' cap' (l ++ num n) := by
 have HZ0 : Hid (z0 = l.length) := hz0
 clear hz0
 go_enter Tryz.func189, Tryz.ntmps189
 go_wp2
 go_loopw [0, 5] (fun b x wr => ∃ (g' cap' m z : Nat) (pre : List UInt8), z = (l ++ pre).length ∧ b = .slice (some ⟨g', 0, none⟩) z cap' ∧ x = .int .u64 (m : Int) ∧ m ≤ n ∧ num n = pre ++ num m ∧ Ap base w g wr g' cap' (l ++ pre)) (fun _ x _ => (intOf x).toNat)
 case atStart => exact ⟨g, cap, n, z0, [], by rw [List.append_nil]; exact HZ0.out, rfl, by go_num, Nat.le_refl _, rfl, by rw [List.append_nil]; exact Ap.refl h⟩
 case round =>
  obtain ⟨g', cap', m, z, pre, hz, rfl, rfl, hm, he, hap⟩ := hrel
  obtain ⟨L, hL⟩ : ∃ L, L = l ++ pre := ⟨_, rfl⟩
  rw [← hL] at hz hap
  have HLL : Hid (L = l ++ pre) := hL
  have HZ : Hid (z = L.length) := hz
  have HE : Hid (num n = pre ++ num m) := he
  have HL : Hid (L.length + 1 ≤ 1099511627776) := by
   have h1 := num_len 14 n (by rw [show 128 * 2 ^ 14 = 2097152 from rfl]; omega)
   rw [he, List.length_append] at h1
   show _ ≤ _
   rw [hL, List.length_append]
   omega
  have HAP : Hid (Ap base w g wr g' cap' L) := hap
  clear hz he hap hL
  by_cases hlt : m < 128
  ·have hlt' : ¬ (128 : Int) ≤ (m : Int) := by omega
   obtain ⟨x, hx⟩ : ∃ x, x = UInt8.ofNat m := ⟨_, rfl⟩
   have HX : Hid (num n = pre ++ [x]) := by show _ = _; rw [HE.out, num_low hlt, hx]
   have HV : Hid ((m : Int) = (x.toNat : Int)) := by show _ = _; rw [hx]; exact byte_val (n := m) (by omega)
   clear hx
   go_wp2_with (first
    | (at_builtin; refine app_bytes _ rfl _ _ 125 rfl 5 Tryz.underlying125 info5 rfl HZ.out.symm ⟨wr.heap.size, 0, none⟩ 1 (m := [x]) rfl rfl (HAP.out.bf.below ((Below.refl _ _).alloc (Nat.le_refl _) _)) (one_at wr _ _ _ HV.out) HL.out ?_)
    | go_in)
   intro g2 c2 w2 n2 hn2 hap2
   have HA : Hid (Ap base w g w2 g2 c2 (l ++ num n)) := by
    have := HAP.out.trans (hap2.after ((Below.refl _ _).alloc (Nat.le_refl _) _))
    rwa [HLL.out, List.append_assoc, ← HX.out] at this
   have HN : Hid (n2 = (l ++ num n).length) := by have := hn2.out; have h2 := HLL.out; show n2 = _; rw [HX.out, ← List.append_assoc, ← h2]; simpa using this
   clear hap2 hn2
   go_wp2
   go_ret
   exact ⟨g2, c2, n2, rfl, HN, HA.out⟩
  ·have hlt' : (128 : Int) ≤ (m : Int) := by omega
   obtain ⟨x, hx⟩ : ∃ x, x = UInt8.ofNat (m % 128 + 128) := ⟨_, rfl⟩
   have HV : Hid ((m : Int) % 128 + 128 = (x.toNat : Int)) := by show _ = _; rw [hx, ← byte_val (n := m % 128 + 128) (by omega)]; omega
   have HF : Hid (num n = (pre ++ [x]) ++ num (m / 128)) := by show _ = _; rw [HE.out, num_high hlt, hx]; simp
   clear hx
   go_wp2_with (first
    | (at_builtin; refine app_bytes _ rfl _ _ 125 rfl 5 Tryz.underlying125 info5 rfl HZ.out.symm ⟨wr.heap.size, 0, none⟩ 1 (m := [x]) rfl rfl (HAP.out.bf.below ((Below.refl _ _).alloc (Nat.le_refl _) _)) (one_at wr _ _ _ HV.out) HL.out ?_)
    | go_in)
   intro g2 c2 w2 n2 hn2 hap2
   have HA : Hid (Ap base w g w2 g2 c2 (l ++ (pre ++ [x]))) := by
    have := HAP.out.trans (hap2.after ((Below.refl _ _).alloc (Nat.le_refl _) _))
    rwa [HLL.out, List.append_assoc] at this
   have HN : Hid (n2 = (l ++ (pre ++ [x])).length) := by have := hn2.out; have h2 := HLL.out; show n2 = _; rw [← List.append_assoc, ← h2]; simpa using this
   clear hap2 hn2
   go_wp2
   go_roundw
   case rel => exact ⟨g2, c2, m / 128, n2, _, HN.out, rfl, by go_num, by omega, HF.out, HA.out⟩
   case measure => simp [intOf]; omega
theorem text_any (base g cap z0 : Nat) (l : List UInt8) (S : ByteArray) (hS : S.size ≤ 1048576) (w : World) (h : Bf base w g cap l) (hl : l.length ≤ 1099510000000) (hz0 : z0 = l.length) :
  Calls Tryz.prog 166 #[.slice (some ⟨g, 0, none⟩) z0 cap, .string S] w fun e w' => ∃ g' cap' z', e = .returned (.slice (some ⟨g', 0, none⟩) z' cap') ∧ Hid (z' = (l ++ num S.size ++ S.data.toList).length) ∧ Ap base w g w' g' cap' (l ++ num S.size ++ S.data.toList) := by
 have HNA : Hid (Calls Tryz.prog 165 #[.slice (some ⟨g, 0, none⟩) z0 cap, .int .i64 (S.size : Int)] w fun e w' => ∃ g' cap' z', e = .returned (.slice (some ⟨g', 0, none⟩) z' cap') ∧ Hid (z' = (l ++ num S.size).length) ∧ Ap base w g w' g' cap' (l ++ num S.size)) := num_any base g cap z0 l S.size hS w h (by omega) hz0
 have HL : Hid ((l ++ num S.size).length + S.data.toList.length ≤ 1099511627776) := by
  show _ ≤ _
  have h1 := num_len 14 S.size (by rw [show 128 * 2 ^ 14 = 2097152 from rfl]; omega)
  have h2 : S.data.toList.length = S.size := by simp
  rw [List.length_append, h2]
  omega
 clear hz0 hl
 obtain ⟨L, hL⟩ : ∃ L, L = l ++ num S.size := ⟨_, rfl⟩
 obtain ⟨M, hM⟩ : ∃ M, M = S.data.toList := ⟨_, rfl⟩
 rw [← hL] at HNA HL ⊢
 rw [← hM] at HL ⊢
 have HML : Hid (M.length = S.size) := by show _ = _; rw [hM]; simp
 have HMS : Hid (M = S.data.toList) := hM
 clear hL hM
 go_enter Tryz.func166, Tryz.ntmps166
 go_wp2_with (go_at_call 165; refine HNA.out.mono ?_; rintro e w1 ⟨g1, c1, z1, rfl, hz1, ha1⟩; refine Hid.out ?_)
 refine Lib.hid ?_
 obtain ⟨cc, W1, hcv, hbf, hbw, hsz⟩ := conv_bf (P := Tryz.prog) w1 9 125 5 S (by omega) Tryz.underlying9 Tryz.underlying125 Tryz.underlying5
 rw [← HMS.out] at hbf
 have HC : Hid (∀ j u, (byteVals M)[j]? = some u → W1.cell? ((⟨w1.heap.size, 0, none⟩ : Addr).add j) = some u) := by
  intro j u hj
  obtain ⟨hj', rfl⟩ := byteVals_get hj
  rw [addr_add, Nat.zero_add]
  exact hbf.cells j hj'
 have HB1 : Hid (Bf base W1 g1 c1 L) := ha1.bf.below hbw
 have HW : Hid (Below w1.heap.size w1 W1) := hbw
 clear hbf hbw hsz
 go_wp2_with (first
  | (at_builtin; refine app_bytes _ rfl _ _ 125 rfl 5 Tryz.underlying125 info5 rfl hz1.out.symm ⟨w1.heap.size, 0, none⟩ cc (m := M) rfl HML.out HB1.out HC.out HL.out ?_)
  | go_in)
 intro g2 c2 w2 n2 hn2 hap2
 have HA : Hid (Ap base w g w2 g2 c2 (L ++ M)) := ha1.trans (hap2.after HW.out)
 clear hap2 ha1
 go_wp2
 go_ret
 exact ⟨g2, c2, n2, rfl, by have := hn2.out; show n2 = _; simpa using this, HA.out⟩
theorem piece_any (base g cap z0 : Nat) (l : List UInt8) (S : ByteArray) (hS : S.size ≤ 1048576) (w : World) (h : Bf base w g cap l) (hl : l.length ≤ 1099510000000) (hz0 : z0 = l.length) :
  Calls Tryz.prog 190 #[.slice (some ⟨g, 0, none⟩) z0 cap, .string S] w fun e w' => ∃ g' cap' z', e = .returned (.slice (some ⟨g', 0, none⟩) z' cap') ∧ Hid (z' = (l ++ num S.size ++ S.data.toList).length) ∧ Ap base w g w' g' cap' (l ++ num S.size ++ S.data.toList) := by
 have HNA : Hid (Calls Tryz.prog 189 #[.slice (some ⟨g, 0, none⟩) z0 cap, .int .i64 (S.size : Int)] w fun e w' => ∃ g' cap' z', e = .returned (.slice (some ⟨g', 0, none⟩) z' cap') ∧ Hid (z' = (l ++ num S.size).length) ∧ Ap base w g w' g' cap' (l ++ num S.size)) := numb_any base g cap z0 l S.size hS w h (by omega) hz0
 have HL : Hid ((l ++ num S.size).length + S.size ≤ 1099511627776) := by
  show _ ≤ _
  have h1 := num_len 14 S.size (by rw [show 128 * 2 ^ 14 = 2097152 from rfl]; omega)
  rw [List.length_append]
  omega
 clear hz0 hl
 obtain ⟨L, hL⟩ : ∃ L, L = l ++ num S.size := ⟨_, rfl⟩
 rw [← hL] at HNA HL ⊢
 clear hL
 go_enter Tryz.func190, Tryz.ntmps190
 go_wp2_with (first
  | (go_at_call 189; refine HNA.out.mono ?_; rintro e w1 ⟨g1, c1, z1, rfl, hz1, ha1⟩)
  | (at_builtin; refine app_text _ rfl _ _ 125 9 rfl 5 Tryz.underlying125 Tryz.underlying9 info5 rfl hz1.out.symm S rfl ha1.bf HL.out ?_)
  | go_in)
 intro g2 c2 w2 n2 hn2 hap2
 have HA := Lib.hid (ha1.trans hap2)
 clear hap2 ha1
 go_wp2
 go_ret
 exact ⟨g2, c2, n2, rfl, by have := hn2.out; show n2 = _; simpa using this, HA.out⟩
end Go.Proofs.YthbgpfjbfkiljaaGreatDoor.bf
