import Derived.Test.YtccnepenfglfoaaGreatRows
import Derived.Test.YtccnepenfglfoaaGreatL
import Derived.ArgAppend
import Derived.Lib.Hide
namespace Go.Proofs.YtccnepenfglfoaaGreat.fi
open Go.ChangeShapes Go.WideShapes Go.ChangeAt Go.RowKit Go.Deep
set_option linter.unusedVariables false
set_option linter.unusedSimpArgs false

/-! ### A row of numbers that can be appended to and be cut at its head -/

def nV (l : List Nat) : List Value := l.map fun (n : Nat) => Value.int .i64 (n : Int)
theorem nV_len (l : List Nat) : (nV l).length = l.length := by simp [nV]
theorem nV_get {l : List Nat} {j : Nat} {u : Value} (h : (nV l)[j]? = some u) : ∃ hj : j < l.length, u = .int .i64 (l[j] : Int) := by
  have hj : j < l.length := by have := (List.getElem?_eq_some_iff.1 h).1; rwa [nV_len] at this
  refine ⟨hj, ?_⟩
  simpa [nV, hj] using h.symm
theorem nV_at {l : List Nat} {j : Nat} (h : j < l.length) : (nV l)[j]? = some (.int .i64 (l[j] : Int)) := by simp [nV, h]
theorem nV_one (l : List Nat) : ∀ u ∈ nV l, u.oneCell' = true := by
  intro u hu
  obtain ⟨b, _, rfl⟩ := List.mem_map.1 hu
  rfl

structure Ib (base : Nat) (w : World) (g o cap : Nat) (l : List Nat) : Prop where
  new : base ≤ g
  lt : g < w.heap.size
  cells : ∀ j (h : j < l.length), w.cell? ⟨g, o + j, none⟩ = some (.int .i64 (l[j] : Int))
  spare : ∀ j, j < cap → (w.cell? ⟨g, o + j, none⟩).isSome = true ∧ w.frozen? ⟨g, o + j, none⟩ = false
  le : l.length ≤ cap
  max : cap ≤ maxLen

theorem Ib.kept {base : Nat} {w w' : World} {g o cap : Nat} {l : List Nat} (h : Ib base w g o cap l) (hs : w.heap.size ≤ w'.heap.size) (hb : w'.heap[g]? = w.heap[g]?) : Ib base w' g o cap l :=
  ⟨h.new, by have := h.lt; omega, fun j hj => (World.cell?_of_block (a := ⟨g, o + j, none⟩) hb).trans (h.cells j hj), fun j hj => by
    rw [World.cell?_of_block (a := ⟨g, o + j, none⟩) hb, World.frozen?_of_block (a := ⟨g, o + j, none⟩) hb]; exact h.spare j hj, h.le, h.max⟩
theorem Ib.below {base : Nat} {w w' : World} {g o cap : Nat} {l : List Nat} (h : Ib base w g o cap l) (hb : Below w.heap.size w w') : Ib base w' g o cap l := h.kept hb.size (hb.block g h.lt)
theorem Ib.drop {base : Nat} {w : World} {g o cap x : Nat} {l : List Nat} (h : Ib base w g o cap (x :: l)) : Ib base w g (o + 1) (cap - 1) l :=
  ⟨h.new, h.lt, fun j hj => by
    have := h.cells (j + 1) (by simpa using hj)
    rw [show o + 1 + j = o + (j + 1) by omega]
    simpa using this, fun j hj => by rw [show o + 1 + j = o + (j + 1) by omega]; exact h.spare (j + 1) (by omega), by have := h.le; simp at this; omega, by have := h.max; omega⟩
theorem Ib.mono {B B' : Nat} {w : World} {g o cap : Nat} {l : List Nat} (h : Ib B w g o cap l) (hb : B' ≤ B) : Ib B' w g o cap l := ⟨Nat.le_trans hb h.new, h.lt, h.cells, h.spare, h.le, h.max⟩
theorem Ib.emp {base : Nat} {w : World} {g o cap : Nat} {l : List Nat} (h : Ib base w g o cap l) (o' : Nat) : Ib base w g o' 0 [] := ⟨h.new, h.lt, fun j hj => by simp at hj, fun j hj => by omega, Nat.le_refl _, Nat.zero_le _⟩
/-- Cut at its head: where nothing more can stand, the address stays. -/
theorem Ib.tail {base : Nat} {w : World} {g o cap x : Nat} {l : List Nat} (h : Ib base w g o cap (x :: l)) : ∃ o', (if cap = 1 then some (⟨g, o, none⟩ : Addr) else some ⟨g, o + 1, none⟩) = some ⟨g, o', none⟩ ∧ Ib base w g o' (cap - 1) l := by
  have h1 := h.le
  rw [List.length_cons] at h1
  by_cases e : cap = 1
  · obtain rfl : l = [] := List.eq_nil_of_length_eq_zero (by omega)
    subst e
    exact ⟨o, by rw [if_pos rfl], h.emp o⟩
  · exact ⟨o + 1, by rw [if_neg e], h.drop⟩

/-- What an append leaves: the row, perhaps in a new block; but for its own block all stays. -/
structure Ap (base : Nat) (w : World) (g : Nat) (w' : World) (g' o' cap' : Nat) (l' : List Nat) : Prop where
  ib : Ib base w' g' o' cap' l'
  grown : w.grownBy w' (some g)
  here : g' = g ∨ w.heap.size ≤ g'
theorem Ap.bel {base : Nat} {w w1 : World} {g g1 o1 c1 : Nat} {l1 : List Nat} (h : Ap base w g w1 g1 o1 c1 l1) (hg : base ≤ g) (hB : base ≤ w.heap.size) : Below base w w1 :=
  ⟨h.grown.os, h.grown.tape, h.grown.output, h.grown.size, fun k hk => h.grown.block k (by omega) (fun e => by have := Option.some.inj e; omega)⟩

theorem below_setCells' {B : Nat} {a : World} {b : Nat} (hb : B ≤ b) : ∀ (vs : List Value) (o : Nat) (w : World), Below B a w → Below B a (w.setCells b o vs)
  | [], _, _, h => h
  | v :: r, o, w, h => below_setCells' hb r (o + 1) _ (h.setCell (p := ⟨b, o, none⟩) hb v)
theorem setCells_ib {base : Nat} {w : World} {g o cap : Nat} {l m : List Nat} (h : Ib base w g o cap l) (hr : l.length + m.length ≤ cap) : Ap base w g (w.setCells g (o + l.length) (nV m)) g o cap (l ++ m) := by
  have sz : ∀ (vs : List Value) (o : Nat) (W : World), (W.setCells g o vs).heap.size = W.heap.size := by
    intro vs
    induction vs with
    | nil => intro o W; rfl
    | cons v r ih => intro o W; exact (ih (o + 1) _).trans (by simp [World.setCell])
  have bl : Below g w (w.setCells g (o + l.length) (nV m)) := below_setCells' (Nat.le_refl _) _ _ _ (Below.refl _ _)
  have oth : ∀ (vs : List Value) (o : Nat) (W : World) (k : Nat), k ≠ g → (W.setCells g o vs).heap[k]? = W.heap[k]? := by
    intro vs
    induction vs with
    | nil => intro o W k _; rfl
    | cons v r ih => intro o W k hk; exact (ih (o + 1) _ k hk).trans (Below.heap_setCell _ _ _ _ hk)
  have fz : ∀ (vs : List Value) (o : Nat) (W : World) (j : Nat), (W.setCells g o vs).frozen? ⟨g, j, none⟩ = W.frozen? ⟨g, j, none⟩ := by
    intro vs
    induction vs with
    | nil => intro o W j; rfl
    | cons v r ih => intro o W j; exact (ih (o + 1) _ j).trans (by simp [go_sem])
  have cs : ∀ (j : Nat), (w.setCells g (o + l.length) (nV m)).cell? ⟨g, o + j, none⟩ = if h : l.length ≤ j ∧ j - l.length < m.length then some (.int .i64 (m[j - l.length] : Int)) else w.cell? ⟨g, o + j, none⟩ := by
    intro j
    split
    · next hj =>
      have := World.cell?_setCells_in g (nV m) (o + l.length) w (fun i hi => by rw [Nat.add_assoc]; exact (h.spare _ (by rw [nV_len] at hi; omega)).1) (j - l.length) (by rw [nV_len]; exact hj.2)
      rw [show o + l.length + (j - l.length) = o + j by omega] at this
      rw [this]
      simp [nV]
    · next hj =>
      exact World.cell?_setCells_out _ _ _ _ _ (fun _ _ => by rw [nV_len]; show o + j < _ ∨ _ ≤ o + j; omega)
  refine ⟨⟨h.new, by rw [sz]; exact h.lt, fun j hj => ?_, fun j hj => ⟨?_, ?_⟩, by simpa using hr, h.max⟩, ⟨bl.os, bl.tape, bl.output, by rw [sz]; exact Nat.le_refl _, fun k hk hn => oth _ _ _ _ (fun e => hn (by rw [e]))⟩, .inl rfl⟩
  · rw [cs]
    by_cases hl : l.length ≤ j
    · have hj' : j - l.length < m.length := by rw [List.length_append] at hj; omega
      rw [dif_pos ⟨hl, hj'⟩, List.getElem_append_right hl]
    · rw [dif_neg (fun e => hl e.1), h.cells j (by omega), List.getElem_append_left (by omega)]
  · rw [cs]
    split
    · rfl
    · exact (h.spare j hj).1
  · rw [fz]; exact (h.spare j hj).2

theorem grow_ib {base : Nat} {w : World} {g o cap c2 : Nat} {l m : List Nat} (h : Ib base w g o cap l) (hB : base ≤ w.heap.size) (e : TypeId) (hc : (l ++ m).length ≤ c2) (hm : c2 ≤ maxLen) :
    Ap base w g (w.drew.alloc (.cells ((nV l).toArray ++ (nV m).toArray ++ Builtin.zeroCells (Value.int .i64 0).cells (c2 - (l.length + m.length))) e)) w.heap.size 0 c2 (l ++ m) := by
  have hz : (Value.int IntKind.i64 0).cells.size = 1 := rfl
  have hlen : ((nV l).toArray ++ (nV m).toArray ++ Builtin.zeroCells (Value.int .i64 0).cells (c2 - (l.length + m.length))).size = c2 := by
    rw [List.length_append] at hc
    simp only [Array.size_append, List.size_toArray, size_zeroCells, hz, nV_len]
    omega
  have hcell : ∀ j, (w.drew.alloc (.cells ((nV l).toArray ++ (nV m).toArray ++ Builtin.zeroCells (Value.int .i64 0).cells (c2 - (l.length + m.length))) e)).cell? ⟨w.heap.size, 0 + j, none⟩ = ((nV l).toArray ++ (nV m).toArray ++ Builtin.zeroCells (Value.int .i64 0).cells (c2 - (l.length + m.length)))[j]? := fun j => by rw [Nat.zero_add]; exact World.cell?_alloc_new w.drew _ _ j
  refine ⟨⟨hB, by simp, fun j hj => ?_, fun j hj => ⟨?_, ?_⟩, hc, hm⟩, ⟨rfl, rfl, rfl, by simp, fun k hk _ => Below.heap_alloc w.drew _ k hk⟩, .inr (Nat.le_refl _)⟩
  · have hj2 : j < ((nV l).toArray ++ (nV m).toArray).size := by simpa [nV_len] using hj
    rw [hcell, Array.getElem?_append_left hj2]
    rw [← nV_at hj]
    simp [nV]
  · rw [hcell, Array.getElem?_eq_getElem (by omega)]; rfl
  · have hb : (w.drew.alloc (.cells ((nV l).toArray ++ (nV m).toArray ++ Builtin.zeroCells (Value.int .i64 0).cells (c2 - (l.length + m.length))) e)).heap[w.heap.size]? = _ := heap_alloc_new w.drew _
    unfold World.frozen?
    simp only [hb]
    simp

theorem infoI : (Tryz.prog.info? 3).map (fun i => (i.zero, i.size, i.bytes)) = some (some (.int .i64 0), 1, 8) := by kernel_rfl

/-- An append of numbers. -/
theorem run_ints {base : Nat} {w : World} {g o cap : Nat} {l m : List Nat} (h : Ib base w g o cap l) (hB : base ≤ w.heap.size) (ad : Addr) (c : Nat) (hm : ∀ j u, (nV m)[j]? = some u → w.cell? (ad.add j) = some u) (hz : l.length + m.length ≤ 1099511627) :
    ∃ g' o' cap' w', (∀ ty, (Builtin.append_ #[48, 48] ty #[.slice (some ⟨g, o, none⟩) l.length cap, .slice (some ad) m.length c]).run Tryz.prog w = .ok (.slice (some ⟨g', o', none⟩) (l ++ m).length cap') w') ∧ Ap base w g w' g' o' cap' (l ++ m) := by
  obtain ⟨i, hi, hzz⟩ := Option.map_eq_some_iff.1 infoI
  simp only [Prod.mk.injEq] at hzz
  obtain ⟨hz0, hsz, hby⟩ := hzz
  have hL : (l ++ m).length = l.length + m.length := List.length_append
  by_cases hroom : l.length + m.length ≤ cap
  · have hr := fun ty => run_append_room_cells (P := Tryz.prog) w 48 ty 3 i Tryz.underlying48 hi g o l.length cap ad m.length c (nV m) (by rw [hsz, nV_len]; omega) hm (nV_one m) hroom
      (fun j hj => by rw [hsz, Nat.mul_one, Nat.add_assoc]; exact (h.spare _ (by rw [nV_len] at hj; omega)).1) (fun j hj => by rw [hsz, Nat.mul_one, Nat.add_assoc]; exact (h.spare _ (by rw [nV_len] at hj; omega)).2)
    simp only [hsz, Nat.mul_one] at hr
    exact ⟨g, o, cap, _, fun ty => by rw [hr ty, hL], setCells_ib h hroom⟩
  · have holds : ∀ j u, (nV l)[j]? = some u → w.cell? ((⟨g, o, none⟩ : Addr).add j) = some u := by
      intro j u hj
      obtain ⟨hj', rfl⟩ := nV_get hj
      rw [addr_add]
      exact h.cells j hj'
    have hr := fun ty => run_append_grow (P := Tryz.prog) w 48 ty 3 i (.int .i64 0) Tryz.underlying48 hi hz0 ⟨g, o, none⟩ l.length cap (nV l) (by rw [hsz, nV_len]; omega) holds ad m.length c (nV m) (by rw [hsz, nV_len]; omega) hm (by omega) (by omega)
      (growslice_fits (by omega) (by rw [hby]; omega))
    refine ⟨w.heap.size, 0, grownCap w (l.length + m.length) cap 3, _, fun ty => by rw [hr ty, hL], grow_ib h hB 3 ?_ (grownCap_le_maxLen w _ cap 3 (by unfold maxLen; omega))⟩
    rw [hL]
    exact grownCap_ge w (l.length + m.length) cap 3

/-- An append as one operation that is carried out in a region. -/
theorem wp_appI {o : Oper} {a : Act} {W W6 : World} {v x v6 : Value} {K : Act → World → Prop} {Q : Exit → Act → World → Prop} (s y : Operand) (ho : o.op = .call { callee := .builtin .append, args := #[s, y], argTypes := #[48, 48] }) (hty : o.type = 48) (hs : a.eval s = v) (hx : a.eval y = x)
    (hr : (Builtin.append_ #[48, 48] 48 #[v, x]).run Tryz.prog W = .ok v6 W6) (h : K (a.put o.dst v6) W6) : o.wp Tryz.prog a W K Q := by
  unfold Oper.wp execOp
  simp only [ho, hty, resolve, invoke, builtin, Sem.run_bind, Sem.run_pure, Result.andThen_ok, List.map_toArray, List.map_cons, List.map_nil, hs, hx, hr]
  exact h

end Go.Proofs.YtccnepenfglfoaaGreat.fi
