import Derived.Test.YtaoimkjcaienbaaGreatDoorG01
import Derived.Lib.ConvBytes
import Derived.ArgAppend
import Derived.Lib.AppendStr
import Derived.Lib.Hide
import Derived.Test.YtaoimkjcaienbaaGreatDoorRows
import Derived.Test.YtaoimkjcaienbaaGreatDoorG05
import Derived.Shelf.Strings.Replace
import Derived.Shelf.Strings.BuilderX
import Derived.Ground.NamesProg
namespace Go.Proofs.YtaoimkjcaienbaaGreatDoor.bf
open Go.ChangeShapes Go.WideShapes Go.ChangeAt Go.RowKit Go.Deep
set_option linter.unusedVariables false
set_option linter.unusedSimpArgs false

/-! ### A row of bytes that can be appended to, whoever made it (a conversion too) -/

structure Bf (base : Nat) (w : World) (g cap : Nat) (l : List UInt8) : Prop where
  new : base ≤ g
  lt : g < w.heap.size
  cells : ∀ j (h : j < l.length), w.cell? ⟨g, j, none⟩ = some (.int .u8 (l[j].toNat : Int))
  spare : ∀ j, j < cap → (w.cell? ⟨g, j, none⟩).isSome = true ∧ w.frozen? ⟨g, j, none⟩ = false
  le : l.length ≤ cap
  max : cap ≤ maxLen

/-- As it stands where its block is as it was. -/
theorem Bf.kept {base : Nat} {w w' : World} {g cap : Nat} {l : List UInt8} (h : Bf base w g cap l) (hs : w.heap.size ≤ w'.heap.size) (hb : w'.heap[g]? = w.heap[g]?) : Bf base w' g cap l :=
  ⟨h.new, by have := h.lt; omega, fun j hj => (World.cell?_of_block (a := ⟨g, j, none⟩) hb).trans (h.cells j hj), fun j hj => by
    rw [World.cell?_of_block (a := ⟨g, j, none⟩) hb, World.frozen?_of_block (a := ⟨g, j, none⟩) hb]; exact h.spare j hj, h.le, h.max⟩
theorem Bf.below {base : Nat} {w w' : World} {g cap : Nat} {l : List UInt8} (h : Bf base w g cap l) (hb : Below w.heap.size w w') : Bf base w' g cap l := h.kept hb.size (hb.block g h.lt)

/-- Out of g, grown: what is left is this. -/
structure Ap (base : Nat) (w : World) (g : Nat) (w' : World) (g' cap' : Nat) (l' : List UInt8) : Prop where
  bf : Bf base w' g' cap' l'
  grown : w.grownBy w' (some g)
  here : g' = g ∨ w.heap.size ≤ g'

theorem Ap.refl {base : Nat} {w : World} {g cap : Nat} {l : List UInt8} (h : Bf base w g cap l) : Ap base w g w g cap l := ⟨h, ⟨rfl, rfl, rfl, Nat.le_refl _, fun _ _ _ => rfl⟩, .inl rfl⟩
theorem Ap.trans {base : Nat} {w w1 w2 : World} {g g1 g2 c1 c2 : Nat} {l1 l2 : List UInt8} (h : Ap base w g w1 g1 c1 l1) (k : Ap base w1 g1 w2 g2 c2 l2) : Ap base w g w2 g2 c2 l2 := by
  have s1 := h.grown.size
  refine ⟨k.bf, ⟨k.grown.os.trans h.grown.os, k.grown.tape.trans h.grown.tape, k.grown.output.trans h.grown.output, Nat.le_trans s1 k.grown.size, fun i hi hn => ?_⟩, ?_⟩
  · rw [k.grown.block i (by omega) (fun e => ?_), h.grown.block i hi hn]
    have e' := Option.some.inj e
    rcases h.here with q | q
    · exact hn (by rw [e', q])
    · omega
  · rcases k.here with q | q
    · rw [q]; exact h.here
    · exact .inr (by omega)
/-- Blocks that were made in between stand behind. -/
theorem Ap.after {base : Nat} {w w1 w2 : World} {g g2 c2 : Nat} {l2 : List UInt8} (hb : Below w.heap.size w w1) (k : Ap base w1 g w2 g2 c2 l2) : Ap base w g w2 g2 c2 l2 := by
  have s1 := hb.size
  refine ⟨k.bf, ⟨k.grown.os.trans hb.os, k.grown.tape.trans hb.tape, k.grown.output.trans hb.output, Nat.le_trans s1 k.grown.size, fun i hi hn => ?_⟩, ?_⟩
  · rw [k.grown.block i (by omega) hn, hb.block i hi]
  · rcases k.here with q | q
    · exact .inl q
    · exact .inr (by omega)
theorem Ap.below {base : Nat} {w w1 w2 : World} {g g1 c1 : Nat} {l1 : List UInt8} (h : Ap base w g w1 g1 c1 l1) (hb : Below w1.heap.size w1 w2) : Ap base w g w2 g1 c1 l1 := by
  have s1 := h.grown.size
  refine ⟨h.bf.below hb, ⟨hb.os.trans h.grown.os, hb.tape.trans h.grown.tape, hb.output.trans h.grown.output, Nat.le_trans s1 hb.size, fun i hi hn => ?_⟩, h.here⟩
  rw [hb.block i (by omega), h.grown.block i hi hn]
/-- What lies below base stays. -/
theorem Ap.bel {base : Nat} {w w1 : World} {g g1 c1 : Nat} {l1 : List UInt8} (h : Ap base w g w1 g1 c1 l1) (hg : base ≤ g) (hB : base ≤ w.heap.size) : Below base w w1 :=
  ⟨h.grown.os, h.grown.tape, h.grown.output, h.grown.size, fun k hk => h.grown.block k (by omega) (fun e => by have := Option.some.inj e; omega)⟩

def byteVals (l : List UInt8) : List Value := l.map fun b => Value.int .u8 (b.toNat : Int)
theorem byteVals_length (l : List UInt8) : (byteVals l).length = l.length := by simp [byteVals]
theorem byteVals_get {l : List UInt8} {j : Nat} {u : Value} (h : (byteVals l)[j]? = some u) : ∃ hj : j < l.length, u = .int .u8 (l[j].toNat : Int) := by
  have hj : j < l.length := by have := (List.getElem?_eq_some_iff.1 h).1; rwa [byteVals_length] at this
  refine ⟨hj, ?_⟩
  simpa [byteVals, hj] using h.symm
theorem byteVals_at {l : List UInt8} {j : Nat} (h : j < l.length) : (byteVals l)[j]? = some (.int .u8 (l[j].toNat : Int)) := by simp [byteVals, h]
theorem byteVals_one (l : List UInt8) : ∀ u ∈ byteVals l, u.oneCell' = true := by
  intro u hu
  obtain ⟨b, _, rfl⟩ := List.mem_map.1 hu
  rfl
theorem strCells_eq (s : ByteArray) : Lib.strCells s = byteVals s.data.toList := rfl

theorem setCells_bf {base : Nat} {w : World} {g cap : Nat} {l m : List UInt8} (h : Bf base w g cap l) (hr : l.length + m.length ≤ cap) : Ap base w g (w.setCells g l.length (byteVals m)) g cap (l ++ m) := by
  have sz : ∀ (vs : List Value) (o : Nat) (W : World), (W.setCells g o vs).heap.size = W.heap.size := by
    intro vs
    induction vs with
    | nil => intro o W; rfl
    | cons v r ih => intro o W; exact (ih (o + 1) _).trans (by simp [World.setCell])
  have bl : Below g w (w.setCells g l.length (byteVals m)) := below_setCells' (Nat.le_refl _) _ _ _ (Below.refl _ _)
  have oth : ∀ (vs : List Value) (o : Nat) (W : World) (k : Nat), k ≠ g → (W.setCells g o vs).heap[k]? = W.heap[k]? := by
    intro vs
    induction vs with
    | nil => intro o W k _; rfl
    | cons v r ih => intro o W k hk; exact (ih (o + 1) _ k hk).trans (Below.heap_setCell _ _ _ _ hk)
  have fz : ∀ (vs : List Value) (o : Nat) (W : World) (j : Nat), (W.setCells g o vs).frozen? ⟨g, j, none⟩ = W.frozen? ⟨g, j, none⟩ := by
    intro vs
    induction vs with
    | nil => intro o W j; rfl
    | cons v r ih => intro o W j; exact (ih (o + 1) _ j).trans (by simp [go_sem])
  have cs : ∀ (j : Nat), (w.setCells g l.length (byteVals m)).cell? ⟨g, j, none⟩ = if h : l.length ≤ j ∧ j - l.length < m.length then some (.int .u8 (m[j - l.length].toNat : Int)) else w.cell? ⟨g, j, none⟩ := by
    intro j
    split
    · next hj =>
      have := World.cell?_setCells_in g (byteVals m) l.length w (fun i hi => (h.spare _ (by rw [byteVals_length] at hi; omega)).1) (j - l.length) (by rw [byteVals_length]; exact hj.2)
      rw [show l.length + (j - l.length) = j by omega] at this
      rw [this]
      simp [byteVals]
    · next hj =>
      exact World.cell?_setCells_out _ _ _ _ _ (fun _ _ => by rw [byteVals_length]; show j < _ ∨ _ ≤ j; omega)
  refine ⟨⟨h.new, by rw [sz]; exact h.lt, fun j hj => ?_, fun j hj => ⟨?_, ?_⟩, by simpa using hr, h.max⟩, ⟨bl.os, bl.tape, bl.output, by rw [sz]; exact Nat.le_refl _, fun k hk hn => oth _ _ _ _ (fun e => hn (by rw [e]))⟩, .inl rfl⟩
  · rw [cs]
    by_cases hl : l.length ≤ j
    · have hj' : j - l.length < m.length := by rw [List.length_append] at hj; omega
      rw [dif_pos ⟨hl, hj'⟩, List.getElem_append_right hl]
    · rw [dif_neg (fun e => hl e.1), h.cells j (by omega), List.getElem_append_left (by omega)]
  · rw [cs]
    split
    · rfl
    · exact (h.spare j hj).1
  · rw [fz]; exact (h.spare j hj).2
where
  below_setCells' {B : Nat} {a : World} {b : Nat} (hb : B ≤ b) : ∀ (vs : List Value) (o : Nat) (w : World), Below B a w → Below B a (w.setCells b o vs)
    | [], _, _, h => h
    | v :: r, o, w, h => below_setCells' hb r (o + 1) _ (h.setCell (p := ⟨b, o, none⟩) hb v)

theorem grow_bf {base : Nat} {w : World} {g cap c2 : Nat} {l m : List UInt8} (h : Bf base w g cap l) (hB : base ≤ w.heap.size) (e : TypeId) (hc : (l ++ m).length ≤ c2) (hm : c2 ≤ maxLen) :
    Ap base w g (w.drew.alloc (.cells ((byteVals l).toArray ++ (byteVals m).toArray ++ Builtin.zeroCells (Value.int .u8 0).cells (c2 - (l.length + m.length))) e)) w.heap.size c2 (l ++ m) := by
  have hz : (Value.int IntKind.u8 0).cells.size = 1 := rfl
  have hlen : ((byteVals l).toArray ++ (byteVals m).toArray ++ Builtin.zeroCells (Value.int .u8 0).cells (c2 - (l.length + m.length))).size = c2 := by
    rw [List.length_append] at hc
    simp only [Array.size_append, List.size_toArray, size_zeroCells, hz, byteVals_length]
    omega
  have hcell : ∀ j, (w.drew.alloc (.cells ((byteVals l).toArray ++ (byteVals m).toArray ++ Builtin.zeroCells (Value.int .u8 0).cells (c2 - (l.length + m.length))) e)).cell? ⟨w.heap.size, j, none⟩ = ((byteVals l).toArray ++ (byteVals m).toArray ++ Builtin.zeroCells (Value.int .u8 0).cells (c2 - (l.length + m.length)))[j]? := fun j => World.cell?_alloc_new w.drew _ _ j
  refine ⟨⟨hB, by simp, fun j hj => ?_, fun j hj => ⟨?_, ?_⟩, hc, hm⟩, ⟨rfl, rfl, rfl, by simp, fun k hk _ => Below.heap_alloc w.drew _ k hk⟩, .inr (Nat.le_refl _)⟩
  · have hj2 : j < ((byteVals l).toArray ++ (byteVals m).toArray).size := by simpa [byteVals_length] using hj
    rw [hcell, Array.getElem?_append_left hj2]
    rw [← byteVals_at hj]
    simp [byteVals]
  · rw [hcell, Array.getElem?_eq_getElem (by omega)]; rfl
  · have hb : (w.drew.alloc (.cells ((byteVals l).toArray ++ (byteVals m).toArray ++ Builtin.zeroCells (Value.int .u8 0).cells (c2 - (l.length + m.length))) e)).heap[w.heap.size]? = _ := heap_alloc_new w.drew _
    unfold World.frozen?
    simp only [hb]
    simp

/-- An append of bytes. -/
theorem run_bytes {P : Program} {base : Nat} {w : World} {g cap : Nat} {l m : List UInt8} (h : Bf base w g cap l) (hB : base ≤ w.heap.size) (t e : TypeId) (ht : P.underlying t = some (.slice e))
    (hinfo : (P.info? e).map (fun i => (i.zero, i.size, i.bytes)) = some (some (.int .u8 0), 1, 1)) (ad : Addr) (c : Nat) (hm : ∀ j u, (byteVals m)[j]? = some u → w.cell? (ad.add j) = some u) (hz : l.length + m.length ≤ 1099511627776) :
    ∃ g' cap' w', (∀ ty, (Builtin.append_ #[t, t] ty #[.slice (some ⟨g, 0, none⟩) l.length cap, .slice (some ad) m.length c]).run P w = .ok (.slice (some ⟨g', 0, none⟩) (l ++ m).length cap') w') ∧ Ap base w g w' g' cap' (l ++ m) := by
  obtain ⟨i, hi, hzz⟩ := Option.map_eq_some_iff.1 hinfo
  simp only [Prod.mk.injEq] at hzz
  obtain ⟨hz0, hsz, hby⟩ := hzz
  have hL : (l ++ m).length = l.length + m.length := List.length_append
  by_cases hroom : l.length + m.length ≤ cap
  · have hr := fun ty => run_append_room_cells (P := P) w t ty e i ht hi g 0 l.length cap ad m.length c (byteVals m) (by rw [hsz, byteVals_length]; omega) hm (byteVals_one m) hroom
      (fun j hj => (h.spare _ (by rw [byteVals_length] at hj; rw [hsz]; omega)).1) (fun j hj => (h.spare _ (by rw [byteVals_length] at hj; rw [hsz]; omega)).2)
    simp only [hsz, Nat.mul_one, Nat.zero_add] at hr
    exact ⟨g, cap, _, fun ty => by rw [hr ty, hL], setCells_bf h hroom⟩
  · have holds : ∀ j u, (byteVals l)[j]? = some u → w.cell? ((⟨g, 0, none⟩ : Addr).add j) = some u := by
      intro j u hj
      obtain ⟨hj', rfl⟩ := byteVals_get hj
      rw [addr_add, Nat.zero_add]
      exact h.cells j hj'
    have hr := fun ty => run_append_grow (P := P) w t ty e i (.int .u8 0) ht hi hz0 ⟨g, 0, none⟩ l.length cap (byteVals l) (by rw [hsz, byteVals_length]; omega) holds ad m.length c (byteVals m) (by rw [hsz, byteVals_length]; omega) hm (by omega) (by omega)
      (growslice_fits (by omega) (by rw [hby]; omega))
    refine ⟨w.heap.size, grownCap w (l.length + m.length) cap e, _, fun ty => by rw [hr ty, hL], grow_bf h hB e ?_ (grownCap_le_maxLen w _ cap e (by unfold maxLen; omega))⟩
    rw [hL]
    exact grownCap_ge w (l.length + m.length) cap e

/-- An append of a text's bytes. -/
theorem run_text {P : Program} {base : Nat} {w : World} {g cap : Nat} {l : List UInt8} (h : Bf base w g cap l) (hB : base ≤ w.heap.size) (t u e : TypeId) (ht : P.underlying t = some (.slice e)) (hu : P.underlying u = some .string)
    (hinfo : (P.info? e).map (fun i => (i.zero, i.size, i.bytes)) = some (some (.int .u8 0), 1, 1)) (s : ByteArray) (hz : l.length + s.size ≤ 1099511627776) :
    ∃ g' cap' w', (∀ ty, (Builtin.append_ #[t, u] ty #[.slice (some ⟨g, 0, none⟩) l.length cap, .string s]).run P w = .ok (.slice (some ⟨g', 0, none⟩) (l ++ s.data.toList).length cap') w') ∧ Ap base w g w' g' cap' (l ++ s.data.toList) := by
  obtain ⟨i, hi, hzz⟩ := Option.map_eq_some_iff.1 hinfo
  simp only [Prod.mk.injEq] at hzz
  obtain ⟨hz0, hsz, hby⟩ := hzz
  have hs : s.data.toList.length = s.size := by simp
  have hL : (l ++ s.data.toList).length = l.length + s.size := by rw [List.length_append, hs]
  by_cases hroom : l.length + s.size ≤ cap
  · have hf := Lib.run_firstCells_string (P := P) w 1 s
    have hst := run_storeCells_cells (P := P) g (0 + l.length * 1) (Lib.strCells s) 0 w (fun j hj => by rw [Lib.strCells_length] at hj; exact (h.spare _ (by omega)).1) (fun j hj => by rw [Lib.strCells_length] at hj; exact (h.spare _ (by omega)).2) (Lib.strCells_oneCell s)
    refine ⟨g, cap, w.setCells g l.length (byteVals s.data.toList), fun ty => ?_, setCells_bf h (by rw [hs]; exact hroom)⟩
    rw [hL, ← strCells_eq]
    simp only [Nat.add_zero, Nat.mul_one, Nat.zero_add] at hst
    simp [Builtin.append_, run_underlying ht, run_underlying hu, sizeOf, typeInfo, hi, hsz, Builtin.lenOf, hroom, hf, Addr.add_lit, hst]
  · have holds : ∀ j u, (byteVals l)[j]? = some u → w.cell? ((⟨g, 0, none⟩ : Addr).add j) = some u := by
      intro j u hj
      obtain ⟨hj', rfl⟩ := byteVals_get hj
      rw [addr_add, Nat.zero_add]
      exact h.cells j hj'
    have hr := fun ty => Lib.run_append_grow_string (P := P) w t u ty e i (.int .u8 0) ht hu hi hz0 ⟨g, 0, none⟩ l.length cap (byteVals l) (by rw [hsz, byteVals_length]; omega) holds s (by omega) (by omega)
      (growslice_fits (by omega) (by rw [hby]; omega))
    rw [strCells_eq] at hr
    refine ⟨w.heap.size, grownCap w (l.length + s.size) cap e, _, fun ty => by rw [hr ty, hL], ?_⟩
    have := grow_bf (m := s.data.toList) h hB e (c2 := grownCap w (l.length + s.size) cap e) (by rw [hL]; exact grownCap_ge w (l.length + s.size) cap e) (grownCap_le_maxLen w _ cap e (by unfold maxLen; omega))
    rw [hs] at this
    exact this

theorem app_any {P : Program} (w : World) {ops : Array Oper} {rest : List Oper} {o : Oper} {a : Act} {Q : Exit → Act → World → Prop} (hgd : o.guard = none) (s x : Operand) (t u : TypeId)
    (ho : o.op = .call { callee := .builtin .append, args := #[s, x], argTypes := #[t, u] }) (v xv : Value) (hs : a.eval s = v) (hx : a.eval x = xv) (v' : Value) (w' : World)
    (hr : ∀ ty, (Builtin.append_ #[t, u] ty #[v, xv]).run P w = .ok v' w') (h : wpList P ops Q rest (a.put o.dst v') w') : wpList P ops Q (o :: rest) a w :=
  wpList_plain hgd fun _ hK => by
    unfold Oper.wp execOp
    simp only [ho, resolve, invoke, builtin, Sem.run_bind, Sem.run_pure, Result.andThen_ok, List.map_toArray, List.map_cons, List.map_nil, hs, hx, hr]
    exact hK _ _ h

/-- The operation, for the walk: bytes. -/
theorem app_bytes {P : Program} (w : World) {ops : Array Oper} {rest : List Oper} {o : Oper} {a : Act} {Q : Exit → Act → World → Prop} (hgd : o.guard = none) (s x : Operand) (t : TypeId)
    (ho : o.op = .call { callee := .builtin .append, args := #[s, x], argTypes := #[t, t] }) (e : TypeId) (ht : P.underlying t = some (.slice e)) (hinfo : (P.info? e).map (fun i => (i.zero, i.size, i.bytes)) = some (some (.int .u8 0), 1, 1))
    {base g cap n k : Nat} {l m : List UInt8} (hs : a.eval s = .slice (some ⟨g, 0, none⟩) n cap) (hn : l.length = n) (ad : Addr) (c : Nat) (hx : a.eval x = .slice (some ad) k c) (hk : m.length = k)
    (h : Bf base w g cap l) (hm : ∀ j u, (byteVals m)[j]? = some u → w.cell? (ad.add j) = some u) (hz : l.length + m.length ≤ 1099511627776)
    (hK : ∀ g' cap' w' n', Hid (n' = (l ++ m).length) → Ap base w g w' g' cap' (l ++ m) → wpList P ops Q rest (a.put o.dst (.slice (some ⟨g', 0, none⟩) n' cap')) w') : wpList P ops Q (o :: rest) a w := by
  subst hn hk
  obtain ⟨g', cap', w', hr, hap⟩ := run_bytes h (by have := h.lt; have := h.new; omega) t e ht hinfo ad c hm hz
  exact app_any w hgd s x t t ho _ _ hs hx _ _ hr (hK g' cap' w' _ rfl hap)

/-- The same: a text. -/
theorem app_text {P : Program} (w : World) {ops : Array Oper} {rest : List Oper} {o : Oper} {a : Act} {Q : Exit → Act → World → Prop} (hgd : o.guard = none) (s x : Operand) (t u : TypeId)
    (ho : o.op = .call { callee := .builtin .append, args := #[s, x], argTypes := #[t, u] }) (e : TypeId) (ht : P.underlying t = some (.slice e)) (hu : P.underlying u = some .string) (hinfo : (P.info? e).map (fun i => (i.zero, i.size, i.bytes)) = some (some (.int .u8 0), 1, 1))
    {base g cap n : Nat} {l : List UInt8} (hs : a.eval s = .slice (some ⟨g, 0, none⟩) n cap) (hn : l.length = n) (S : ByteArray) (hx : a.eval x = .string S)
    (h : Bf base w g cap l) (hz : l.length + S.size ≤ 1099511627776)
    (hK : ∀ g' cap' w' n', Hid (n' = (l ++ S.data.toList).length) → Ap base w g w' g' cap' (l ++ S.data.toList) → wpList P ops Q rest (a.put o.dst (.slice (some ⟨g', 0, none⟩) n' cap')) w') : wpList P ops Q (o :: rest) a w := by
  subst hn
  obtain ⟨g', cap', w', hr, hap⟩ := run_text h (by have := h.lt; have := h.new; omega) t u e ht hu hinfo S hz
  exact app_any w hgd s x t u ho _ _ hs hx _ _ hr (hK g' cap' w' _ rfl hap)

/-- What a conversion makes. -/
theorem conv_bf {P : Program} (w : World) (src dst e : TypeId) (S : ByteArray) (hS : S.size ≤ 1099511627776) (hs : P.underlying src = some .string) (hd : P.underlying dst = some (.slice e)) (he : P.underlying e = some (.int .u8)) :
    ∃ cap W1, (convert src dst (.string S)).run P w = .ok (.slice (some ⟨w.heap.size, 0, none⟩) S.size cap) W1 ∧ Bf w.heap.size W1 w.heap.size cap S.data.toList ∧ Below w.heap.size w W1 ∧ W1.heap.size = w.heap.size + 1 := by
  have hb := Lib.bytesWorld_at_new w e S
  have hge := grownCap_ge w S.size 0 e
  have hz : (Lib.bytesCells w e S).size = grownCap w S.size 0 e := by simp [Lib.bytesCells]; omega
  have hsz : S.data.toList.length = S.size := by simp
  refine ⟨_, _, Lib.run_convert_string_bytes w src dst e S hs hd he, ⟨Nat.le_refl _, by rw [Lib.bytesWorld_size]; omega, fun j hj => ?_, fun j hj => ⟨?_, ?_⟩, by rw [hsz]; exact hge, grownCap_le_maxLen w S.size 0 e (by unfold maxLen; omega)⟩, ⟨rfl, rfl, rfl, by rw [Lib.bytesWorld_size]; omega, fun k hk => Lib.bytesWorld_at_old w e S k hk⟩, Lib.bytesWorld_size _ _ _⟩
  · rw [Lib.bytesWorld_cell w e S j (by omega), List.getD_eq_getElem?_getD, List.getElem?_eq_getElem hj]; rfl
  · simp only [World.cell?, hb]
    rw [Array.getElem?_eq_getElem (by omega)]
    rfl
  · simp only [World.frozen?, hb]
    simp
    omega

end Go.Proofs.YtaoimkjcaienbaaGreatDoor.bf

namespace Go.Proofs.YtaoimkjcaienbaaGreatDoor.bf
open Go.ChangeShapes Go.WideShapes Go.ChangeAt Go.RowKit Go.Deep
set_option linter.unusedVariables false
set_option linter.unusedSimpArgs false

/-! ### Numbers in groups of seven bits, and texts behind their sizes: both sides -/

theorem info5 : (Tryz.prog.info? 5).map (fun i => (i.zero, i.size, i.bytes)) = some (some (.int .u8 0), 1, 1) := by kernel_rfl

def num (n : Nat) : List UInt8 := if n < 128 then [UInt8.ofNat n] else UInt8.ofNat (n % 128 + 128) :: num (n / 128)
termination_by n
decreasing_by omega

theorem num_low {n : Nat} (h : n < 128) : num n = [UInt8.ofNat n] := by rw [num, if_pos h]
theorem num_high {n : Nat} (h : ¬ n < 128) : num n = UInt8.ofNat (n % 128 + 128) :: num (n / 128) := by rw [num, if_neg h]

theorem num_len : ∀ (k n : Nat), n < 128 * 2 ^ k → (num n).length ≤ k + 1
  | 0, n, h => by rw [num_low (by omega)]; simp
  | k + 1, n, h => by
    by_cases hn : n < 128
    · rw [num_low hn]; simp
    · rw [num_high hn]
      have := num_len k (n / 128) (by rw [Nat.pow_succ] at h; omega)
      simp; omega

theorem one_at (w : World) (x : UInt8) (V : Int) (e : TypeId) (hV : V = (x.toNat : Int)) : ∀ j u, (byteVals [x])[j]? = some u → (w.alloc (.cells #[.int .u8 V] e)).cell? ((⟨w.heap.size, 0, none⟩ : Addr).add j) = some u := by
  subst hV
  exact one_new w _ e

theorem one_at' (w : World) (k : Nat) (hk : k = w.heap.size) (x : UInt8) (V : Int) (e : TypeId) (hV : V = (x.toNat : Int)) : ∀ j u, (byteVals [x])[j]? = some u → (w.alloc (.cells #[.int .u8 V] e)).cell? ((⟨k, 0, none⟩ : Addr).add j) = some u := by
  subst hk
  exact one_at w x V e hV

theorem byte_val {n : Nat} (h : n < 256) : ((n : Nat) : Int) = ((UInt8.ofNat n).toNat : Int) := by
  simp [UInt8.toNat_ofNat]; omega

set_option maxRecDepth 100000 in
theorem num_any (base g cap z0 : Nat) (l : List UInt8) (n : Nat) (hn : n ≤ 1048576) (w : World) (h : Bf base w g cap l) (hl : l.length ≤ 1099511627000) (hz0 : z0 = l.length) :
    Calls Tryz.prog 74 #[.slice (some ⟨g, 0, none⟩) z0 cap, .int .i64 (n : Int)] w fun e w' => ∃ g' cap' z', e = .returned (.slice (some ⟨g', 0, none⟩) z' cap') ∧ Hid (z' = (l ++ num n).length) ∧ Ap base w g w' g' cap' (l ++ num n) := by
  have HZ0 : Hid (z0 = l.length) := hz0
  clear hz0
  go_enter Tryz.func74, Tryz.ntmps74
  go_wp2
  go_loopw [0, 1] (fun b x wr => ∃ (g' cap' m z : Nat) (pre : List UInt8), z = (l ++ pre).length ∧ b = .slice (some ⟨g', 0, none⟩) z cap' ∧ x = .int .i64 (m : Int) ∧ m ≤ n ∧ num n = pre ++ num m ∧ Ap base w g wr g' cap' (l ++ pre)) (fun _ x _ => (intOf x).toNat)
  case atStart => exact ⟨g, cap, n, z0, [], by rw [List.append_nil]; exact HZ0.out, rfl, rfl, Nat.le_refl _, rfl, by rw [List.append_nil]; exact Ap.refl h⟩
  case round =>
    obtain ⟨g', cap', m, z, pre, hz, rfl, rfl, hm, he, hap⟩ := hrel
    obtain ⟨L, hL⟩ : ∃ L, L = l ++ pre := ⟨_, rfl⟩
    rw [← hL] at hz hap
    have HLL : Hid (L = l ++ pre) := hL
    have HZ : Hid (z = L.length) := hz
    have HE : Hid (num n = pre ++ num m) := he
    have HL : Hid (L.length + 1 ≤ 1099511627776) := by
      have h1 := num_len 14 n (by rw [show 128 * 2 ^ 14 = 2097152 from rfl]; omega)
      rw [he, List.length_append] at h1
      show _ ≤ _
      rw [hL, List.length_append]
      omega
    have HAP : Hid (Ap base w g wr g' cap' L) := hap
    clear hz he hap hL
    by_cases hlt : m < 128
    · have hlt' : ¬ (128 : Int) ≤ (m : Int) := by omega
      obtain ⟨x, hx⟩ : ∃ x, x = UInt8.ofNat m := ⟨_, rfl⟩
      have HX : Hid (num n = pre ++ [x]) := by show _ = _; rw [HE.out, num_low hlt, hx]
      have HV : Hid ((m : Int) = (x.toNat : Int)) := by show _ = _; rw [hx]; exact byte_val (n := m) (by omega)
      clear hx
      go_wp2_with (first
        | (at_builtin; refine app_bytes _ rfl _ _ 22 rfl 5 Tryz.underlying22 info5 rfl HZ.out.symm ⟨wr.heap.size, 0, none⟩ 1 (m := [x]) rfl rfl (HAP.out.bf.below ((Below.refl _ _).alloc (Nat.le_refl _) _)) (one_at wr _ _ _ HV.out) HL.out ?_)
        | go_in)
      intro g2 c2 w2 n2 hn2 hap2
      have HA : Hid (Ap base w g w2 g2 c2 (l ++ num n)) := by
        have := HAP.out.trans (hap2.after ((Below.refl _ _).alloc (Nat.le_refl _) _))
        rwa [HLL.out, List.append_assoc, ← HX.out] at this
      have HN : Hid (n2 = (l ++ num n).length) := by have := hn2.out; have h2 := HLL.out; show n2 = _; rw [HX.out, ← List.append_assoc, ← h2]; simpa using this
      clear hap2 hn2
      go_wp2
      go_ret
      exact ⟨g2, c2, n2, rfl, HN, HA.out⟩
    · have hlt' : (128 : Int) ≤ (m : Int) := by omega
      obtain ⟨x, hx⟩ : ∃ x, x = UInt8.ofNat (m % 128 + 128) := ⟨_, rfl⟩
      have HV : Hid ((m : Int) % 128 + 128 = (x.toNat : Int)) := by show _ = _; rw [hx, ← byte_val (n := m % 128 + 128) (by omega)]; omega
      have HF : Hid (num n = (pre ++ [x]) ++ num (m / 128)) := by show _ = _; rw [HE.out, num_high hlt, hx]; simp
      clear hx
      go_wp2_with (first
        | (at_builtin; refine app_bytes _ rfl _ _ 22 rfl 5 Tryz.underlying22 info5 rfl HZ.out.symm ⟨wr.heap.size, 0, none⟩ 1 (m := [x]) rfl rfl (HAP.out.bf.below ((Below.refl _ _).alloc (Nat.le_refl _) _)) (one_at wr _ _ _ HV.out) HL.out ?_)
        | go_in)
      intro g2 c2 w2 n2 hn2 hap2
      have HA : Hid (Ap base w g w2 g2 c2 (l ++ (pre ++ [x]))) := by
        have := HAP.out.trans (hap2.after ((Below.refl _ _).alloc (Nat.le_refl _) _))
        rwa [HLL.out, List.append_assoc] at this
      have HN : Hid (n2 = (l ++ (pre ++ [x])).length) := by have := hn2.out; have h2 := HLL.out; show n2 = _; rw [← List.append_assoc, ← h2]; simpa using this
      clear hap2 hn2
      go_wp2
      go_roundw
      case rel => exact ⟨g2, c2, m / 128, n2, _, HN.out, rfl, by go_num, by omega, HF.out, HA.out⟩
      case measure => simp [intOf]; omega

set_option maxRecDepth 100000 in
theorem numb_any (base g cap z0 : Nat) (l : List UInt8) (n : Nat) (hn : n ≤ 1048576) (w : World) (h : Bf base w g cap l) (hl : l.length ≤ 1099511627000) (hz0 : z0 = l.length) :
    Calls Tryz.prog 33 #[.slice (some ⟨g, 0, none⟩) z0 cap, .int .i64 (n : Int)] w fun e w' => ∃ g' cap' z', e = .returned (.slice (some ⟨g', 0, none⟩) z' cap') ∧ Hid (z' = (l ++ num n).length) ∧ Ap base w g w' g' cap' (l ++ num n) := by
  have HZ0 : Hid (z0 = l.length) := hz0
  clear hz0
  go_enter Tryz.func33, Tryz.ntmps33
  go_wp2
  go_loopw [0, 5] (fun b x wr => ∃ (g' cap' m z : Nat) (pre : List UInt8), z = (l ++ pre).length ∧ b = .slice (some ⟨g', 0, none⟩) z cap' ∧ x = .int .u64 (m : Int) ∧ m ≤ n ∧ num n = pre ++ num m ∧ Ap base w g wr g' cap' (l ++ pre)) (fun _ x _ => (intOf x).toNat)
  case atStart => exact ⟨g, cap, n, z0, [], by rw [List.append_nil]; exact HZ0.out, rfl, by go_num, Nat.le_refl _, rfl, by rw [List.append_nil]; exact Ap.refl h⟩
  case round =>
    obtain ⟨g', cap', m, z, pre, hz, rfl, rfl, hm, he, hap⟩ := hrel
    obtain ⟨L, hL⟩ : ∃ L, L = l ++ pre := ⟨_, rfl⟩
    rw [← hL] at hz hap
    have HLL : Hid (L = l ++ pre) := hL
    have HZ : Hid (z = L.length) := hz
    have HE : Hid (num n = pre ++ num m) := he
    have HL : Hid (L.length + 1 ≤ 1099511627776) := by
      have h1 := num_len 14 n (by rw [show 128 * 2 ^ 14 = 2097152 from rfl]; omega)
      rw [he, List.length_append] at h1
      show _ ≤ _
      rw [hL, List.length_append]
      omega
    have HAP : Hid (Ap base w g wr g' cap' L) := hap
    clear hz he hap hL
    by_cases hlt : m < 128
    · have hlt' : ¬ (128 : Int) ≤ (m : Int) := by omega
      obtain ⟨x, hx⟩ : ∃ x, x = UInt8.ofNat m := ⟨_, rfl⟩
      have HX : Hid (num n = pre ++ [x]) := by show _ = _; rw [HE.out, num_low hlt, hx]
      have HV : Hid ((m : Int) = (x.toNat : Int)) := by show _ = _; rw [hx]; exact byte_val (n := m) (by omega)
      clear hx
      go_wp2_with (first
        | (at_builtin; refine app_bytes _ rfl _ _ 22 rfl 5 Tryz.underlying22 info5 rfl HZ.out.symm ⟨wr.heap.size, 0, none⟩ 1 (m := [x]) rfl rfl (HAP.out.bf.below ((Below.refl _ _).alloc (Nat.le_refl _) _)) (one_at wr _ _ _ HV.out) HL.out ?_)
        | go_in)
      intro g2 c2 w2 n2 hn2 hap2
      have HA : Hid (Ap base w g w2 g2 c2 (l ++ num n)) := by
        have := HAP.out.trans (hap2.after ((Below.refl _ _).alloc (Nat.le_refl _) _))
        rwa [HLL.out, List.append_assoc, ← HX.out] at this
      have HN : Hid (n2 = (l ++ num n).length) := by have := hn2.out; have h2 := HLL.out; show n2 = _; rw [HX.out, ← List.append_assoc, ← h2]; simpa using this
      clear hap2 hn2
      go_wp2
      go_ret
      exact ⟨g2, c2, n2, rfl, HN, HA.out⟩
    · have hlt' : (128 : Int) ≤ (m : Int) := by omega
      obtain ⟨x, hx⟩ : ∃ x, x = UInt8.ofNat (m % 128 + 128) := ⟨_, rfl⟩
      have HV : Hid ((m : Int) % 128 + 128 = (x.toNat : Int)) := by show _ = _; rw [hx, ← byte_val (n := m % 128 + 128) (by omega)]; omega
      have HF : Hid (num n = (pre ++ [x]) ++ num (m / 128)) := by show _ = _; rw [HE.out, num_high hlt, hx]; simp
      clear hx
      go_wp2_with (first
        | (at_builtin; refine app_bytes _ rfl _ _ 22 rfl 5 Tryz.underlying22 info5 rfl HZ.out.symm ⟨wr.heap.size, 0, none⟩ 1 (m := [x]) rfl rfl (HAP.out.bf.below ((Below.refl _ _).alloc (Nat.le_refl _) _)) (one_at wr _ _ _ HV.out) HL.out ?_)
        | go_in)
      intro g2 c2 w2 n2 hn2 hap2
      have HA : Hid (Ap base w g w2 g2 c2 (l ++ (pre ++ [x]))) := by
        have := HAP.out.trans (hap2.after ((Below.refl _ _).alloc (Nat.le_refl _) _))
        rwa [HLL.out, List.append_assoc] at this
      have HN : Hid (n2 = (l ++ (pre ++ [x])).length) := by have := hn2.out; have h2 := HLL.out; show n2 = _; rw [← List.append_assoc, ← h2]; simpa using this
      clear hap2 hn2
      go_wp2
      go_roundw
      case rel => exact ⟨g2, c2, m / 128, n2, _, HN.out, rfl, by go_num, by omega, HF.out, HA.out⟩
      case measure => simp [intOf]; omega

set_option maxRecDepth 100000 in
theorem text_any (base g cap z0 : Nat) (l : List UInt8) (S : ByteArray) (hS : S.size ≤ 1048576) (w : World) (h : Bf base w g cap l) (hl : l.length ≤ 1099510000000) (hz0 : z0 = l.length) :
    Calls Tryz.prog 75 #[.slice (some ⟨g, 0, none⟩) z0 cap, .string S] w fun e w' => ∃ g' cap' z', e = .returned (.slice (some ⟨g', 0, none⟩) z' cap') ∧ Hid (z' = (l ++ num S.size ++ S.data.toList).length) ∧ Ap base w g w' g' cap' (l ++ num S.size ++ S.data.toList) := by
  have HNA : Hid (Calls Tryz.prog 74 #[.slice (some ⟨g, 0, none⟩) z0 cap, .int .i64 (S.size : Int)] w fun e w' => ∃ g' cap' z', e = .returned (.slice (some ⟨g', 0, none⟩) z' cap') ∧ Hid (z' = (l ++ num S.size).length) ∧ Ap base w g w' g' cap' (l ++ num S.size)) := num_any base g cap z0 l S.size hS w h (by omega) hz0
  have HL : Hid ((l ++ num S.size).length + S.data.toList.length ≤ 1099511627776) := by
    show _ ≤ _
    have h1 := num_len 14 S.size (by rw [show 128 * 2 ^ 14 = 2097152 from rfl]; omega)
    have h2 : S.data.toList.length = S.size := by simp
    rw [List.length_append, h2]
    omega
  clear hz0 hl
  obtain ⟨L, hL⟩ : ∃ L, L = l ++ num S.size := ⟨_, rfl⟩
  obtain ⟨M, hM⟩ : ∃ M, M = S.data.toList := ⟨_, rfl⟩
  rw [← hL] at HNA HL ⊢
  rw [← hM] at HL ⊢
  have HML : Hid (M.length = S.size) := by show _ = _; rw [hM]; simp
  have HMS : Hid (M = S.data.toList) := hM
  clear hL hM
  go_enter Tryz.func75, Tryz.ntmps75
  go_wp2_with (go_at_call 74; refine HNA.out.mono ?_; rintro e w1 ⟨g1, c1, z1, rfl, hz1, ha1⟩; refine Hid.out ?_)
  refine Lib.hid ?_
  obtain ⟨cc, W1, hcv, hbf, hbw, hsz⟩ := conv_bf (P := Tryz.prog) w1 9 22 5 S (by omega) Tryz.underlying9 Tryz.underlying22 Tryz.underlying5
  rw [← HMS.out] at hbf
  have HC : Hid (∀ j u, (byteVals M)[j]? = some u → W1.cell? ((⟨w1.heap.size, 0, none⟩ : Addr).add j) = some u) := by
    intro j u hj
    obtain ⟨hj', rfl⟩ := byteVals_get hj
    rw [addr_add, Nat.zero_add]
    exact hbf.cells j hj'
  have HB1 : Hid (Bf base W1 g1 c1 L) := ha1.bf.below hbw
  have HW : Hid (Below w1.heap.size w1 W1) := hbw
  clear hbf hbw hsz
  go_wp2_with (first
    | (at_builtin; refine app_bytes _ rfl _ _ 22 rfl 5 Tryz.underlying22 info5 rfl hz1.out.symm ⟨w1.heap.size, 0, none⟩ cc (m := M) rfl HML.out HB1.out HC.out HL.out ?_)
    | go_in)
  intro g2 c2 w2 n2 hn2 hap2
  have HA : Hid (Ap base w g w2 g2 c2 (L ++ M)) := ha1.trans (hap2.after HW.out)
  clear hap2 ha1
  go_wp2
  go_ret
  exact ⟨g2, c2, n2, rfl, by have := hn2.out; show n2 = _; simpa using this, HA.out⟩

set_option maxRecDepth 100000 in
theorem piece_any (base g cap z0 : Nat) (l : List UInt8) (S : ByteArray) (hS : S.size ≤ 1048576) (w : World) (h : Bf base w g cap l) (hl : l.length ≤ 1099510000000) (hz0 : z0 = l.length) :
    Calls Tryz.prog 34 #[.slice (some ⟨g, 0, none⟩) z0 cap, .string S] w fun e w' => ∃ g' cap' z', e = .returned (.slice (some ⟨g', 0, none⟩) z' cap') ∧ Hid (z' = (l ++ num S.size ++ S.data.toList).length) ∧ Ap base w g w' g' cap' (l ++ num S.size ++ S.data.toList) := by
  have HNA : Hid (Calls Tryz.prog 33 #[.slice (some ⟨g, 0, none⟩) z0 cap, .int .i64 (S.size : Int)] w fun e w' => ∃ g' cap' z', e = .returned (.slice (some ⟨g', 0, none⟩) z' cap') ∧ Hid (z' = (l ++ num S.size).length) ∧ Ap base w g w' g' cap' (l ++ num S.size)) := numb_any base g cap z0 l S.size hS w h (by omega) hz0
  have HL : Hid ((l ++ num S.size).length + S.size ≤ 1099511627776) := by
    show _ ≤ _
    have h1 := num_len 14 S.size (by rw [show 128 * 2 ^ 14 = 2097152 from rfl]; omega)
    rw [List.length_append]
    omega
  clear hz0 hl
  obtain ⟨L, hL⟩ : ∃ L, L = l ++ num S.size := ⟨_, rfl⟩
  rw [← hL] at HNA HL ⊢
  clear hL
  go_enter Tryz.func34, Tryz.ntmps34
  go_wp2_with (first
    | (go_at_call 33; refine HNA.out.mono ?_; rintro e w1 ⟨g1, c1, z1, rfl, hz1, ha1⟩)
    | (at_builtin; refine app_text _ rfl _ _ 22 9 rfl 5 Tryz.underlying22 Tryz.underlying9 info5 rfl hz1.out.symm S rfl ha1.bf HL.out ?_)
    | go_in)
  intro g2 c2 w2 n2 hn2 hap2
  have HA : Hid (Ap base w g w2 g2 c2 (L ++ S.data.toList)) := ha1.trans hap2
  clear hap2 ha1
  go_wp2
  go_ret
  exact ⟨g2, c2, n2, rfl, by have := hn2.out; show n2 = _; simpa using this, HA.out⟩

end Go.Proofs.YtaoimkjcaienbaaGreatDoor.bf

namespace Go.Proofs.YtaoimkjcaienbaaGreatDoor.tt
open Go.ChangeShapes Go.WideShapes Go.ChangeAt Go.RowKit Go.Deep Go.Shelf
set_option linter.unusedVariables false
set_option linter.unusedSimpArgs false

/-! ### A text in which a piece is replaced: both sides -/

/-- Every instance, from left to right. -/
def rp (old new s : List UInt8) : List UInt8 := Lib.replaceK old new (Lib.count s old) s

theorem rp_miss {old new s : List UInt8} (h : Lib.index s old = -1) : rp old new s = s := by unfold rp; rw [Lib.count_miss h]; rfl
theorem rp_hit {old new s : List UInt8} {i : Nat} (ho : old ≠ []) (h : Lib.index s old = i) : rp old new s = s.take i ++ new ++ rp old new (s.drop (i + old.length)) := by
  unfold rp
  rw [Lib.count_hit ho h, Nat.add_comm 1, Lib.replaceK_hit old new _ s i h]
theorem rp_nil {old new : List UInt8} (ho : old ≠ []) : rp old new [] = [] := rp_miss (by
  unfold Lib.index
  cases old with
  | nil => exact absurd rfl ho
  | cons b l => rfl)
theorem rp_yes {old new s : List UInt8} (ho : old ≠ []) (hp : old.isPrefixOf s = true) : rp old new s = new ++ rp old new (s.drop old.length) := by
  have hi : Lib.index s old = ((0 : Nat) : Int) := Lib.index_first (Nat.zero_le _) (by simpa [Lib.occAt] using hp) (fun j hj => by omega)
  rw [rp_hit ho hi, List.take_zero, List.nil_append, Nat.zero_add]
theorem rp_no {old new : List UInt8} {b : UInt8} {l : List UInt8} (ho : old ≠ []) (hp : old.isPrefixOf (b :: l) = false) : rp old new (b :: l) = b :: rp old new l := by
  have hi : Lib.index (b :: l) old = if Lib.index l old == -1 then -1 else Lib.index l old + 1 := by
    rw [Lib.index, if_neg (by rw [hp]; simp)]
  by_cases hm : Lib.index l old = -1
  · rw [hm] at hi
    rw [rp_miss (by rw [hi]; rfl), rp_miss hm]
  · have hge := Lib.index_ge l old
    obtain ⟨k, hk⟩ : ∃ k : Nat, Lib.index l old = k := ⟨(Lib.index l old).toNat, by omega⟩
    rw [hk, if_neg (by rw [beq_iff_eq]; omega)] at hi
    rw [rp_hit (i := k + 1) ho (by rw [hi]; omega), rp_hit ho hk, List.take_succ_cons, show k + 1 + old.length = (k + old.length) + 1 by omega, List.drop_succ_cons]
    simp
theorem rp_same {old : List UInt8} (ho : old ≠ []) : ∀ (n : Nat) (s : List UInt8), s.length ≤ n → rp old old s = s
  | 0, s, h => by
    obtain rfl : s = [] := List.length_eq_zero_iff.1 (by omega)
    exact rp_nil ho
  | n + 1, [], _ => rp_nil ho
  | n + 1, b :: l, h => by
    have hl : 0 < old.length := List.length_pos_iff.2 ho
    cases hp : old.isPrefixOf (b :: l) with
    | true =>
      rw [rp_yes ho hp, rp_same ho n _ (by rw [List.length_drop]; omega)]
      obtain ⟨r, hr⟩ := List.isPrefixOf_iff_prefix.1 hp
      rw [← hr, List.drop_left]
    | false =>
      rw [rp_no ho hp, rp_same ho n l (by simpa using h)]
theorem rp_all {old new : List UInt8} (ho : old ≠ []) (s : List UInt8) : Lib.replaceAll s old new = rp old new s := by
  unfold Lib.replaceAll Lib.replace
  by_cases h : old = new
  · subst h
    rw [if_pos (by simp), rp_same ho s.length s (Nat.le_refl _)]
  · rw [if_neg (by simpa using h)]
    unfold rp Lib.replaceNum
    rw [if_pos (Or.inl (by omega))]

end Go.Proofs.YtaoimkjcaienbaaGreatDoor.tt
namespace Go.Proofs
open Go.Shelf
def YtaoimkjcaienbaaGreatDoor.tt.laysRP_ren : Go.Shelf.Ren := ⟨fun | 155 => 65 | 154 => 98 | 138 => 107 | 165 => 125 | 143 => 126 | 166 => 127 | 197 => 128 | 169 => 129 | 195 => 141 | 218 => 142 | 240 => 161 | 241 => 162 | 219 => 163 | 260 => 164 | 276 => 178 | 277 => 179 | 217 => 180 | 225 => 181 | 224 => 182 | 267 => 183 | 266 => 185 | 314 => 186 | n => n, fun | 9 => 9 | 3 => 3 | 4 => 4 | 72 => 152 | 0 => 0 | 76 => 156 | 105 => 158 | 21 => 21 | 5 => 5 | 70 => 150 | 20 => 20 | 37 => 22 | 75 => 155 | 127 => 170 | 164 => 193 | 46 => 104 | 119 => 197 | 139 => 200 | 138 => 199 | 146 => 185 | 51 => 180 | 80 => 103 | n => n, fun | 1 => 1 | 3 => 2 | 4 => 3 | n => n⟩
theorem YtaoimkjcaienbaaGreatDoor.tt.laysRP : Go.Proofs.Lays.n155 Tryz.prog YtaoimkjcaienbaaGreatDoor.tt.laysRP_ren := {
  mixed := by kernel_rfl
  f138 := Tryz.func107.trans (congrArg some (by kernel_rfl))
  f143 := Tryz.func126.trans (congrArg some (by kernel_rfl))
  f154 := Tryz.func98.trans (congrArg some (by kernel_rfl))
  f155 := Tryz.func65.trans (congrArg some (by kernel_rfl))
  f165 := Tryz.func125.trans (congrArg some (by kernel_rfl))
  f166 := Tryz.func127.trans (congrArg some (by kernel_rfl))
  f169 := Tryz.func129.trans (congrArg some (by kernel_rfl))
  f195 := Tryz.func141.trans (congrArg some (by kernel_rfl))
  f197 := Tryz.func128.trans (congrArg some (by kernel_rfl))
  f217 := Tryz.func180.trans (congrArg some (by kernel_rfl))
  f218 := Tryz.func142.trans (congrArg some (by kernel_rfl))
  f219 := Tryz.func163.trans (congrArg some (by kernel_rfl))
  f224 := Tryz.func182.trans (congrArg some (by kernel_rfl))
  f225 := Tryz.func181.trans (congrArg some (by kernel_rfl))
  f240 := Tryz.func161.trans (congrArg some (by kernel_rfl))
  f241 := Tryz.func162.trans (congrArg some (by kernel_rfl))
  f260 := Tryz.func164.trans (congrArg some (by kernel_rfl))
  f266 := Tryz.func185.trans (congrArg some (by kernel_rfl))
  f267 := Tryz.func183.trans (congrArg some (by kernel_rfl))
  f276 := Tryz.func178.trans (congrArg some (by kernel_rfl))
  f277 := Tryz.func179.trans (congrArg some (by kernel_rfl))
  f314 := Tryz.func186.trans (congrArg some (by kernel_rfl))
  t0 := Tryz.underlying0
  a0 := Tryz.isAgg0
  z0 := Tryz.sizeOf0
  v0 := Tryz.zeroValue0
  t3 := Tryz.underlying3
  a3 := Tryz.isAgg3
  z3 := Tryz.sizeOf3
  v3 := Tryz.zeroValue3
  t4 := Tryz.underlying4
  a4 := Tryz.isAgg4
  z4 := Tryz.sizeOf4
  v4 := Tryz.zeroValue4
  t5 := Tryz.underlying5
  a5 := Tryz.isAgg5
  z5 := Tryz.sizeOf5
  v5 := Tryz.zeroValue5
  t9 := Tryz.underlying9
  a9 := Tryz.isAgg9
  z9 := Tryz.sizeOf9
  v9 := Tryz.zeroValue9
  t20 := Tryz.underlying20
  a20 := Tryz.isAgg20
  z20 := Tryz.sizeOf20
  v20 := Tryz.zeroValue20
  t21 := Tryz.underlying21
  a21 := Tryz.isAgg21
  z21 := Tryz.sizeOf21
  v21 := Tryz.zeroValue21
  t37 := Tryz.underlying22
  a37 := Tryz.isAgg22
  z37 := Tryz.sizeOf22
  v37 := Tryz.zeroValue22
  t46 := Tryz.underlying104
  a46 := Tryz.isAgg104
  z46 := Tryz.sizeOf104
  v46 := Tryz.zeroValue104
  t51 := Tryz.underlying180
  a51 := Tryz.isAgg180
  z51 := Tryz.sizeOf180
  v51 := Tryz.zeroValue180
  t70 := Tryz.underlying150
  a70 := Tryz.isAgg150
  z70 := Tryz.sizeOf150
  v70 := Tryz.zeroValue150
  t72 := Tryz.underlying152
  a72 := Tryz.isAgg152
  z72 := Tryz.sizeOf152
  v72 := Tryz.zeroValue152
  t75 := Tryz.underlying155
  a75 := Tryz.isAgg155
  z75 := Tryz.sizeOf155
  v75 := Tryz.zeroValue155
  t76 := Tryz.underlying156
  a76 := Tryz.isAgg156
  z76 := Tryz.sizeOf156
  v76 := Tryz.zeroValue156
  t105 := Tryz.underlying158
  a105 := Tryz.isAgg158
  z105 := Tryz.sizeOf158
  v105 := Tryz.zeroValue158
  t119 := Tryz.underlying197
  a119 := Tryz.isAgg197
  z119 := Tryz.sizeOf197
  t127 := Tryz.underlying170
  a127 := Tryz.isAgg170
  z127 := Tryz.sizeOf170
  v127 := Tryz.zeroValue170
  t138 := Tryz.underlying199
  a138 := Tryz.isAgg199
  z138 := Tryz.sizeOf199
  v138 := Tryz.zeroValue199
  t139 := Tryz.underlying200
  a139 := Tryz.isAgg200
  z139 := Tryz.sizeOf200
  v139 := Tryz.zeroValue200
  t146 := Tryz.underlying185
  a146 := Tryz.isAgg185
  z146 := Tryz.sizeOf185
  v146 := Tryz.zeroValue185
  t164 := Tryz.underlying193
  a164 := Tryz.isAgg193
  z164 := Tryz.sizeOf193
  v164 := Tryz.zeroValue193
  g1 := by kernel_rfl
  g3 := by kernel_rfl
  g4 := by kernel_rfl }
end Go.Proofs
namespace Go.Proofs.YtaoimkjcaienbaaGreatDoor.tt
open Go.ChangeShapes Go.WideShapes Go.ChangeAt Go.RowKit Go.Deep Go.Shelf
set_option linter.unusedVariables false
set_option linter.unusedSimpArgs false
theorem rp_ren : laysRP_ren.f 155 = 65 := by kernel_rfl
theorem rp_g : laysRP_ren.g 1 = laysSP_ren.g 1 := by kernel_rfl

theorem extraRP : Builder.Extra Tryz.prog laysRP_ren where
  sizeBuilder := by kernel_rfl
  liesBuilder := by kernel_rfl
  t5 := Tryz.underlying5
  a5 := Tryz.isAgg5
  z5 := Tryz.sizeOf5
  v5 := Tryz.zeroValue5
  infoByte := by kernel_rfl
  cellsByte := by kernel_rfl
  sizeByte := by kernel_rfl
  neB5 := by decide

theorem ne_of_size {f : ByteArray} (h : 1 ≤ f.size) : f.data.toList ≠ [] := fun e => by
  have h2 : f.data.toList.length = f.size := by simp
  rw [e, List.length_nil] at h2
  omega

theorem replaceAll_any (s f t : ByteArray) (hs : s.size ≤ 1048576) (hf : 1 ≤ f.size) (ht : t.size ≤ 1048576) (w : World) (hm : ML w) :
    Calls Tryz.prog 65 #[.string s, .string f, .string t] w fun e w' => e = .returned (.string ⟨(rp f.data.toList t.data.toList s.data.toList).toArray⟩) ∧ Below w.heap.size w w' := by
  obtain ⟨m, hm⟩ := hm
  have hc : Lib.countB s f ≤ s.size + 1 := by
    have := Lib.count_le s.data.toList f.data.toList
    have h2 : s.data.toList.length = s.size := by simp
    unfold Lib.countB
    omega
  have hmul : Lib.countB s f * t.size ≤ 1048577 * 1048576 := Nat.mul_le_mul (by omega) ht
  have := Any.strings_ReplaceAll laysRP extraRP s f t m w (by omega) (by rw [rp_g]; exact hm) hf (by omega)
  rw [rp_all (ne_of_size hf), rp_ren] at this
  exact this

/-- Bytes that are read as a text. -/
theorem conv_text {base : Nat} {w : World} {g cap z : Nat} {l : List UInt8} (h : bf.Bf base w g cap l) (hz : z = l.length) (hl : l.length ≤ 1099511627776) : (convert 22 9 (.slice (some ⟨g, 0, none⟩) z cap)).run Tryz.prog w = .ok (.string ⟨l.toArray⟩) w := by
  subst hz
  have hB : Lib.Bytes w g 0 ⟨l.toArray⟩ := fun i hi => by
    have hi' : i < l.length := by simpa [ByteArray.size] using hi
    rw [Nat.zero_add, h.cells i hi']
    rfl
  have := Lib.run_convert_whole (P := Tryz.prog) w 22 5 9 Tryz.underlying22 Tryz.underlying5 Tryz.underlying9 g 0 ⟨l.toArray⟩ hB cap
  simpa [ByteArray.size] using this

theorem none_bf0 (w : World) (e : TypeId) : bf.Bf w.heap.size (w.alloc (.cells #[] e)) w.heap.size 0 [] :=
  ⟨Nat.le_refl _, by simp, fun j hj => by simp at hj, fun j hj => by omega, by simp, by unfold maxLen; omega⟩

theorem ext_eq {s f : ByteArray} {i : Nat} (h : i + f.size ≤ s.size) : (s.extract i (i + f.size)).data.toList = (s.data.toList.drop i).take f.size := by
  rw [ByteArray.data_extract, Array.toList_extract, List.extract_eq_take_drop]
  congr 1
  omega

theorem pre_iff {s f : ByteArray} {i : Nat} (h : i + f.size ≤ s.size) : ((s.extract i (i + f.size)).toList == f.toList) = f.data.toList.isPrefixOf (s.data.toList.drop i) := by
  rw [ByteArray.toList_eq, ByteArray.toList_eq, ext_eq h, Bool.eq_iff_iff, beq_iff_eq, List.isPrefixOf_iff_prefix, List.prefix_iff_eq_take]
  have : f.data.toList.length = f.size := by simp
  rw [this]
  exact ⟨fun h => h.symm, fun h => h.symm⟩
theorem pre_short {s f : ByteArray} {i : Nat} (h : ¬ i + f.size ≤ s.size) (hi : i ≤ s.size) : f.data.toList.isPrefixOf (s.data.toList.drop i) = false := by
  rw [Bool.eq_false_iff]
  intro e
  have := (List.isPrefixOf_iff_prefix.1 e).length_le
  simp at this
  have h2 : f.data.size = f.size := rfl
  have h3 : s.data.size = s.size := rfl
  omega

set_option maxRecDepth 100000 in
set_option maxHeartbeats 2000000 in
theorem swap_any (s f t : ByteArray) (hs : s.size ≤ 1048576) (hf : 1 ≤ f.size) (hf2 : f.size ≤ 1048576) (hft : f.size = t.size) (w : World) :
    Calls Tryz.prog 67 #[.string s, .string f, .string t] w fun e w' => e = .returned (.string ⟨(rp f.data.toList t.data.toList s.data.toList).toArray⟩) ∧ Below w.heap.size w w' := by
  have hne := ne_of_size hf
  have HNE : Hid (f.data.toList ≠ []) := hne
  have HFT : Hid (f.size = t.size) := hft
  obtain ⟨R, hR⟩ : ∃ R, rp f.data.toList t.data.toList s.data.toList = R := ⟨_, rfl⟩
  rw [hR]
  have HR : Hid (rp f.data.toList t.data.toList s.data.toList = R) := hR
  clear hne hft hR
  go_enter Tryz.func67, Tryz.ntmps67
  go_wp2
  go_loopw [7, 8] (fun v x wr => ∃ (i g cap z : Nat) (l : List UInt8), i ≤ s.size ∧ v = .slice (some ⟨g, 0, none⟩) z cap ∧ x = .int .i64 (i : Int) ∧ z = l.length ∧ l.length = i ∧ l ++ rp f.data.toList t.data.toList (s.data.toList.drop i) = R ∧ bf.Bf w.heap.size wr g cap l ∧ Below w.heap.size w wr) (fun _ x _ => s.size - (intOf x).toNat)
  case atStart => exact ⟨0, _, _, 0, [], Nat.zero_le _, rfl, rfl, rfl, rfl, by rw [List.drop_zero, List.nil_append]; exact HR.out, none_bf0 w _, (Below.refl _ _).alloc (Nat.le_refl _) _⟩
  case round =>
    obtain ⟨i, g, cap, z, l, hi, rfl, rfl, hz, hli, hrp, hbf, hbel⟩ := hrel
    have HBE : Hid (Below w.heap.size w wr) := hbel
    have HBF : Hid (bf.Bf w.heap.size wr g cap l) := hbf
    have HZ : Hid (z = l.length) := hz
    have HLI : Hid (l.length = i) := hli
    have HRP : Hid (l ++ rp f.data.toList t.data.toList (s.data.toList.drop i) = R) := hrp
    clear hz hli hrp hbf hbel
    by_cases hlt : i < s.size
    · have hlt' : (i : Int) < (s.size : Int) := by omega
      have hi0 : (0 : Int) ≤ (i : Int) := by omega
      cases hp : f.data.toList.isPrefixOf (s.data.toList.drop i) with
      | true =>
        have hle : i + f.size ≤ s.size := by
          by_cases h : i + f.size ≤ s.size
          · exact h
          · rw [pre_short h (by omega)] at hp; cases hp
        have hle' : (i : Int) + (f.size : Int) ≤ (s.size : Int) := by omega
        have heq := (pre_iff hle).trans hp
        obtain ⟨T, hT⟩ : ∃ T, T = t.data.toList := ⟨_, rfl⟩
        have HTL : Hid (T.length = t.size) := by show _ = _; rw [hT]; simp
        have HN : Hid (l ++ T ++ rp f.data.toList t.data.toList (s.data.toList.drop (i + f.size)) = R) := by
          show _ = _
          rw [← HRP.out, rp_yes HNE.out hp, List.drop_drop, List.append_assoc, hT]
          simp
        have HTT : Hid (T = t.data.toList) := hT
        clear hT hp
        obtain ⟨cc, W1, hcv, hbf1, hbw, hsz⟩ := bf.conv_bf (P := Tryz.prog) wr 9 22 5 t (by have := HFT.out; omega) Tryz.underlying9 Tryz.underlying22 Tryz.underlying5
        rw [← HTT.out] at hbf1
        have HC : Hid (∀ j u, (bf.byteVals T)[j]? = some u → W1.cell? ((⟨wr.heap.size, 0, none⟩ : Addr).add j) = some u) := by
          intro j u hj
          obtain ⟨hj', rfl⟩ := bf.byteVals_get hj
          rw [addr_add, Nat.zero_add]
          exact hbf1.cells j hj'
        have HB1 : Hid (bf.Bf w.heap.size W1 g cap l) := HBF.out.below hbw
        have HW : Hid (Below wr.heap.size wr W1) := hbw
        have HL : Hid (l.length + T.length ≤ 1099511627776) := by show _ ≤ _; rw [HLI.out, HTL.out]; have := HFT.out; omega
        clear hbf1 hbw hsz
        go_wp2_with (first
          | (at_builtin; refine bf.app_bytes _ rfl _ _ 22 rfl 5 Tryz.underlying22 bf.info5 rfl HZ.out.symm ⟨wr.heap.size, 0, none⟩ cc (m := T) rfl HTL.out HB1.out HC.out HL.out ?_; intro g2 c2 w2 n2 hn2 hap2; refine Hid.out ?_)
          | go_in)
        refine Lib.hid ?_
        have HB2 : Hid (Below w.heap.size w w2) := HBE.out.trans ((hap2.after HW.out).bel HBF.out.new HBE.out.size)
        have HF2 : Hid (bf.Bf w.heap.size w2 g2 c2 (l ++ T)) := hap2.bf
        have HZ2 : Hid (n2 = (l ++ T).length) := by have := hn2.out; show n2 = _; simpa using this
        have HLL : Hid ((l ++ T).length = i + f.size) := by show _ = _; rw [List.length_append, HLI.out, HTL.out, HFT.out]
        clear hap2 hn2 hcv heq
        go_wp2
        go_roundw
        case rel => exact ⟨i + f.size, g2, c2, n2, l ++ T, hle, rfl, by go_num, HZ2.out, HLL.out, HN.out, HF2.out, HB2.out⟩
        case measure => simp [intOf]; omega
      | false =>
        obtain ⟨y, hy⟩ : ∃ y, y = s[i] := ⟨_, rfl⟩
        have hdr : s.data.toList.drop i = y :: s.data.toList.drop (i + 1) := by
          rw [List.drop_eq_getElem_cons (by simpa using hlt), hy]
          rfl
        have HN : Hid (l ++ [y] ++ rp f.data.toList t.data.toList (s.data.toList.drop (i + 1)) = R) := by
          show _ = _
          rw [hdr] at hp
          rw [← HRP.out, hdr, rp_no HNE.out hp]
          simp
        have HL : Hid (l.length + 1 ≤ 1099511627776) := by show _ ≤ _; rw [HLI.out]; omega
        have HPF : Hid (f.data.toList.isPrefixOf (s.data.toList.drop i) = false) := hp
        have hyv : (s[i].toNat : Int) = (y.toNat : Int) := by rw [hy]
        have HV : Hid ((s[i].toNat : Int) = (y.toNat : Int)) := hyv
        clear hdr hp hyv hy
        by_cases hle : i + f.size ≤ s.size
        · have hle' : (i : Int) + (f.size : Int) ≤ (s.size : Int) := by omega
          have heq := (pre_iff hle).trans HPF.out
          go_wp2_with (first
            | (at_builtin; refine bf.app_bytes _ rfl _ _ 22 rfl 5 Tryz.underlying22 bf.info5 rfl HZ.out.symm ⟨wr.heap.size, 0, none⟩ 1 (m := [y]) rfl rfl (HBF.out.below ((Below.refl _ _).alloc (Nat.le_refl _) _)) (bf.one_at wr _ _ _ HV.out) HL.out ?_; intro g2 c2 w2 n2 hn2 hap2; refine Hid.out ?_)
            | go_in)
          refine Lib.hid ?_
          have HB2 : Hid (Below w.heap.size w w2) := HBE.out.trans ((hap2.after ((Below.refl _ _).alloc (Nat.le_refl _) _)).bel HBF.out.new HBE.out.size)
          have HF2 : Hid (bf.Bf w.heap.size w2 g2 c2 (l ++ [y])) := hap2.bf
          have HZ2 : Hid (n2 = (l ++ [y]).length) := by have := hn2.out; show n2 = _; simpa using this
          have HLL : Hid ((l ++ [y]).length = i + 1) := by show _ = _; rw [List.length_append, HLI.out]; rfl
          clear hap2 hn2 heq
          go_wp2
          go_roundw
          case rel => exact ⟨i + 1, g2, c2, n2, l ++ [y], by omega, rfl, by go_num, HZ2.out, HLL.out, HN.out, HF2.out, HB2.out⟩
          case measure => simp [intOf]; omega
        · have hle' : ¬ (i : Int) + (f.size : Int) ≤ (s.size : Int) := by omega
          go_wp2_with (first
            | (at_builtin; refine bf.app_bytes _ rfl _ _ 22 rfl 5 Tryz.underlying22 bf.info5 rfl HZ.out.symm ⟨wr.heap.size, 0, none⟩ 1 (m := [y]) rfl rfl (HBF.out.below ((Below.refl _ _).alloc (Nat.le_refl _) _)) (bf.one_at wr _ _ _ HV.out) HL.out ?_; intro g2 c2 w2 n2 hn2 hap2; refine Hid.out ?_)
            | go_in)
          refine Lib.hid ?_
          have HB2 : Hid (Below w.heap.size w w2) := HBE.out.trans ((hap2.after ((Below.refl _ _).alloc (Nat.le_refl _) _)).bel HBF.out.new HBE.out.size)
          have HF2 : Hid (bf.Bf w.heap.size w2 g2 c2 (l ++ [y])) := hap2.bf
          have HZ2 : Hid (n2 = (l ++ [y]).length) := by have := hn2.out; show n2 = _; simpa using this
          have HLL : Hid ((l ++ [y]).length = i + 1) := by show _ = _; rw [List.length_append, HLI.out]; rfl
          clear hap2 hn2
          go_wp2
          go_roundw
          case rel => exact ⟨i + 1, g2, c2, n2, l ++ [y], by omega, rfl, by go_num, HZ2.out, HLL.out, HN.out, HF2.out, HB2.out⟩
          case measure => simp [intOf]; omega
    · have hlt' : ¬ (i : Int) < (s.size : Int) := by omega
      obtain rfl : i = s.size := by omega
      have hcv := conv_text HBF.out HZ.out (by rw [HLI.out]; omega)
      have HE : Hid ((⟨l.toArray⟩ : ByteArray) = ⟨R.toArray⟩) := by
        show _ = _
        have h1 := HRP.out
        rw [List.drop_eq_nil_of_le (by simp), rp_nil HNE.out, List.append_nil] at h1
        rw [h1]
      go_wp2
      go_ret
      exact ⟨ret_str HE.out, HBE.out⟩

end Go.Proofs.YtaoimkjcaienbaaGreatDoor.tt
