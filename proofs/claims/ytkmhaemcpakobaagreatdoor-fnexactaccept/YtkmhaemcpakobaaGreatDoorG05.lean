import Derived.Test.YtkmhaemcpakobaaGreatDoorG01
import Derived.Lib.ConvBytes
import Derived.ArgAppend
import Derived.Lib.AppendStr
import Derived.Lib.Hide
import Derived.Test.YtkmhaemcpakobaaGreatDoorG04
import Derived.Test.YtkmhaemcpakobaaGreatDoorRows
import Derived.Shelf.Strconv.Itoa4
import Derived.Test.YtkmhaemcpakobaaGreatDoorProg
import Derived.Lib.AppendIntMem
import Derived.Lib.ItoaLen
namespace Go.Proofs.YtkmhaemcpakobaaGreatDoor.bf
open Go.ChangeShapes Go.WideShapes Go.ChangeAt Go.RowKit Go.Deep
set_option linter.unusedVariables false
set_option linter.unusedSimpArgs false

/-! ### A row of bytes that can be appended to, whoever made it (a conversion too) -/

structure Bf (base : Nat) (w : World) (g cap : Nat) (l : List UInt8) : Prop where
  new : base ≤ g
  lt : g < w.heap.size
  cells : ∀ j (h : j < l.length), w.cell? ⟨g, j, none⟩ = some (.int .u8 (l[j].toNat : Int))
  spare : ∀ j, j < cap → (w.cell? ⟨g, j, none⟩).isSome = true ∧ w.frozen? ⟨g, j, none⟩ = false
  le : l.length ≤ cap
  max : cap ≤ maxLen

/-- As it stands where its block is as it was. -/
theorem Bf.kept {base : Nat} {w w' : World} {g cap : Nat} {l : List UInt8} (h : Bf base w g cap l) (hs : w.heap.size ≤ w'.heap.size) (hb : w'.heap[g]? = w.heap[g]?) : Bf base w' g cap l :=
  ⟨h.new, by have := h.lt; omega, fun j hj => (World.cell?_of_block (a := ⟨g, j, none⟩) hb).trans (h.cells j hj), fun j hj => by
    rw [World.cell?_of_block (a := ⟨g, j, none⟩) hb, World.frozen?_of_block (a := ⟨g, j, none⟩) hb]; exact h.spare j hj, h.le, h.max⟩
theorem Bf.below {base : Nat} {w w' : World} {g cap : Nat} {l : List UInt8} (h : Bf base w g cap l) (hb : Below w.heap.size w w') : Bf base w' g cap l := h.kept hb.size (hb.block g h.lt)

/-- Out of g, grown: what is left is this. -/
structure Ap (base : Nat) (w : World) (g : Nat) (w' : World) (g' cap' : Nat) (l' : List UInt8) : Prop where
  bf : Bf base w' g' cap' l'
  grown : w.grownBy w' (some g)
  here : g' = g ∨ w.heap.size ≤ g'

theorem Ap.refl {base : Nat} {w : World} {g cap : Nat} {l : List UInt8} (h : Bf base w g cap l) : Ap base w g w g cap l := ⟨h, ⟨rfl, rfl, rfl, Nat.le_refl _, fun _ _ _ => rfl⟩, .inl rfl⟩
theorem Ap.trans {base : Nat} {w w1 w2 : World} {g g1 g2 c1 c2 : Nat} {l1 l2 : List UInt8} (h : Ap base w g w1 g1 c1 l1) (k : Ap base w1 g1 w2 g2 c2 l2) : Ap base w g w2 g2 c2 l2 := by
  have s1 := h.grown.size
  refine ⟨k.bf, ⟨k.grown.os.trans h.grown.os, k.grown.tape.trans h.grown.tape, k.grown.output.trans h.grown.output, Nat.le_trans s1 k.grown.size, fun i hi hn => ?_⟩, ?_⟩
  · rw [k.grown.block i (by omega) (fun e => ?_), h.grown.block i hi hn]
    have e' := Option.some.inj e
    rcases h.here with q | q
    · exact hn (by rw [e', q])
    · omega
  · rcases k.here with q | q
    · rw [q]; exact h.here
    · exact .inr (by omega)
/-- Blocks that were made in between stand behind. -/
theorem Ap.after {base : Nat} {w w1 w2 : World} {g g2 c2 : Nat} {l2 : List UInt8} (hb : Below w.heap.size w w1) (k : Ap base w1 g w2 g2 c2 l2) : Ap base w g w2 g2 c2 l2 := by
  have s1 := hb.size
  refine ⟨k.bf, ⟨k.grown.os.trans hb.os, k.grown.tape.trans hb.tape, k.grown.output.trans hb.output, Nat.le_trans s1 k.grown.size, fun i hi hn => ?_⟩, ?_⟩
  · rw [k.grown.block i (by omega) hn, hb.block i hi]
  · rcases k.here with q | q
    · exact .inl q
    · exact .inr (by omega)
theorem Ap.below {base : Nat} {w w1 w2 : World} {g g1 c1 : Nat} {l1 : List UInt8} (h : Ap base w g w1 g1 c1 l1) (hb : Below w1.heap.size w1 w2) : Ap base w g w2 g1 c1 l1 := by
  have s1 := h.grown.size
  refine ⟨h.bf.below hb, ⟨hb.os.trans h.grown.os, hb.tape.trans h.grown.tape, hb.output.trans h.grown.output, Nat.le_trans s1 hb.size, fun i hi hn => ?_⟩, h.here⟩
  rw [hb.block i (by omega), h.grown.block i hi hn]
/-- What lies below base stays. -/
theorem Ap.bel {base : Nat} {w w1 : World} {g g1 c1 : Nat} {l1 : List UInt8} (h : Ap base w g w1 g1 c1 l1) (hg : base ≤ g) (hB : base ≤ w.heap.size) : Below base w w1 :=
  ⟨h.grown.os, h.grown.tape, h.grown.output, h.grown.size, fun k hk => h.grown.block k (by omega) (fun e => by have := Option.some.inj e; omega)⟩

def byteVals (l : List UInt8) : List Value := l.map fun b => Value.int .u8 (b.toNat : Int)
theorem byteVals_length (l : List UInt8) : (byteVals l).length = l.length := by simp [byteVals]
theorem byteVals_get {l : List UInt8} {j : Nat} {u : Value} (h : (byteVals l)[j]? = some u) : ∃ hj : j < l.length, u = .int .u8 (l[j].toNat : Int) := by
  have hj : j < l.length := by have := (List.getElem?_eq_some_iff.1 h).1; rwa [byteVals_length] at this
  refine ⟨hj, ?_⟩
  simpa [byteVals, hj] using h.symm
theorem byteVals_at {l : List UInt8} {j : Nat} (h : j < l.length) : (byteVals l)[j]? = some (.int .u8 (l[j].toNat : Int)) := by simp [byteVals, h]
theorem byteVals_one (l : List UInt8) : ∀ u ∈ byteVals l, u.oneCell' = true := by
  intro u hu
  obtain ⟨b, _, rfl⟩ := List.mem_map.1 hu
  rfl
theorem strCells_eq (s : ByteArray) : Lib.strCells s = byteVals s.data.toList := rfl

theorem setCells_bf {base : Nat} {w : World} {g cap : Nat} {l m : List UInt8} (h : Bf base w g cap l) (hr : l.length + m.length ≤ cap) : Ap base w g (w.setCells g l.length (byteVals m)) g cap (l ++ m) := by
  have sz : ∀ (vs : List Value) (o : Nat) (W : World), (W.setCells g o vs).heap.size = W.heap.size := by
    intro vs
    induction vs with
    | nil => intro o W; rfl
    | cons v r ih => intro o W; exact (ih (o + 1) _).trans (by simp [World.setCell])
  have bl : Below g w (w.setCells g l.length (byteVals m)) := below_setCells' (Nat.le_refl _) _ _ _ (Below.refl _ _)
  have oth : ∀ (vs : List Value) (o : Nat) (W : World) (k : Nat), k ≠ g → (W.setCells g o vs).heap[k]? = W.heap[k]? := by
    intro vs
    induction vs with
    | nil => intro o W k _; rfl
    | cons v r ih => intro o W k hk; exact (ih (o + 1) _ k hk).trans (Below.heap_setCell _ _ _ _ hk)
  have fz : ∀ (vs : List Value) (o : Nat) (W : World) (j : Nat), (W.setCells g o vs).frozen? ⟨g, j, none⟩ = W.frozen? ⟨g, j, none⟩ := by
    intro vs
    induction vs with
    | nil => intro o W j; rfl
    | cons v r ih => intro o W j; exact (ih (o + 1) _ j).trans (by simp [go_sem])
  have cs : ∀ (j : Nat), (w.setCells g l.length (byteVals m)).cell? ⟨g, j, none⟩ = if h : l.length ≤ j ∧ j - l.length < m.length then some (.int .u8 (m[j - l.length].toNat : Int)) else w.cell? ⟨g, j, none⟩ := by
    intro j
    split
    · next hj =>
      have := World.cell?_setCells_in g (byteVals m) l.length w (fun i hi => (h.spare _ (by rw [byteVals_length] at hi; omega)).1) (j - l.length) (by rw [byteVals_length]; exact hj.2)
      rw [show l.length + (j - l.length) = j by omega] at this
      rw [this]
      simp [byteVals]
    · next hj =>
      exact World.cell?_setCells_out _ _ _ _ _ (fun _ _ => by rw [byteVals_length]; show j < _ ∨ _ ≤ j; omega)
  refine ⟨⟨h.new, by rw [sz]; exact h.lt, fun j hj => ?_, fun j hj => ⟨?_, ?_⟩, by simpa using hr, h.max⟩, ⟨bl.os, bl.tape, bl.output, by rw [sz]; exact Nat.le_refl _, fun k hk hn => oth _ _ _ _ (fun e => hn (by rw [e]))⟩, .inl rfl⟩
  · rw [cs]
    by_cases hl : l.length ≤ j
    · have hj' : j - l.length < m.length := by rw [List.length_append] at hj; omega
      rw [dif_pos ⟨hl, hj'⟩, List.getElem_append_right hl]
    · rw [dif_neg (fun e => hl e.1), h.cells j (by omega), List.getElem_append_left (by omega)]
  · rw [cs]
    split
    · rfl
    · exact (h.spare j hj).1
  · rw [fz]; exact (h.spare j hj).2
where
  below_setCells' {B : Nat} {a : World} {b : Nat} (hb : B ≤ b) : ∀ (vs : List Value) (o : Nat) (w : World), Below B a w → Below B a (w.setCells b o vs)
    | [], _, _, h => h
    | v :: r, o, w, h => below_setCells' hb r (o + 1) _ (h.setCell (p := ⟨b, o, none⟩) hb v)

theorem grow_bf {base : Nat} {w : World} {g cap c2 : Nat} {l m : List UInt8} (h : Bf base w g cap l) (hB : base ≤ w.heap.size) (e : TypeId) (hc : (l ++ m).length ≤ c2) (hm : c2 ≤ maxLen) :
    Ap base w g (w.drew.alloc (.cells ((byteVals l).toArray ++ (byteVals m).toArray ++ Builtin.zeroCells (Value.int .u8 0).cells (c2 - (l.length + m.length))) e)) w.heap.size c2 (l ++ m) := by
  have hz : (Value.int IntKind.u8 0).cells.size = 1 := rfl
  have hlen : ((byteVals l).toArray ++ (byteVals m).toArray ++ Builtin.zeroCells (Value.int .u8 0).cells (c2 - (l.length + m.length))).size = c2 := by
    rw [List.length_append] at hc
    simp only [Array.size_append, List.size_toArray, size_zeroCells, hz, byteVals_length]
    omega
  have hcell : ∀ j, (w.drew.alloc (.cells ((byteVals l).toArray ++ (byteVals m).toArray ++ Builtin.zeroCells (Value.int .u8 0).cells (c2 - (l.length + m.length))) e)).cell? ⟨w.heap.size, j, none⟩ = ((byteVals l).toArray ++ (byteVals m).toArray ++ Builtin.zeroCells (Value.int .u8 0).cells (c2 - (l.length + m.length)))[j]? := fun j => World.cell?_alloc_new w.drew _ _ j
  refine ⟨⟨hB, by simp, fun j hj => ?_, fun j hj => ⟨?_, ?_⟩, hc, hm⟩, ⟨rfl, rfl, rfl, by simp, fun k hk _ => Below.heap_alloc w.drew _ k hk⟩, .inr (Nat.le_refl _)⟩
  · have hj2 : j < ((byteVals l).toArray ++ (byteVals m).toArray).size := by simpa [byteVals_length] using hj
    rw [hcell, Array.getElem?_append_left hj2]
    rw [← byteVals_at hj]
    simp [byteVals]
  · rw [hcell, Array.getElem?_eq_getElem (by omega)]; rfl
  · have hb : (w.drew.alloc (.cells ((byteVals l).toArray ++ (byteVals m).toArray ++ Builtin.zeroCells (Value.int .u8 0).cells (c2 - (l.length + m.length))) e)).heap[w.heap.size]? = _ := heap_alloc_new w.drew _
    unfold World.frozen?
    simp only [hb]
    simp

/-- An append of bytes. -/
theorem run_bytes {P : Program} {base : Nat} {w : World} {g cap : Nat} {l m : List UInt8} (h : Bf base w g cap l) (hB : base ≤ w.heap.size) (t e : TypeId) (ht : P.underlying t = some (.slice e))
    (hinfo : (P.info? e).map (fun i => (i.zero, i.size, i.bytes)) = some (some (.int .u8 0), 1, 1)) (ad : Addr) (c : Nat) (hm : ∀ j u, (byteVals m)[j]? = some u → w.cell? (ad.add j) = some u) (hz : l.length + m.length ≤ 1099511627776) :
    ∃ g' cap' w', (∀ ty, (Builtin.append_ #[t, t] ty #[.slice (some ⟨g, 0, none⟩) l.length cap, .slice (some ad) m.length c]).run P w = .ok (.slice (some ⟨g', 0, none⟩) (l ++ m).length cap') w') ∧ Ap base w g w' g' cap' (l ++ m) := by
  obtain ⟨i, hi, hzz⟩ := Option.map_eq_some_iff.1 hinfo
  simp only [Prod.mk.injEq] at hzz
  obtain ⟨hz0, hsz, hby⟩ := hzz
  have hL : (l ++ m).length = l.length + m.length := List.length_append
  by_cases hroom : l.length + m.length ≤ cap
  · have hr := fun ty => run_append_room_cells (P := P) w t ty e i ht hi g 0 l.length cap ad m.length c (byteVals m) (by rw [hsz, byteVals_length]; omega) hm (byteVals_one m) hroom
      (fun j hj => (h.spare _ (by rw [byteVals_length] at hj; rw [hsz]; omega)).1) (fun j hj => (h.spare _ (by rw [byteVals_length] at hj; rw [hsz]; omega)).2)
    simp only [hsz, Nat.mul_one, Nat.zero_add] at hr
    exact ⟨g, cap, _, fun ty => by rw [hr ty, hL], setCells_bf h hroom⟩
  · have holds : ∀ j u, (byteVals l)[j]? = some u → w.cell? ((⟨g, 0, none⟩ : Addr).add j) = some u := by
      intro j u hj
      obtain ⟨hj', rfl⟩ := byteVals_get hj
      rw [addr_add, Nat.zero_add]
      exact h.cells j hj'
    have hr := fun ty => run_append_grow (P := P) w t ty e i (.int .u8 0) ht hi hz0 ⟨g, 0, none⟩ l.length cap (byteVals l) (by rw [hsz, byteVals_length]; omega) holds ad m.length c (byteVals m) (by rw [hsz, byteVals_length]; omega) hm (by omega) (by omega)
      (growslice_fits (by omega) (by rw [hby]; omega))
    refine ⟨w.heap.size, grownCap w (l.length + m.length) cap e, _, fun ty => by rw [hr ty, hL], grow_bf h hB e ?_ (grownCap_le_maxLen w _ cap e (by unfold maxLen; omega))⟩
    rw [hL]
    exact grownCap_ge w (l.length + m.length) cap e

/-- An append of a text's bytes. -/
theorem run_text {P : Program} {base : Nat} {w : World} {g cap : Nat} {l : List UInt8} (h : Bf base w g cap l) (hB : base ≤ w.heap.size) (t u e : TypeId) (ht : P.underlying t = some (.slice e)) (hu : P.underlying u = some .string)
    (hinfo : (P.info? e).map (fun i => (i.zero, i.size, i.bytes)) = some (some (.int .u8 0), 1, 1)) (s : ByteArray) (hz : l.length + s.size ≤ 1099511627776) :
    ∃ g' cap' w', (∀ ty, (Builtin.append_ #[t, u] ty #[.slice (some ⟨g, 0, none⟩) l.length cap, .string s]).run P w = .ok (.slice (some ⟨g', 0, none⟩) (l ++ s.data.toList).length cap') w') ∧ Ap base w g w' g' cap' (l ++ s.data.toList) := by
  obtain ⟨i, hi, hzz⟩ := Option.map_eq_some_iff.1 hinfo
  simp only [Prod.mk.injEq] at hzz
  obtain ⟨hz0, hsz, hby⟩ := hzz
  have hs : s.data.toList.length = s.size := by simp
  have hL : (l ++ s.data.toList).length = l.length + s.size := by rw [List.length_append, hs]
  by_cases hroom : l.length + s.size ≤ cap
  · have hf := Lib.run_firstCells_string (P := P) w 1 s
    have hst := run_storeCells_cells (P := P) g (0 + l.length * 1) (Lib.strCells s) 0 w (fun j hj => by rw [Lib.strCells_length] at hj; exact (h.spare _ (by omega)).1) (fun j hj => by rw [Lib.strCells_length] at hj; exact (h.spare _ (by omega)).2) (Lib.strCells_oneCell s)
    refine ⟨g, cap, w.setCells g l.length (byteVals s.data.toList), fun ty => ?_, setCells_bf h (by rw [hs]; exact hroom)⟩
    rw [hL, ← strCells_eq]
    simp only [Nat.add_zero, Nat.mul_one, Nat.zero_add] at hst
    simp [Builtin.append_, run_underlying ht, run_underlying hu, sizeOf, typeInfo, hi, hsz, Builtin.lenOf, hroom, hf, Addr.add_lit, hst]
  · have holds : ∀ j u, (byteVals l)[j]? = some u → w.cell? ((⟨g, 0, none⟩ : Addr).add j) = some u := by
      intro j u hj
      obtain ⟨hj', rfl⟩ := byteVals_get hj
      rw [addr_add, Nat.zero_add]
      exact h.cells j hj'
    have hr := fun ty => Lib.run_append_grow_string (P := P) w t u ty e i (.int .u8 0) ht hu hi hz0 ⟨g, 0, none⟩ l.length cap (byteVals l) (by rw [hsz, byteVals_length]; omega) holds s (by omega) (by omega)
      (growslice_fits (by omega) (by rw [hby]; omega))
    rw [strCells_eq] at hr
    refine ⟨w.heap.size, grownCap w (l.length + s.size) cap e, _, fun ty => by rw [hr ty, hL], ?_⟩
    have := grow_bf (m := s.data.toList) h hB e (c2 := grownCap w (l.length + s.size) cap e) (by rw [hL]; exact grownCap_ge w (l.length + s.size) cap e) (grownCap_le_maxLen w _ cap e (by unfold maxLen; omega))
    rw [hs] at this
    exact this

theorem app_any {P : Program} (w : World) {ops : Array Oper} {rest : List Oper} {o : Oper} {a : Act} {Q : Exit → Act → World → Prop} (hgd : o.guard = none) (s x : Operand) (t u : TypeId)
    (ho : o.op = .call { callee := .builtin .append, args := #[s, x], argTypes := #[t, u] }) (v xv : Value) (hs : a.eval s = v) (hx : a.eval x = xv) (v' : Value) (w' : World)
    (hr : ∀ ty, (Builtin.append_ #[t, u] ty #[v, xv]).run P w = .ok v' w') (h : wpList P ops Q rest (a.put o.dst v') w') : wpList P ops Q (o :: rest) a w :=
  wpList_plain hgd fun _ hK => by
    unfold Oper.wp execOp
    simp only [ho, resolve, invoke, builtin, Sem.run_bind, Sem.run_pure, Result.andThen_ok, List.map_toArray, List.map_cons, List.map_nil, hs, hx, hr]
    exact hK _ _ h

/-- The operation, for the walk: bytes. -/
theorem app_bytes {P : Program} (w : World) {ops : Array Oper} {rest : List Oper} {o : Oper} {a : Act} {Q : Exit → Act → World → Prop} (hgd : o.guard = none) (s x : Operand) (t : TypeId)
    (ho : o.op = .call { callee := .builtin .append, args := #[s, x], argTypes := #[t, t] }) (e : TypeId) (ht : P.underlying t = some (.slice e)) (hinfo : (P.info? e).map (fun i => (i.zero, i.size, i.bytes)) = some (some (.int .u8 0), 1, 1))
    {base g cap n k : Nat} {l m : List UInt8} (hs : a.eval s = .slice (some ⟨g, 0, none⟩) n cap) (hn : l.length = n) (ad : Addr) (c : Nat) (hx : a.eval x = .slice (some ad) k c) (hk : m.length = k)
    (h : Bf base w g cap l) (hm : ∀ j u, (byteVals m)[j]? = some u → w.cell? (ad.add j) = some u) (hz : l.length + m.length ≤ 1099511627776)
    (hK : ∀ g' cap' w' n', Hid (n' = (l ++ m).length) → Ap base w g w' g' cap' (l ++ m) → wpList P ops Q rest (a.put o.dst (.slice (some ⟨g', 0, none⟩) n' cap')) w') : wpList P ops Q (o :: rest) a w := by
  subst hn hk
  obtain ⟨g', cap', w', hr, hap⟩ := run_bytes h (by have := h.lt; have := h.new; omega) t e ht hinfo ad c hm hz
  exact app_any w hgd s x t t ho _ _ hs hx _ _ hr (hK g' cap' w' _ rfl hap)

/-- The same: a text. -/
theorem app_text {P : Program} (w : World) {ops : Array Oper} {rest : List Oper} {o : Oper} {a : Act} {Q : Exit → Act → World → Prop} (hgd : o.guard = none) (s x : Operand) (t u : TypeId)
    (ho : o.op = .call { callee := .builtin .append, args := #[s, x], argTypes := #[t, u] }) (e : TypeId) (ht : P.underlying t = some (.slice e)) (hu : P.underlying u = some .string) (hinfo : (P.info? e).map (fun i => (i.zero, i.size, i.bytes)) = some (some (.int .u8 0), 1, 1))
    {base g cap n : Nat} {l : List UInt8} (hs : a.eval s = .slice (some ⟨g, 0, none⟩) n cap) (hn : l.length = n) (S : ByteArray) (hx : a.eval x = .string S)
    (h : Bf base w g cap l) (hz : l.length + S.size ≤ 1099511627776)
    (hK : ∀ g' cap' w' n', Hid (n' = (l ++ S.data.toList).length) → Ap base w g w' g' cap' (l ++ S.data.toList) → wpList P ops Q rest (a.put o.dst (.slice (some ⟨g', 0, none⟩) n' cap')) w') : wpList P ops Q (o :: rest) a w := by
  subst hn
  obtain ⟨g', cap', w', hr, hap⟩ := run_text h (by have := h.lt; have := h.new; omega) t u e ht hu hinfo S hz
  exact app_any w hgd s x t u ho _ _ hs hx _ _ hr (hK g' cap' w' _ rfl hap)

/-- What a conversion makes. -/
theorem conv_bf {P : Program} (w : World) (src dst e : TypeId) (S : ByteArray) (hS : S.size ≤ 1099511627776) (hs : P.underlying src = some .string) (hd : P.underlying dst = some (.slice e)) (he : P.underlying e = some (.int .u8)) :
    ∃ cap W1, (convert src dst (.string S)).run P w = .ok (.slice (some ⟨w.heap.size, 0, none⟩) S.size cap) W1 ∧ Bf w.heap.size W1 w.heap.size cap S.data.toList ∧ Below w.heap.size w W1 ∧ W1.heap.size = w.heap.size + 1 := by
  have hb := Lib.bytesWorld_at_new w e S
  have hge := grownCap_ge w S.size 0 e
  have hz : (Lib.bytesCells w e S).size = grownCap w S.size 0 e := by simp [Lib.bytesCells]; omega
  have hsz : S.data.toList.length = S.size := by simp
  refine ⟨_, _, Lib.run_convert_string_bytes w src dst e S hs hd he, ⟨Nat.le_refl _, by rw [Lib.bytesWorld_size]; omega, fun j hj => ?_, fun j hj => ⟨?_, ?_⟩, by rw [hsz]; exact hge, grownCap_le_maxLen w S.size 0 e (by unfold maxLen; omega)⟩, ⟨rfl, rfl, rfl, by rw [Lib.bytesWorld_size]; omega, fun k hk => Lib.bytesWorld_at_old w e S k hk⟩, Lib.bytesWorld_size _ _ _⟩
  · rw [Lib.bytesWorld_cell w e S j (by omega), List.getD_eq_getElem?_getD, List.getElem?_eq_getElem hj]; rfl
  · simp only [World.cell?, hb]
    rw [Array.getElem?_eq_getElem (by omega)]
    rfl
  · simp only [World.frozen?, hb]
    simp
    omega

end Go.Proofs.YtkmhaemcpakobaaGreatDoor.bf

namespace Go.Proofs.YtkmhaemcpakobaaGreatDoor.mt
open Go.ChangeShapes Go.WideShapes Go.ChangeAt Go.RowKit Go.Deep
open bf
set_option linter.unusedVariables false
set_option linter.unusedSimpArgs false

/-! ### Lines of two words -/

theorem nil_bf {w : World} {c2 : Nat} {m : List UInt8} (e : TypeId) (hc : m.length ≤ c2) (hm : c2 ≤ maxLen) :
    Bf w.heap.size (w.drew.alloc (.cells ((byteVals m).toArray ++ Builtin.zeroCells (Value.int .u8 0).cells (c2 - m.length)) e)) w.heap.size c2 m := by
  have hz : (Value.int IntKind.u8 0).cells.size = 1 := rfl
  have hlen : ((byteVals m).toArray ++ Builtin.zeroCells (Value.int .u8 0).cells (c2 - m.length)).size = c2 := by
    simp only [Array.size_append, List.size_toArray, size_zeroCells, hz, byteVals_length]
    omega
  have hcell : ∀ j, (w.drew.alloc (.cells ((byteVals m).toArray ++ Builtin.zeroCells (Value.int .u8 0).cells (c2 - m.length)) e)).cell? ⟨w.heap.size, j, none⟩ = ((byteVals m).toArray ++ Builtin.zeroCells (Value.int .u8 0).cells (c2 - m.length))[j]? := fun j => World.cell?_alloc_new w.drew _ e j
  refine ⟨Nat.le_refl _, by simp, fun j hj => ?_, fun j hj => ⟨?_, ?_⟩, hc, hm⟩
  · have hj2 : j < ((byteVals m).toArray).size := by simpa [byteVals_length] using hj
    rw [hcell, Array.getElem?_append_left hj2]
    rw [← byteVals_at hj]
    simp [byteVals]
  · rw [hcell, Array.getElem?_eq_getElem (by omega)]; rfl
  · have hb : (w.drew.alloc (.cells ((byteVals m).toArray ++ Builtin.zeroCells (Value.int .u8 0).cells (c2 - m.length)) e)).heap[w.heap.size]? = _ := heap_alloc_new w.drew _
    unfold World.frozen?
    simp only [hb]
    simp

theorem nil_text {P : Program} {w : World} (t u e : TypeId) (ht : P.underlying t = some (.slice e)) (hu : P.underlying u = some .string)
    (hinfo : (P.info? e).map (fun i => (i.zero, i.size, i.bytes)) = some (some (.int .u8 0), 1, 1)) (s : ByteArray) (h0 : 0 < s.size) (hz : s.size ≤ 1099511627776) :
    ∃ cap' w', (∀ ty, (Builtin.append_ #[t, u] ty #[.slice none 0 0, .string s]).run P w = .ok (.slice (some ⟨w.heap.size, 0, none⟩) s.data.toList.length cap') w') ∧ Bf w.heap.size w' w.heap.size cap' s.data.toList ∧ Below w.heap.size w w' := by
  obtain ⟨i, hi, hzz⟩ := Option.map_eq_some_iff.1 hinfo
  simp only [Prod.mk.injEq] at hzz
  obtain ⟨hz0, hsz, hby⟩ := hzz
  have hs : s.data.toList.length = s.size := by simp
  have hr := fun ty => run_append_nil_string (P := P) (w := w) t u ty e i (.int .u8 0) ht hu hi hz0 s h0 (by omega) (by rw [hby]; omega)
  have hb := nil_bf (w := w) (m := s.data.toList) (c2 := grownCap w s.size 0 e) e (by rw [hs]; exact grownCap_ge w s.size 0 e) (grownCap_le_maxLen w _ 0 e (by unfold maxLen; omega))
  rw [hs] at hb
  have ea : (s.data.map (fun b => Value.int .u8 b.toNat) : Array Value) = (byteVals s.data.toList).toArray := by
    apply Array.ext'
    simp [byteVals]
  refine ⟨grownCap w s.size 0 e, _, fun ty => by rw [hr ty, hs], ?_, ((Below.refl _ _).drew).alloc (by simp) _⟩
  rw [ea]
  exact hb

end Go.Proofs.YtkmhaemcpakobaaGreatDoor.mt

namespace Go.Proofs.YtkmhaemcpakobaaGreatDoor.mt
open Go.ChangeShapes Go.WideShapes Go.ChangeAt Go.RowKit Go.Deep Go.Maps
set_option linter.unusedVariables false
set_option linter.unusedSimpArgs false

theorem iadr_any (l : List ByteArray) (a : Option Addr) (n cap : Nat) (w : World) (hb : st.Ss w a n l) (hn : n ≤ 1048576) (hs : ∀ i, i < n → (st.atS l i).size ≤ 1048576) (hT : wd.TabB w) :
    Calls Tryz.prog 116 #[.slice a n cap] w fun e w' => e = .returned (.bool (adA l n && asA l n)) ∧ Below w.heap.size w w' := by
  have HS : Hid (∀ i, i < n → (st.atS l i).size ≤ 1048576) := hs
  have HB : Hid (st.Ss w a n l) := hb
  have HLV := wd.lv_any w hT
  have HAC : Hid (∀ W, Below w.heap.size w W → Calls Tryz.prog 144 #[.slice a n cap, .func (.func 145) #[] #[]] W fun e w' => e = .returned (.bool (asA l n)) ∧ Below W.heap.size W w') := fun W h => asc_any l a n cap W (hb.below h) hn
  clear hs hb hT
  go_enter Tryz.func116, Tryz.ntmps116
  go_wp2_with (first | (go_at_call 114; refine HLV.mono ?_; rintro e w1 ⟨rfl, hown, B1⟩; refine Hid.out ?_) | go_in)
  refine Lib.hid ?_
  have HIA : Hid (∀ j, j < n → Calls Tryz.prog 115 #[.string (st.atS l j), .map (some w.heap.size)] w1 fun e w' => e = .returned (.bool (wd.aokB (st.atS l j))) ∧ w' = w1) := fun j hj => wd.isadr_any _ (HS.out j hj) _ w1 hown
  clear hown HLV
  go_wp2_with fail
  go_loopw [5, 9] (fun _ v wr => ∃ i : Nat, i ≤ n ∧ v = .int .i64 (i : Int) ∧ adA l i = true ∧ wr = w1) (fun _ v _ => n - (intOf v).toNat)
  case atStart => exact ⟨0, Nat.zero_le _, rfl, rfl, rfl⟩
  case round =>
    obtain ⟨i, hi, rfl, hA, rfl⟩ := hrel
    have HAD : Hid (adA l i = true) := hA
    clear hA
    by_cases hil : i < n
    · have hil' : (i : Int) < (n : Int) := by omega
      obtain ⟨b, o, rfl, hc⟩ : ∃ b o, a = some ⟨b, o, none⟩ ∧ ∀ j, j < n → w.cell? ⟨b, o + j, none⟩ = some (.string (st.atS l j)) := by
        rcases HB.out with h | ⟨b, o, e, h⟩
        · omega
        · exact ⟨b, o, e, h⟩
      have k0 : wr.cell? ⟨b, o + i, none⟩ = some (.string (st.atS l i)) := (B1.cell (World.block_lt_of_cell? _ _ (hc i hil))).trans (hc i hil)
      have HI := HIA.out i hil
      obtain ⟨x, hx⟩ : ∃ x, st.atS l i = x := ⟨_, rfl⟩
      cases hok : wd.aokB (st.atS l i) with
      | false =>
        have HR : Hid (adA l n = false) := adA_no hil hok
        rw [hok, hx] at HI
        rw [hx] at k0
        clear hok hx hc HIA
        go_wp2_with (first | (go_at_call 115; refine HI.mono ?_; rintro e w2 ⟨rfl, rfl⟩) | go_in)
        go_ret
        exact ⟨ret_bool (by rw [HR.out]; rfl), B1⟩
      | true =>
        have HX : Hid (adA l (i + 1) = true) := adA_succ HAD.out hok
        rw [hok, hx] at HI
        rw [hx] at k0
        clear hok hx hc HIA
        go_wp2_with (first | (go_at_call 115; refine HI.mono ?_; rintro e w2 ⟨rfl, rfl⟩) | go_in)
        go_roundw
        case rel => exact ⟨i + 1, by omega, by go_num, HX.out, by first | rfl | trivial⟩
        case measure => simp [intOf]; omega
    · obtain rfl : i = n := by omega
      go_wp2_with (first | (go_at_call 144; refine (HAC.out _ B1).mono ?_; rintro e w2 ⟨rfl, hl2⟩) | go_in)
      go_ret
      exact ⟨ret_bool (by rw [HAD.out, Bool.true_and]), B1.trans (hl2.mono B1.size)⟩

/-- At most 300 ascending addresses. -/
def rfB (l : List ByteArray) (n : Nat) : Bool := decide (n ≤ 300) && (adA l n && asA l n)

theorem refs_any (l : List ByteArray) (a : Option Addr) (n cap : Nat) (w : World) (hb : st.Ss w a n l) (hn : n ≤ 1048576) (hs : ∀ i, i < n → (st.atS l i).size ≤ 1048576) (hT : wd.TabB w) :
    Calls Tryz.prog 93 #[.slice a n cap] w fun e w' => e = .returned (.bool (rfB l n)) ∧ Below w.heap.size w w' := by
  have HI := iadr_any l a n cap w hb hn hs hT
  clear hb hs hT
  go_enter Tryz.func93, Tryz.ntmps93
  by_cases h3 : n ≤ 300
  · have h3' : ¬ (300 : Int) < (n : Int) := by omega
    have hd : decide (n ≤ 300) = true := decide_eq_true h3
    go_wp2_with (first | (go_at_call 116; refine HI.mono ?_; rintro e w2 ⟨rfl, hl2⟩) | go_in)
    go_ret
    exact ⟨ret_bool (by unfold rfB; rw [hd, Bool.true_and]), hl2⟩
  · have h3' : (300 : Int) < (n : Int) := by omega
    have hd : decide (n ≤ 300) = false := decide_eq_false h3
    go_wp2
    go_ret
    exact ⟨ret_bool (by unfold rfB; rw [hd, Bool.false_and]), Below.refl _ _⟩

def szB (z : Int) : Bool := decide (0 ≤ z) && decide (z ≤ 1000000)

theorem size_any (z : Int) (w : World) : Calls Tryz.prog 92 #[.int .i64 z] w fun e w' => e = .returned (.bool (szB z)) ∧ w' = w := by
  go_enter Tryz.func92, Tryz.ntmps92
  by_cases h0 : z < 0
  · have hB : szB z = false := by unfold szB; simp; omega
    go_wp2
    go_ret
    exact ⟨ret_bool (by first | rfl | rw [hB] | (simp; omega)), rfl⟩
  · by_cases h1 : 1000000 < z
    · have hB : szB z = false := by unfold szB; simp; omega
      go_wp2
      go_ret
      exact ⟨ret_bool (by first | rfl | rw [hB] | (simp; omega)), rfl⟩
    · have hB : szB z = true := by unfold szB; simp; omega
      go_wp2
      go_ret
      exact ⟨ret_bool (by first | rfl | rw [hB] | (simp; omega)), rfl⟩

end Go.Proofs.YtkmhaemcpakobaaGreatDoor.mt

namespace Go.Proofs.YtkmhaemcpakobaaGreatDoor.mt
open Go.ChangeShapes Go.WideShapes Go.ChangeAt Go.RowKit Go.Deep
open bf
set_option linter.unusedVariables false
set_option linter.unusedSimpArgs false

/-- A row of bytes, or none yet; not the block of the words. -/
def To (base : Nat) (w : World) (v : Value) (L : List UInt8) (b : Nat) : Prop := (v = .slice none 0 0 ∧ L = []) ∨ ∃ g c z, v = .slice (some ⟨g, 0, none⟩) z c ∧ z = L.length ∧ Bf base w g c L ∧ b ≠ g

def RowL (base : Nat) (w : World) (v : Value) (L : List UInt8) (b : Nat) : Prop := ∃ g c z, v = .slice (some ⟨g, 0, none⟩) z c ∧ z = L.length ∧ Bf base w g c L ∧ b ≠ g

theorem info5 : (Tryz.prog.info? 5).map (fun i => (i.zero, i.size, i.bytes)) = some (some (.int .u8 0), 1, 1) := by kernel_rfl

theorem one_at (w : World) (x : UInt8) (V : Int) (e : TypeId) (hV : V = (x.toNat : Int)) : ∀ j u, (byteVals [x])[j]? = some u → (w.alloc (.cells #[.int .u8 V] e)).cell? ((⟨w.heap.size, 0, none⟩ : Addr).add j) = some u := by
  subst hV
  exact one_new w _ e

/-- A line more. -/
def LineR (base : Nat) (w w' : World) (e : Ending) (L : List UInt8) : Prop := ∃ g c z, e = .returned (.slice (some ⟨g, 0, none⟩) z c) ∧ z = L.length ∧ Bf base w' g c L ∧ Below base w w'

theorem keep_cell {w w' : World} {g b j : Nat} {v : Value} (h : w.grownBy w' (some g)) (hne : b ≠ g) (hc : w.cell? ⟨b, j, none⟩ = some v) : w'.cell? ⟨b, j, none⟩ = some v :=
  h.cell hc (fun e => hne (by have := Option.some.inj e; simpa using this))

theorem ap_ne {base : Nat} {w w' : World} {g g' c' b : Nat} {l' : List UInt8} (h : Ap base w g w' g' c' l') (hb : b < w.heap.size) (hne : b ≠ g) : b ≠ g' := by
  rcases h.here with e | e
  · rw [e]; exact hne
  · omega

set_option maxHeartbeats 2000000 in
theorem line_any (base : Nat) (v : Value) (L : List UInt8) (x y : ByteArray) (b : Nat) (w : World) (hv : To base w v L b) (hx : 0 < x.size) (hsz : L.length + x.size + y.size + 2 ≤ 1000000000) (hbw : b < w.heap.size) (c0 : w.cell? ⟨b, 0, none⟩ = some (.string x)) (c1 : w.cell? ⟨b, 1, none⟩ = some (.string y)) (hB : base ≤ w.heap.size) :
    Calls Tryz.prog 90 #[v, .slice (some ⟨b, 0, none⟩) 2 2] w fun e w' => LineR base w w' e (L ++ x.data.toList ++ [32] ++ y.data.toList ++ [10]) := by
  have hxl : x.data.toList.length = x.size := by simp
  have hyl : y.data.toList.length = y.size := by simp
  go_enter Tryz.func90, Tryz.ntmps90
  go_wp2
  go_loopw [0, 5, 6, 9] (fun va _ _ vi wr => ∃ i : Nat, i ≤ 2 ∧ vi = .int .i64 (i : Int) ∧ b < wr.heap.size ∧ wr.cell? ⟨b, 0, none⟩ = some (.string x) ∧ wr.cell? ⟨b, 1, none⟩ = some (.string y) ∧ Below base w wr ∧ ((i = 0 ∧ va = v ∧ wr = w) ∨ (i = 1 ∧ RowL base wr va (L ++ x.data.toList) b) ∨ (i = 2 ∧ RowL base wr va (L ++ x.data.toList ++ [32] ++ y.data.toList) b))) (fun _ _ _ vi _ => 2 - (intOf vi).toNat)
  case atStart => exact ⟨0, by omega, rfl, hbw, c0, c1, Below.refl _ _, .inl ⟨rfl, rfl, rfl⟩⟩
  case round =>
    obtain ⟨i, hi, rfl, hbr, d0, d1, hbel, h3⟩ := hrel
    rcases h3 with ⟨rfl, rfl, rfl⟩ | ⟨rfl, g, c, z, rfl, hz, hbf, hne⟩ | ⟨rfl, g, c, z, rfl, hz, hbf, hne⟩
    · rcases hv with ⟨rfl, rfl⟩ | ⟨g, c, z, rfl, hz, hbf, hne⟩
      · obtain ⟨cap', w', hr, hbf', hb'⟩ := nil_text (P := Tryz.prog) (w := wr) 22 9 5 Tryz.underlying22 Tryz.underlying9 info5 x hx (by omega)
        have hbf2 : Bf base w' wr.heap.size cap' x.data.toList := ⟨hB, hbf'.lt, hbf'.cells, hbf'.spare, hbf'.le, hbf'.max⟩
        have e0 := (bcell hb').1 b 0 hbr
        have e1 := (bcell hb').1 b 1 hbr
        rw [d0] at e0
        rw [d1] at e1
        have HBF : Hid (Bf base w' wr.heap.size cap' x.data.toList) := hbf2
        have HB2 : Hid (Below base wr w') := hb'.mono hB
        have hbs := hb'.size
        clear hbf' hbf2 hb'
        go_wp2_with (first
          | (at_builtin; refine bf.app_any _ rfl _ _ 22 9 rfl _ _ rfl rfl _ _ hr ?_; refine Hid.out ?_)
          | go_in)
        refine Lib.hid ?_
        go_wp2
        go_roundw
        case rel => exact ⟨1, by omega, by go_num, by omega, e0, e1, HB2.out, .inr (.inl ⟨rfl, _, _, _, rfl, by simp, by simpa using HBF.out, by omega⟩)⟩
        case measure => simp [intOf]
      · go_wp2_with (first
          | (at_builtin; refine bf.app_text _ rfl _ _ 22 9 rfl 5 Tryz.underlying22 Tryz.underlying9 info5 rfl hz.symm x rfl hbf (by omega) ?_)
          | go_in)
        intro g1 c1' wa n1 hn1 hap1
        have BB := hbel.grown hap1.grown hB (fun k hk => by cases hk; exact hbf.new)
        have f0 := keep_cell hap1.grown hne d0
        have f1 := keep_cell hap1.grown hne d1
        have hne1 := ap_ne hap1 hbr hne
        have HAP := hap1.bf
        have hs1 := hap1.grown.size
        clear hap1
        go_wp2
        go_roundw
        case rel => exact ⟨1, by omega, by go_num, by omega, f0, f1, BB, .inr (.inl ⟨rfl, _, _, _, rfl, by have h := hn1.out; simp at h ⊢; exact h, HAP, hne1⟩)⟩
        case measure => simp [intOf]
    · go_wp2_with (first
        | (at_builtin; refine bf.app_bytes _ rfl _ _ 22 rfl 5 Tryz.underlying22 info5 rfl hz.symm ⟨wr.heap.size, 0, none⟩ 1 (m := [32]) rfl rfl (hbf.below ((Below.refl _ _).alloc (Nat.le_refl _) _)) (one_at _ _ _ _ rfl) (by simp; omega) ?_)
        | go_in)
      intro g1 c1' wa n1 hn1 hap1
      have hb1 := hbel.alloc (Nat.le_trans hB hbel.size) (.cells #[.int .u8 32] 5)
      have BB := hb1.grown hap1.grown (Nat.le_trans hB hb1.size) (fun k hk => by cases hk; exact hbf.new)
      have f0 := keep_cell hap1.grown hne (((bcell ((Below.refl _ _).alloc (Nat.le_refl _) _)).1 b 0 hbr).trans d0)
      have f1 := keep_cell hap1.grown hne (((bcell ((Below.refl _ _).alloc (Nat.le_refl _) _)).1 b 1 hbr).trans d1)
      have hne1 := ap_ne hap1 (by simp; omega) hne
      obtain ⟨M1, hM1⟩ : ∃ M1, M1 = L ++ x.data.toList ++ [32] := ⟨_, rfl⟩
      have HAP : Bf base wa g1 c1' M1 := by rw [hM1]; simpa using hap1.bf
      have HM1 : Hid (M1 = L ++ x.data.toList ++ [32]) := hM1
      have hs1 := hap1.grown.size
      have hbr1 : b < wa.heap.size := by simp at hs1; omega
      have hn1' : M1.length = n1 := by rw [hM1]; have h := hn1.out; simp at h ⊢; omega
      have hn1l : M1.length = L.length + x.size + 1 := by rw [hM1]; simp; omega
      clear hap1 hs1 hn1 hM1
      go_wp2_with (first
        | (at_builtin; refine bf.app_text _ rfl _ _ 22 9 rfl 5 Tryz.underlying22 Tryz.underlying9 info5 rfl hn1' y rfl HAP (by omega) ?_)
        | go_in)
      intro g2 c2' wb n2 hn2 hap2
      have BC := BB.grown hap2.grown (Nat.le_trans hB BB.size) (fun k hk => by cases hk; exact HAP.new)
      have e0 := keep_cell hap2.grown hne1 f0
      have e1 := keep_cell hap2.grown hne1 f1
      have hne2 := ap_ne hap2 hbr1 hne1
      have HAP2 := hap2.bf
      have hs2 := hap2.grown.size
      clear hap2
      go_wp2
      go_roundw
      case rel => exact ⟨2, by omega, by go_num, by omega, e0, e1, BC, .inr (.inr ⟨rfl, _, _, _, rfl, by have h := hn2.out; have h2 := hn1l; simp at h ⊢; omega, by rw [← HM1.out]; exact HAP2, hne2⟩)⟩
      case measure => simp [intOf]
    · go_wp2_with (first
        | (at_builtin; refine bf.app_bytes _ rfl _ _ 22 rfl 5 Tryz.underlying22 info5 rfl hz.symm ⟨wr.heap.size, 0, none⟩ 1 (m := [10]) rfl rfl (hbf.below ((Below.refl _ _).alloc (Nat.le_refl _) _)) (one_at _ _ _ _ rfl) (by simp; omega) ?_)
        | go_in)
      intro g1 c1' wa n1 hn1 hap1
      have hb1 := hbel.alloc (Nat.le_trans hB hbel.size) (.cells #[.int .u8 10] 5)
      have BB := hb1.grown hap1.grown (Nat.le_trans hB hb1.size) (fun k hk => by cases hk; exact hbf.new)
      have HAP := hap1.bf
      clear hap1
      go_wp2
      go_ret
      exact ⟨g1, c1', n1, rfl, by have h := hn1.out; simp at h ⊢; omega, by simpa using HAP, BB⟩

end Go.Proofs.YtkmhaemcpakobaaGreatDoor.mt

/-
  DERIVED: THE SHELF's CONTRACTS AT THIS DUMP, IN PLAIN WORDS (tools/lay-plain.mjs out of 'YtkmhaemcpakobaaGreatDoorSHx.lean', which tools/lay-shelf.mjs wrote): THE SAME DECLARATIONS UNDER THE SAME NAMES: 'import', 'namespace', 'open', 'def', 'theorem' AND NOTHING ELSE: no command of the shelf's: FOR A HAND-IN. Each laying: the table of numbers ('.._ren') and one theorem, a field a fact of the dump's own or the kernel's comparison; each contract: ONE APPLICATION.
-/
namespace Go.Proofs
open Go.Shelf
def Tryz.mtFI_ren : Go.Shelf.Ren := ⟨fun | 173 => 95 | 246 => 118 | 283 => 148 | 284 => 149 | 285 => 150 | 286 => 151 | 129 => 119 | 317 => 167 | 318 => 168 | 319 => 169 | 320 => 170 | 337 => 180 | 338 => 181 | n => n, fun | 2 => 2 | 3 => 3 | 9 => 9 | 4 => 4 | 171 => 169 | 0 => 0 | 53 => 38 | 37 => 22 | 5 => 5 | 173 => 171 | 212 => 190 | 51 => 182 | 20 => 20 | 213 => 191 | 46 => 71 | 232 => 106 | 233 => 204 | n => n, fun | 17 => 4 | 18 => 7 | 19 => 8 | n => n⟩
theorem Tryz.mtFI : Go.Proofs.LaysM.n173 Tryz.prog Tryz.mtFI_ren := {
  mixed := by kernel_rfl
  f129 := Tryz.func119.trans (congrArg some (by kernel_rfl))
  f173 := Tryz.func95.trans (congrArg some (by kernel_rfl))
  f246 := Tryz.func118.trans (congrArg some (by kernel_rfl))
  f283 := Tryz.func148.trans (congrArg some (by kernel_rfl))
  f284 := Tryz.func149.trans (congrArg some (by kernel_rfl))
  f285 := Tryz.func150.trans (congrArg some (by kernel_rfl))
  f286 := Tryz.func151.trans (congrArg some (by kernel_rfl))
  f317 := Tryz.func167.trans (congrArg some (by kernel_rfl))
  f318 := Tryz.func168.trans (congrArg some (by kernel_rfl))
  f319 := Tryz.func169.trans (congrArg some (by kernel_rfl))
  f320 := Tryz.func170.trans (congrArg some (by kernel_rfl))
  f337 := Tryz.func180.trans (congrArg some (by kernel_rfl))
  f338 := Tryz.func181.trans (congrArg some (by kernel_rfl))
  t0 := Tryz.underlying0
  a0 := Tryz.isAgg0
  z0 := Tryz.sizeOf0
  v0 := Tryz.zeroValue0
  t2 := Tryz.underlying2
  a2 := Tryz.isAgg2
  z2 := Tryz.sizeOf2
  v2 := Tryz.zeroValue2
  t3 := Tryz.underlying3
  a3 := Tryz.isAgg3
  z3 := Tryz.sizeOf3
  v3 := Tryz.zeroValue3
  t4 := Tryz.underlying4
  a4 := Tryz.isAgg4
  z4 := Tryz.sizeOf4
  v4 := Tryz.zeroValue4
  t5 := Tryz.underlying5
  a5 := Tryz.isAgg5
  z5 := Tryz.sizeOf5
  v5 := Tryz.zeroValue5
  t9 := Tryz.underlying9
  a9 := Tryz.isAgg9
  z9 := Tryz.sizeOf9
  v9 := Tryz.zeroValue9
  t20 := Tryz.underlying20
  a20 := Tryz.isAgg20
  z20 := Tryz.sizeOf20
  v20 := Tryz.zeroValue20
  t37 := Tryz.underlying22
  a37 := Tryz.isAgg22
  z37 := Tryz.sizeOf22
  v37 := Tryz.zeroValue22
  t46 := Tryz.underlying71
  a46 := Tryz.isAgg71
  z46 := Tryz.sizeOf71
  v46 := Tryz.zeroValue71
  t51 := Tryz.underlying182
  a51 := Tryz.isAgg182
  z51 := Tryz.sizeOf182
  v51 := Tryz.zeroValue182
  t53 := Tryz.underlying38
  a53 := Tryz.isAgg38
  z53 := Tryz.sizeOf38
  v53 := Tryz.zeroValue38
  t171 := Tryz.underlying169
  a171 := Tryz.isAgg169
  z171 := Tryz.sizeOf169
  v171 := Tryz.zeroValue169
  t173 := Tryz.underlying171
  a173 := Tryz.isAgg171
  z173 := Tryz.sizeOf171
  v173 := Tryz.zeroValue171
  t212 := Tryz.underlying190
  a212 := Tryz.isAgg190
  z212 := Tryz.sizeOf190
  v212 := Tryz.zeroValue190
  t213 := Tryz.underlying191
  a213 := Tryz.isAgg191
  z213 := Tryz.sizeOf191
  t232 := Tryz.underlying106
  a232 := Tryz.isAgg106
  z232 := Tryz.sizeOf106
  v232 := Tryz.zeroValue106
  t233 := Tryz.underlying204
  a233 := Tryz.isAgg204
  z233 := Tryz.sizeOf204
  v233 := Tryz.zeroValue204
  g17 := by kernel_rfl
  g18 := by kernel_rfl
  g19 := by kernel_rfl
  i0 := by kernel_rfl
  i2 := by kernel_rfl
  i3 := by kernel_rfl
  i4 := by kernel_rfl
  i5 := by kernel_rfl
  i9 := by kernel_rfl
  i20 := by kernel_rfl
  i37 := by kernel_rfl
  i46 := by kernel_rfl
  i51 := by kernel_rfl
  i53 := by kernel_rfl
  i171 := by kernel_rfl
  i173 := by kernel_rfl
  i212 := by kernel_rfl
  i232 := by kernel_rfl
  i233 := by kernel_rfl
  m17 := by kernel_rfl
  m18 := by kernel_rfl
  m19 := by kernel_rfl }
end Go.Proofs

namespace Go.Proofs.YtkmhaemcpakobaaGreatDoor.mt
open Go.ChangeShapes Go.WideShapes Go.ChangeAt Go.RowKit Go.Deep
open bf
set_option linter.unusedVariables false
set_option linter.unusedSimpArgs false

/-! ### A manifest's text -/

def ln (L x y : List UInt8) : List UInt8 := L ++ x ++ [32] ++ y ++ [10]
def refL (l : List ByteArray) (L : List UInt8) : Nat → List UInt8
  | 0 => L
  | k + 1 => ln (refL l L k) [114, 101, 102] (st.atS l k).data.toList
/-- The text up to the line key. -/
def headL (path sum : ByteArray) (z : Int) (l : List ByteArray) (n : Nat) : List UInt8 :=
  refL l (ln (ln (ln [] [112, 97, 116, 104] path.data.toList) [115, 117, 109] sum.data.toList) [115, 105, 122, 101] (Lib.itoa z)) n
def hokB (path sum : ByteArray) (z : Int) (l : List ByteArray) (n : Nat) : Bool := wd.rwB sum && (wd.aokB path && (szB z && rfB l n))

theorem ln_len (L x y : List UInt8) : (ln L x y).length = L.length + x.length + y.length + 2 := by simp [ln]; omega

theorem refL_len (l : List ByteArray) (L : List UInt8) (n : Nat) (hs : ∀ i, i < n → (st.atS l i).size ≤ 1048576) : ∀ k, k ≤ n → (refL l L k).length ≤ L.length + k * 1048581
  | 0, _ => by simp [refL]
  | k + 1, h => by
    have ih := refL_len l L n hs k (by omega)
    have h1 := hs k (by omega)
    simp only [refL, ln_len]
    have : (st.atS l k).data.toList.length = (st.atS l k).size := by simp
    simp only [this, List.length_cons, List.length_nil]
    omega

/-- The table of powers as it is laid. -/
def PwT (w : World) : Prop := Lib.TabIs Tryz.prog w "internal/strconv.uint64pow10" .u64 Lib.pow10Tab
theorem gPow : Tryz.prog.globalNamed "internal/strconv.uint64pow10" = some 4 := by kernel_rfl
theorem PwT.below {w w' : World} (h : PwT w) (hb : Below w.heap.size w w') : PwT w' := by
  unfold PwT Lib.TabIs World.var? at h ⊢
  rw [gPow] at h ⊢
  simp only [Option.bind_some] at h ⊢
  have hlt : 4 < w.heap.size := by
    rcases Nat.lt_or_ge 4 w.heap.size with x | x
    · exact x
    · rw [Array.getElem?_eq_none x] at h
      cases h
  rw [hb.block _ hlt]
  exact h

theorem fmt_any (z : Int) (h0 : 0 ≤ z) (h1 : z ≤ 1000000) (w : World) (hP : PwT w) :
    Calls Tryz.prog 95 #[.int .i64 z, .int .i64 10] w fun e w' => e = .returned (.string ⟨(Lib.itoa z).toArray⟩) ∧ Below w.heap.size w w' := by
  refine (Any.strconv_FormatInt_10 Tryz.mtFI z (by omega) (by omega) w hP).mono ?_
  rintro e w' ⟨rfl, k, os, rfl⟩
  exact ⟨rfl, Lib.below_grow _ _ (Nat.le_refl _) _ _⟩

theorem two_new (w : World) (x y : Value) (t : TypeId) : (w.alloc (.cells #[x, y] t)).cell? ⟨w.heap.size, 0, none⟩ = some x ∧ (w.alloc (.cells #[x, y] t)).cell? ⟨w.heap.size, 1, none⟩ = some y := by
  constructor <;> simp

/-- A line of two words that the caller has just laid. -/
theorem line_new (base : Nat) (v : Value) (L : List UInt8) (x y : ByteArray) (w : World) (hv : (v = .slice none 0 0 ∧ L = []) ∨ ∃ g c z, v = .slice (some ⟨g, 0, none⟩) z c ∧ z = L.length ∧ Bf base w g c L) (hx : 0 < x.size) (hsz : L.length + x.size + y.size + 2 ≤ 1000000000) (hB : base ≤ w.heap.size) :
    Calls Tryz.prog 90 #[v, .slice (some ⟨w.heap.size, 0, none⟩) 2 2] (w.alloc (.cells #[.string x, .string y] 9)) fun e w' => LineR base w w' e (ln L x.data.toList y.data.toList) := by
  have hb0 : Below w.heap.size w (w.alloc (.cells #[.string x, .string y] 9)) := (Below.refl _ _).alloc (Nat.le_refl _) _
  obtain ⟨c0, c1⟩ := two_new w (.string x) (.string y) 9
  refine (line_any base v L x y w.heap.size (w.alloc (.cells #[.string x, .string y] 9)) ?_ hx hsz (by simp) c0 c1 (by simp; omega)).mono ?_
  · rcases hv with h | ⟨g, c, z, rfl, hz, hbf⟩
    · exact .inl h
    · exact .inr ⟨g, c, z, rfl, hz, hbf.below hb0, by have := hbf.lt; omega⟩
  · rintro e w' ⟨g, c, z, rfl, hz, hbf, hb⟩
    exact ⟨g, c, z, rfl, hz, hbf, (hb0.mono hB).trans hb⟩

/-- What a manifest's parts are in memory. -/
def mfV (path sum : ByteArray) (z : Int) (a : Option Addr) (n cap : Nat) (key : ByteArray) (sig : Nat) : Array Value := #[.string path, .string sum, .int .i64 z, .slice a n cap, .string key, .int .u64 (sig : Int)]

theorem six_cells {w : World} {v0 v1 v2 v3 v4 v5 : Value} {t : TypeId} : ∀ W, Below (w.alloc (.cells #[v0, v1, v2, v3, v4, v5] t)).heap.size (w.alloc (.cells #[v0, v1, v2, v3, v4, v5] t)) W → (W.cell? ⟨w.heap.size, 0, none⟩ = some v0 ∧ W.cell? ⟨w.heap.size, 1, none⟩ = some v1 ∧ W.cell? ⟨w.heap.size, 2, none⟩ = some v2) ∧ W.cell? ⟨w.heap.size, 3, none⟩ = some v3 ∧ W.cell? ⟨w.heap.size, 4, none⟩ = some v4 ∧ W.cell? ⟨w.heap.size, 5, none⟩ = some v5 := fun W h =>
  ⟨⟨((bcell h).1 w.heap.size 0 (by simp)).trans (by simp), ((bcell h).1 w.heap.size 1 (by simp)).trans (by simp), ((bcell h).1 w.heap.size 2 (by simp)).trans (by simp)⟩, ((bcell h).1 w.heap.size 3 (by simp)).trans (by simp), ((bcell h).1 w.heap.size 4 (by simp)).trans (by simp), ((bcell h).1 w.heap.size 5 (by simp)).trans (by simp)⟩

theorem none_bf0 (w : World) (e : TypeId) : Bf w.heap.size (w.alloc (.cells #[] e)) w.heap.size 0 [] :=
  ⟨Nat.le_refl _, by simp, fun j h => absurd h (by simp), fun j h => absurd h (Nat.not_lt_zero j), Nat.le_refl _, Nat.zero_le _⟩

end Go.Proofs.YtkmhaemcpakobaaGreatDoor.mt

namespace Go.Proofs.YtkmhaemcpakobaaGreatDoor.mt
open Go.ChangeShapes Go.WideShapes Go.ChangeAt Go.RowKit Go.Deep
open bf
set_option linter.unusedVariables false
set_option linter.unusedSimpArgs false

theorem Bf.down {base base' : Nat} {w : World} {g c : Nat} {l : List UInt8} (h : Bf base w g c l) (hb : base' ≤ base) : Bf base' w g c l := ⟨Nat.le_trans hb h.new, h.lt, h.cells, h.spare, h.le, h.max⟩

theorem szB_iff {z : Int} (h : szB z = true) : 0 ≤ z ∧ z ≤ 1000000 := by simpa [szB] using h

/-- What signs: the head, or nothing. -/
def sgL (path sum key : ByteArray) (z : Int) (l : List ByteArray) (n : Nat) : List UInt8 := if hokB path sum z l n && nm.nameB key then headL path sum z l n else []

set_option maxHeartbeats 4000000 in
theorem isg_any (path sum key : ByteArray) (z : Int) (sig : Nat) (l : List ByteArray) (a : Option Addr) (n cap : Nat) (w : World) (hb : st.Ss w a n l) (hn : n ≤ 1048576) (hs : ∀ i, i < n → (st.atS l i).size ≤ 1048576) (hp : path.size ≤ 1048576) (hsu : sum.size ≤ 1048576) (hk : key.size ≤ 1048576) (hT : wd.TabB w) (hP : PwT w) :
    Calls Tryz.prog 64 #[.agg #[.string path, .string sum, .int .i64 z, .slice a n cap, .string key, .int .u64 (sig : Int)]] w fun e w' => LineR w.heap.size w w' e (sgL path sum key z l n) := by
  obtain ⟨o, ho⟩ : ∃ o : Obj, o = .cells #[.string path, .string sum, .int .i64 z, .slice a n cap, .string key, .int .u64 (sig : Int)] 43 := ⟨_, rfl⟩
  have HBW : Hid (∀ W, Below (w.alloc o).heap.size (w.alloc o) W → Below w.heap.size w W) := fun W h => ((Below.refl _ _).alloc (Nat.le_refl _) o).trans (h.mono (by simp))
  have HKC : Hid (∀ W, Below (w.alloc o).heap.size (w.alloc o) W → (W.cell? ⟨w.heap.size, 0, none⟩ = some (.string path) ∧ W.cell? ⟨w.heap.size, 1, none⟩ = some (.string sum) ∧ W.cell? ⟨w.heap.size, 2, none⟩ = some (.int .i64 z)) ∧ W.cell? ⟨w.heap.size, 3, none⟩ = some (.slice a n cap) ∧ W.cell? ⟨w.heap.size, 4, none⟩ = some (.string key) ∧ W.cell? ⟨w.heap.size, 5, none⟩ = some (.int .u64 (sig : Int))) := by rw [ho]; exact six_cells
  have HRW : Hid (∀ W, Below w.heap.size w W → Calls Tryz.prog 89 #[.string sum] W fun e w' => e = .returned (.tuple #[.int .u64 (wd.rwX sum), .bool (wd.rwB sum)]) ∧ Below W.heap.size W w') := fun W h => wd.rimpl_any sum hsu W (hT.below h)
  have HAO : Hid (∀ W, Below w.heap.size w W → Calls Tryz.prog 91 #[.string path] W fun e w' => e = .returned (.bool (wd.aokB path)) ∧ Below W.heap.size W w') := fun W h => wd.aimpl_any path hp W (hT.below h)
  have HSO : Hid (∀ W, Calls Tryz.prog 92 #[.int .i64 z] W fun e w' => e = .returned (.bool (szB z)) ∧ w' = W) := fun W => size_any z W
  have HRO : Hid (∀ W, Below w.heap.size w W → Calls Tryz.prog 93 #[.slice a n cap] W fun e w' => e = .returned (.bool (rfB l n)) ∧ Below W.heap.size W w') := fun W h => refs_any l a n cap W (hb.below h) hn hs (hT.below h)
  have HCN : Hid (∀ W, Calls Tryz.prog 94 #[.string key] W fun e w' => e = .returned (.bool (nm.nameB key)) ∧ w' = W) := fun W => nm.impl_any key hk W
  obtain ⟨q, hq⟩ : ∃ q, wd.rwX sum = q := ⟨_, rfl⟩
  obtain ⟨c1, hc1⟩ : ∃ c1, wd.rwB sum = c1 := ⟨_, rfl⟩
  obtain ⟨c2, hc2⟩ : ∃ c2, wd.aokB path = c2 := ⟨_, rfl⟩
  obtain ⟨c3, hc3⟩ : ∃ c3, szB z = c3 := ⟨_, rfl⟩
  obtain ⟨c4, hc4⟩ : ∃ c4, rfB l n = c4 := ⟨_, rfl⟩
  obtain ⟨c5, hc5⟩ : ∃ c5, nm.nameB key = c5 := ⟨_, rfl⟩
  rw [hq, hc1] at HRW
  rw [hc2] at HAO
  rw [hc3] at HSO
  rw [hc4] at HRO
  rw [hc5] at HCN
  have HBD : Hid (n ≤ 1048576 ∧ (∀ i, i < n → (st.atS l i).size ≤ 1048576) ∧ path.size ≤ 1048576 ∧ sum.size ≤ 1048576) := ⟨hn, hs, hp, hsu⟩
  have HSS : Hid (st.Ss w a n l) := hb
  have HPT : Hid (PwT w) := hP
  clear hb hn hs hp hsu hk hT hP hq
  go_enter Tryz.func64, Tryz.ntmps64
  go_wp2_with (first | (go_at_call 89; refine (HRW.out _ ((Below.refl _ _).alloc (Nat.le_refl _) _)).mono ?_; rintro e w1 ⟨rfl, hl1⟩; refine Hid.out ?_) | go_in)
  refine Lib.hid ?_
  rw [← ho] at hl1
  have C1 : Below (w.alloc o).heap.size (w.alloc o) w1 := hl1
  have B1 := HBW.out _ C1
  clear hl1
  cases c1
  · have hL : sgL path sum key z l n = [] := by unfold sgL hokB; rw [hc1]; rfl
    have hB0 := none_bf0 w1 5
    go_wp2
    go_ret
    show LineR _ _ _ _ (sgL path sum key z l n)
    rw [hL]
    exact ⟨_, _, _, rfl, rfl, Bf.down hB0 B1.size, B1.alloc B1.size _⟩
  obtain ⟨⟨k0, k1, k2⟩, k3, k4, k5⟩ := HKC.out _ C1
  cases c2
  · have hL : sgL path sum key z l n = [] := by unfold sgL hokB; rw [hc1, hc2]; rfl
    go_wp2_with (first | (go_at_call 91; refine (HAO.out _ B1).mono ?_; rintro e w2 ⟨rfl, hl2⟩; have B2 := B1.trans (hl2.mono B1.size); clear hl2) | go_in)
    have hB0 := none_bf0 w2 5
    go_wp2
    go_ret
    show LineR _ _ _ _ (sgL path sum key z l n)
    rw [hL]
    exact ⟨_, _, _, rfl, rfl, Bf.down hB0 B2.size, B2.alloc B2.size _⟩
  go_wp2_with (first | (go_at_call 91; refine (HAO.out _ B1).mono ?_; rintro e w2 ⟨rfl, hl2⟩; refine Hid.out ?_) | go_in)
  refine Lib.hid ?_
  have B2 := B1.trans (hl2.mono B1.size)
  have C2 := C1.trans (hl2.mono C1.size)
  clear hl2 k0 k1 k2 k3 k4 k5 B1 C1
  obtain ⟨⟨k0, k1, k2⟩, k3, k4, k5⟩ := HKC.out _ C2
  cases c3
  · have hL : sgL path sum key z l n = [] := by unfold sgL hokB; rw [hc1, hc2, hc3]; rfl
    go_wp2_with (first | (go_at_call 92; refine (HSO.out _).mono ?_; rintro e w3 ⟨rfl, hw⟩; obtain rfl := hw.symm; clear hw) | go_in)
    have hB0 := none_bf0 w2 5
    go_wp2
    go_ret
    show LineR _ _ _ _ (sgL path sum key z l n)
    rw [hL]
    exact ⟨_, _, _, rfl, rfl, Bf.down hB0 B2.size, B2.alloc B2.size _⟩
  go_wp2_with (first | (go_at_call 92; refine (HSO.out _).mono ?_; rintro e w3 ⟨rfl, hw⟩; obtain rfl := hw.symm; clear hw) | (go_at_call 93; refine (HRO.out _ B2).mono ?_; rintro e w3 ⟨rfl, hl3⟩; refine Hid.out ?_) | go_in)
  refine Lib.hid ?_
  have B3 := B2.trans (hl3.mono B2.size)
  have C3 := C2.trans (hl3.mono C2.size)
  clear hl3 k0 k1 k2 k3 k4 k5 B2 C2
  obtain ⟨⟨k0, k1, k2⟩, k3, k4, k5⟩ := HKC.out _ C3
  cases c4
  · have hL : sgL path sum key z l n = [] := by unfold sgL hokB; rw [hc1, hc2, hc3, hc4]; rfl
    have hB0 := none_bf0 w3 5
    go_wp2
    go_ret
    show LineR _ _ _ _ (sgL path sum key z l n)
    rw [hL]
    exact ⟨_, _, _, rfl, rfl, Bf.down hB0 B3.size, B3.alloc B3.size _⟩
  cases c5
  · have hL : sgL path sum key z l n = [] := by unfold sgL hokB; rw [hc1, hc2, hc3, hc4, hc5]; rfl
    go_wp2_with (first | (go_at_call 94; refine (HCN.out _).mono ?_; rintro e w9 ⟨rfl, hw⟩; obtain rfl := hw.symm; clear hw) | go_in)
    have hB0 := none_bf0 w3 5
    go_wp2
    go_ret
    show LineR _ _ _ _ (sgL path sum key z l n)
    rw [hL]
    exact ⟨_, _, _, rfl, rfl, Bf.down hB0 B3.size, B3.alloc B3.size _⟩
  have hL : sgL path sum key z l n = headL path sum z l n := by unfold sgL hokB; rw [hc1, hc2, hc3, hc4, hc5]; rfl
  have hn3 : n ≤ 300 := by
    have h := hc4
    simp only [rfB, Bool.and_eq_true, decide_eq_true_eq] at h
    exact h.1
  obtain ⟨hz0, hz1⟩ := szB_iff hc3
  obtain ⟨hbn, hbs, hbp, hbu⟩ := HBD.out
  have il : (Lib.itoa z).length ≤ 21 := Lib.itoa_length_le z (by omega) (by omega)
  have pl : path.data.toList.length = path.size := by simp
  have ul : sum.data.toList.length = sum.size := by simp
  obtain ⟨M1, hM1⟩ : ∃ M1, M1 = ln [] [112, 97, 116, 104] path.data.toList := ⟨_, rfl⟩
  obtain ⟨M2, hM2⟩ : ∃ M2, M2 = ln M1 [115, 117, 109] sum.data.toList := ⟨_, rfl⟩
  obtain ⟨M3, hM3⟩ : ∃ M3, M3 = ln M2 [115, 105, 122, 101] (Lib.itoa z) := ⟨_, rfl⟩
  have l1 : M1.length ≤ 1048600 := by rw [hM1, ln_len]; simp; omega
  have l2 : M2.length ≤ 2097300 := by rw [hM2, ln_len]; simp; omega
  have l3 : M3.length ≤ 2097400 := by rw [hM3, ln_len]; simp; omega
  have hHL : headL path sum z l n = refL l M3 n := by unfold headL; rw [hM3, hM2, hM1]
  have hLL : sgL path sum key z l n = refL l M3 n := hL.trans hHL
  have HL1 : Hid (∀ W, (w.alloc o).heap.size ≤ W.heap.size → Calls Tryz.prog 90 #[.slice none 0 0, .slice (some ⟨W.heap.size, 0, none⟩) 2 2] (W.alloc (.cells #[.string ⟨#[112, 97, 116, 104]⟩, .string path] 9)) fun e w' => LineR (w.alloc o).heap.size W w' e M1) := fun W h => by
    have := line_new (w.alloc o).heap.size (.slice none 0 0) [] ⟨#[112, 97, 116, 104]⟩ path W (.inl ⟨rfl, rfl⟩) (by decide) (by have e : (⟨#[112, 97, 116, 104]⟩ : ByteArray).size = 4 := rfl; rw [e, List.length_nil]; omega) h
    rw [hM1]; exact this
  have HL2 : Hid (∀ W g c zz, (w.alloc o).heap.size ≤ W.heap.size → zz = M1.length → Bf (w.alloc o).heap.size W g c M1 → Calls Tryz.prog 90 #[.slice (some ⟨g, 0, none⟩) zz c, .slice (some ⟨W.heap.size, 0, none⟩) 2 2] (W.alloc (.cells #[.string ⟨#[115, 117, 109]⟩, .string sum] 9)) fun e w' => LineR (w.alloc o).heap.size W w' e M2) := fun W g c zz h hz hbf => by
    have := line_new (w.alloc o).heap.size _ M1 ⟨#[115, 117, 109]⟩ sum W (.inr ⟨g, c, zz, rfl, hz, hbf⟩) (by decide) (by have e : (⟨#[115, 117, 109]⟩ : ByteArray).size = 3 := rfl; omega) h
    rw [hM2]; exact this
  obtain ⟨T, hT⟩ : ∃ T : ByteArray, T = ⟨(Lib.itoa z).toArray⟩ := ⟨_, rfl⟩
  have e2 : T.size = (Lib.itoa z).length := by subst hT; simp [ByteArray.size]
  have hTl : T.data.toList = Lib.itoa z := by subst hT; rfl
  have HL3 : Hid (∀ W g c zz, (w.alloc o).heap.size ≤ W.heap.size → zz = M2.length → Bf (w.alloc o).heap.size W g c M2 → Calls Tryz.prog 90 #[.slice (some ⟨g, 0, none⟩) zz c, .slice (some ⟨W.heap.size, 0, none⟩) 2 2] (W.alloc (.cells #[.string ⟨#[115, 105, 122, 101]⟩, .string T] 9)) fun e w' => LineR (w.alloc o).heap.size W w' e M3) := fun W g c zz h hz hbf => by
    have := line_new (w.alloc o).heap.size _ M2 ⟨#[115, 105, 122, 101]⟩ T W (.inr ⟨g, c, zz, rfl, hz, hbf⟩) (by decide) (by have e : (⟨#[115, 105, 122, 101]⟩ : ByteArray).size = 4 := rfl; omega) h
    rw [hTl] at this
    rw [hM3]; exact this
  have HFM : Hid (∀ W, Below w.heap.size w W → Calls Tryz.prog 95 #[.int .i64 z, .int .i64 10] W fun e w' => e = .returned (.string T) ∧ Below W.heap.size W w') := fun W h => by subst hT; exact fmt_any z hz0 hz1 W (HPT.out.below h)
  have HLR : Hid (∀ W g c zz i, i < n → (w.alloc o).heap.size ≤ W.heap.size → zz = (refL l M3 i).length → Bf (w.alloc o).heap.size W g c (refL l M3 i) → Calls Tryz.prog 90 #[.slice (some ⟨g, 0, none⟩) zz c, .slice (some ⟨W.heap.size, 0, none⟩) 2 2] (W.alloc (.cells #[.string ⟨#[114, 101, 102]⟩, .string (st.atS l i)] 9)) fun e w' => LineR (w.alloc o).heap.size W w' e (refL l M3 (i + 1))) := fun W g c zz i hi h hz hbf => by
    have h1 := refL_len l M3 n hbs i (by omega)
    have h2 := hbs i hi
    exact line_new (w.alloc o).heap.size _ (refL l M3 i) ⟨#[114, 101, 102]⟩ (st.atS l i) W (.inr ⟨g, c, zz, rfl, hz, hbf⟩) (by decide) (by have e : (⟨#[114, 101, 102]⟩ : ByteArray).size = 3 := rfl; omega) h
  have HLL : Hid (sgL path sum key z l n = refL l M3 n) := hLL
  clear hL hM1 hM2 hM3 l1 l2 l3 hHL il pl ul hz0 hz1 hbs hbp hbu hc1 hc2 hc3 hc4 hc5 e2 hLL HRW HAO HSO HRO HBD HPT
  clear hT hTl
  go_wp2_with (first | (go_at_call 94; refine (HCN.out _).mono ?_; rintro e w9 ⟨rfl, hw⟩; obtain rfl := hw.symm; clear hw) | (go_at_call 90; refine (HL1.out _ C3.size).mono ?_; rintro e w4 ⟨g4, cc4, z4, rfl, rfl, hbf4, hl4⟩; refine Hid.out ?_) | go_in)
  refine Lib.hid ?_
  have C4 := C3.trans hl4
  have HB4 : Hid (Bf (w.alloc o).heap.size w4 g4 cc4 M1) := hbf4
  clear hbf4 hl4 k0 k1 k2 k3 k4 k5 B3 C3
  obtain ⟨⟨k0, k1, k2⟩, k3, k4, k5⟩ := HKC.out _ C4
  go_wp2_with (first | (go_at_call 90; refine (HL2.out _ _ _ _ C4.size rfl HB4.out).mono ?_; rintro e w5 ⟨g5, cc5, z5, rfl, rfl, hbf5, hl5⟩; refine Hid.out ?_) | go_in)
  refine Lib.hid ?_
  have C5 := C4.trans hl5
  have HB5 : Hid (Bf (w.alloc o).heap.size w5 g5 cc5 M2) := hbf5
  clear hbf5 hl5 k0 k1 k2 k3 k4 k5 C4 HB4
  obtain ⟨⟨k0, k1, k2⟩, k3, k4, k5⟩ := HKC.out _ C5
  have B5 := HBW.out _ C5
  go_wp2_with (first | (go_at_call 95; refine (HFM.out _ B5).mono ?_; rintro e w6 ⟨rfl, hl6⟩; refine Hid.out ?_) | go_in)
  refine Lib.hid ?_
  have C6 := C5.trans (hl6.mono C5.size)
  have HB6 : Hid (Bf (w.alloc o).heap.size w6 g5 cc5 M2) := HB5.out.below hl6
  clear hl6 k0 k1 k2 k3 k4 k5 C5 B5 HB5
  obtain ⟨⟨k0, k1, k2⟩, k3, k4, k5⟩ := HKC.out _ C6
  go_wp2_with (first | (go_at_call 90; refine (HL3.out _ _ _ _ C6.size rfl HB6.out).mono ?_; rintro e w7 ⟨g7, cc7, z7, rfl, rfl, hbf7, hl7⟩; refine Hid.out ?_) | go_in)
  refine Lib.hid ?_
  have C7 := C6.trans hl7
  have HB7 : Hid (Bf (w.alloc o).heap.size w7 g7 cc7 M3) := hbf7
  clear hbf7 hl7 k0 k1 k2 k3 k4 k5 C6 HB6
  obtain ⟨⟨k0, k1, k2⟩, k3, k4, k5⟩ := HKC.out _ C7
  go_wp2_with fail
  go_loopw [5, 7, 59] (fun va _ vi wr => ∃ i g c zz : Nat, i ≤ n ∧ vi = .int .i64 (i : Int) ∧ va = .slice (some ⟨g, 0, none⟩) zz c ∧ zz = (refL l M3 i).length ∧ Bf (w.alloc o).heap.size wr g c (refL l M3 i) ∧ Below (w.alloc o).heap.size (w.alloc o) wr) (fun _ _ vi _ => n - (intOf vi).toNat)
  case atStart => exact ⟨0, g7, cc7, _, Nat.zero_le _, rfl, rfl, rfl, HB7.out, C7⟩
  case round =>
    clear HB7 HL1 HL2 HL3 HFM k0 k1 k2 k3 k4 k5
    obtain ⟨i, g, c, zz, hi, rfl, rfl, rfl, hbf, C⟩ := hrel
    have HB : Hid (Bf (w.alloc o).heap.size wr g c (refL l M3 i)) := hbf
    clear hbf
    have B := HBW.out _ C
    by_cases hil : i < n
    · have hil' : (i : Int) < (n : Int) := by omega
      obtain ⟨b, off, rfl, hc⟩ : ∃ b off, a = some ⟨b, off, none⟩ ∧ ∀ j, j < n → w.cell? ⟨b, off + j, none⟩ = some (.string (st.atS l j)) := by
        rcases HSS.out with h | ⟨b, off, e, h⟩
        · omega
        · exact ⟨b, off, e, h⟩
      have kk : wr.cell? ⟨b, off + i, none⟩ = some (.string (st.atS l i)) := (B.cell (World.block_lt_of_cell? _ _ (hc i hil))).trans (hc i hil)
      have HI := HLR.out wr g c _ i hil C.size rfl HB.out
      obtain ⟨x, hx⟩ : ∃ x, st.atS l i = x := ⟨_, rfl⟩
      rw [hx] at HI kk
      clear hx hc HLR HB
      go_wp2_with (first | (go_at_call 90; refine HI.mono ?_; rintro e w8 ⟨g8, cc8, z8, rfl, rfl, hbf8, hl8⟩; refine Hid.out ?_) | go_in)
      refine Lib.hid ?_
      have C8 := C.trans hl8
      have HB8 : Hid (Bf (w.alloc o).heap.size w8 g8 cc8 (refL l M3 (i + 1))) := hbf8
      clear hbf8 hl8 HI
      go_wp2
      go_roundw
      case rel => exact ⟨i + 1, g8, cc8, _, by omega, by go_num, rfl, rfl, HB8.out, C8⟩
      case measure => simp [intOf]; omega
    · obtain rfl : i = n := by omega
      go_wp2
      go_ret
      show LineR _ _ _ _ (sgL path sum key z l i)
      rw [HLL.out]
      exact ⟨g, c, _, rfl, rfl, Bf.down HB.out (by simp), B⟩

end Go.Proofs.YtkmhaemcpakobaaGreatDoor.mt
