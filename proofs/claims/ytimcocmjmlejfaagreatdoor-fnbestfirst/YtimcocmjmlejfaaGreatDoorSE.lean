import Derived.Test.YtimcocmjmlejfaaGreatDoorSD
namespace Go.Proofs.YtimcocmjmlejfaaGreatDoor.sv
open Go.ChangeShapes Go.WideShapes Go.ChangeAt Go.RowKit Go.Deep Go.Proofs.YtimcocmjmlejfaaGreatDoor.vr
set_option linter.unusedVariables false
set_option linter.unusedSimpArgs false

theorem heap_set {w : World} {b i : Nat} {v : Value} {cs : Array Value} {t : TypeId} (h : w.heap[b]? = some (.cells cs t (0, 0))) : (w.setCell ⟨b, i, none⟩ v).heap[b]? = some (.cells (cs.setIfInBounds i v) t (0, 0)) := by
  simp [World.setCell, Array.getElem?_modify, h]

theorem heap_oth {w : World} {b c i : Nat} {v : Value} (h : c ≠ b) : (w.setCell ⟨b, i, none⟩ v).heap[c]? = w.heap[c]? := by
  simp only [World.setCell]
  rw [Array.getElem?_modify, if_neg (fun e => h e.symm)]

theorem cell_heap {w : World} {b i : Nat} {cs : Array Value} {t : TypeId} (h : w.heap[b]? = some (.cells cs t (0, 0))) : w.cell? ⟨b, i, none⟩ = cs[i]? := by simp [World.cell?, h]
theorem frozen_heap {w : World} {b i : Nat} {cs : Array Value} {t : TypeId} (h : w.heap[b]? = some (.cells cs t (0, 0))) : w.frozen? ⟨b, i, none⟩ = false := by simp [World.frozen?, h]

theorem RowI.kept {w w' : World} {a : Option Addr} {n c : Nat} {ps : List Pt} (h : RowI w (.slice a n c) ps) (hk : ∀ ad, a = some ad → w'.heap[ad.block]? = w.heap[ad.block]?) : RowI w' (.slice a n c) ps := by
  obtain ⟨a', cap, e, hc, h⟩ := h
  obtain ⟨rfl, rfl, rfl⟩ : a = a' ∧ n = ps.length ∧ c = cap := by simpa using e
  refine ⟨a, c, rfl, hc, ?_⟩
  rcases h with h | ⟨bb, ha, h⟩
  · exact .inl h
  · exact .inr ⟨bb, ha, fun k p j u h1 h2 => (World.cell?_of_block (a := ⟨bb, k * 3 + j, none⟩) (hk ⟨bb, 0, none⟩ ha)).trans (h k p j u h1 h2)⟩

theorem infoV : (Tryz.prog.info? 57).map (fun i => (i.zero, i.size, i.bytes)) = some (some (.slice none 0 0), 1, 24) := by kernel_rfl

theorem mkv_run (n : Nat) (hn : n ≤ 1000000) (w : World) : (Instr.makeSlice 45 (.int .i64 (n : Int)) (.int .i64 (n : Int))).run Tryz.prog w = .ok (.slice (some ⟨w.heap.size, 0, none⟩) n n) (w.alloc (.cells (madeCells (Value.slice none 0 0).cells n) 57)) := by
  obtain ⟨i, hi, hz, hs, hb⟩ := info_parts infoV
  have hr := run_make (P := Tryz.prog) w 45 57 i _ Tryz.underlying45 hi hz .i64 .i64 n n (by omega) (by omega) (by rw [hb]; omega) (by omega)
  simp only [Int.toNat_natCast, hs, Nat.mul_one] at hr
  exact hr

theorem ret_cell2 {fn : Func} {i : Tmp} (hf : fn.results = #[.cell i 47]) {tmps : Array Value} {W : World} {b : Nat} {v0 v1 : Value} {R : Ending → World → Prop} (h4 : tmps.getD i undef = .pointer (some ⟨b, 0, none⟩))
    (k0 : W.cell? ⟨b, 0, none⟩ = some v0) (k1 : W.cell? ⟨b, 1, none⟩ = some v1) (hR : R (.returned (.agg #[v0, v1])) W) :
    bodyPost Tryz.prog fn R Exit.ret { tmps := tmps, defers := [] } W := by
  have h4' : tmps[i]?.getD undef = .pointer (some ⟨b, 0, none⟩) := by simpa using h4
  exact bodyPost_ret (v := .agg #[v0, v1]) (by simp [results, hf, go_sem, h4', k0, k1]) rfl hR

/-- An append of a place, and where the row lies then. -/
theorem app_at (w : World) {ops : Array Oper} {rest : List Oper} {o : Oper} {a : Act} {Q : Exit → Act → World → Prop} (hgd : o.guard = none) (s x : Operand)
    (ho : o.op = .call { callee := .builtin .append, args := #[s, x], argTypes := #[44, 44] })
    (base : Nat) (v : Value) (xs : List Nat) (hs : a.eval s = v) (hown : w.ownsRow base 3 1 v xs.length (xs.map iv))
    (ad : Addr) (m c : Nat) (ys : List Nat) (hx : a.eval x = .slice (some ad) m c) (hm : ys.length = m) (hnews : ∀ j u, (ys.map iv)[j]? = some u → w.cell? (ad.add j) = some u) (hlen : xs.length + m ≤ 1000000) (hbase : base ≤ w.heap.size)
    (h : ∀ a' n' c' w', w'.ownsRow base 3 1 (.slice a' n' c') (xs ++ ys).length ((xs ++ ys).map iv) → w.grownBy w' v.ownBlock → ((Value.slice a' n' c').ownBlock = v.ownBlock ∨ (Value.slice a' n' c').ownBlock = some w.heap.size) → wpList Tryz.prog ops Q rest (a.put o.dst (.slice a' n' c')) w') : wpList Tryz.prog ops Q (o :: rest) a w := by
  obtain ⟨i0, hi, hz0, hz1, hz2⟩ := info_parts infoI
  refine wpList_append_own_at w hgd s x 44 ho base 3 i0 _ 1 8 Tryz.underlying44 hi hz0 hz1 hz2 rfl (by omega) v xs.length (xs.map iv) hs hown ad m c (ys.map iv) hx (by simpa using hm) hnews (iv_one _) (by unfold maxLen; omega) (by omega) hbase ?_
  intro v' w' h1 h2 h3 h4
  obtain ⟨a', c', rfl⟩ := own_shape h1
  exact h _ _ _ _ (by rw [List.length_append, List.map_append, hm]; exact h1) h2 h4

/-- The state of versionsAmong ahead of place k. -/
structure Am (w wr : World) (xs : List (List UInt8)) (k : Nat) (a : Option Addr) (n c : Nat) (K : Nat → Prop) : Prop where
  list : wr.heap[w.heap.size + 1 + 1]? = some (.cells #[.slice a n c, .slice (some ⟨w.heap.size + 1, 0, none⟩) xs.length xs.length] 47 (0, 0))
  res : ∃ x y, wr.heap[w.heap.size]? = some (.cells #[x, y] 47 (0, 0))
  row : ∃ cs, wr.heap[w.heap.size + 1]? = some (.cells cs 57 (0, 0)) ∧ cs.size = xs.length
  own : wr.ownsRow (w.heap.size + 3) 3 1 (.slice a n c) (plc xs k).length ((plc xs k).map iv)
  at_ : AtR wr (w.heap.size + 1) K xs k
  ks : ∀ b, K b → w.heap.size + 3 ≤ b ∧ b < wr.heap.size ∧ (Value.slice a n c).ownBlock ≠ some b
  bel : Below w.heap.size w wr
  big : w.heap.size + 3 ≤ wr.heap.size

theorem own_lt {w : World} {base e size n : Nat} {v : Value} {xs : List Value} (h : w.ownsRow base e size v n xs) {b : Nat} (hb : v.ownBlock = some b) : base ≤ b ∧ b < w.heap.size := by
  obtain ⟨hl, h⟩ := h
  rcases h with ⟨e, _⟩ | ⟨g, cap, cur, rfl, hg, hh, _⟩
  · subst e; cases hb
  · obtain rfl : g = b := by simpa [Value.ownBlock] using hb
    exact ⟨hg, (Array.getElem?_eq_some_iff.1 hh).1⟩

theorem Am.still {w wr w1 : World} {xs : List (List UInt8)} {k n c : Nat} {a : Option Addr} {K : Nat → Prop} (h : Am w wr xs k a n c K) (hb : Below wr.heap.size wr w1) : Am w w1 xs k a n c K := by
  have hs := hb.size
  have hbig := h.big
  refine ⟨?_, ?_, ?_, own_below h.own hb, fun i hi => ?_, fun b hb' => ?_, h.bel.trans (hb.mono h.bel.size), by omega⟩
  · rw [hb.block _ (by omega)]; exact h.list
  · obtain ⟨x, y, e⟩ := h.res
    exact ⟨x, y, by rw [hb.block _ (by omega)]; exact e⟩
  · obtain ⟨cs, e, q⟩ := h.row
    exact ⟨cs, by rw [hb.block _ (by omega)]; exact e, q⟩
  · obtain ⟨a1, n1, c1, e, r⟩ := h.at_ i hi
    refine ⟨a1, n1, c1, (hb.cell (p := ⟨_, _, none⟩) (by simp; omega)).trans e, fun h1 h2 => ⟨RowC.below (r h1 h2).1 hb, (r h1 h2).2⟩⟩
  · obtain ⟨x1, x2, x3⟩ := h.ks b hb'
    exact ⟨x1, by omega, x3⟩

theorem plc_no {xs : List (List UInt8)} {k : Nat} (h : okP xs k = false) : plc xs (k + 1) = plc xs k := by rw [plc_succ, h]; simp
theorem plc_yes {xs : List (List UInt8)} {k : Nat} (h : okP xs k = true) : plc xs (k + 1) = plc xs k ++ [k] := by rw [plc_succ, h]; simp

theorem Am.skip {w wr : World} {xs : List (List UInt8)} {k n c : Nat} {a : Option Addr} {K : Nat → Prop} (h : Am w wr xs k a n c K) (ho : okP xs k = false) : Am w wr xs (k + 1) a n c K := by
  refine ⟨h.list, h.res, h.row, by rw [plc_no ho]; exact h.own, fun i hi => ?_, h.ks, h.bel, h.big⟩
  obtain ⟨a1, n1, c1, e, r⟩ := h.at_ i hi
  refine ⟨a1, n1, c1, e, fun h1 h2 => ?_⟩
  by_cases hik : i = k
  · subst hik; rw [ho] at h2; cases h2
  · exact r (by omega) h2

/-- One version more: read into w1, its place appended in w2, both stored. -/
theorem Am.more {w w0 w1 w2 : World} {xs : List (List UInt8)} {k n c a1n a1c n' c' : Nat} {a a1 a' : Option Addr} {K : Nat → Prop} (h : Am w w1 xs k a n c K) (hk : k < xs.length) (ho : okP xs k = true) (h0 : w0.heap.size ≤ w1.heap.size) (hK0 : ∀ b, K b → b < w0.heap.size) (hw0 : w.heap.size + 3 ≤ w0.heap.size) (hv0 : ∀ b, (Value.slice a n c).ownBlock = some b → b < w0.heap.size)
    (hr : RowI w1 (.slice a1 a1n a1c) (pl xs k)) (hr0 : ∀ ad, a1 = some ad → w0.heap.size ≤ ad.block ∧ ad.block < w1.heap.size) (o : Obj)
    (hown : w2.ownsRow (w.heap.size + 3) 3 1 (.slice a' n' c') (plc xs k ++ [k]).length ((plc xs k ++ [k]).map iv)) (hg : (w1.alloc o).grownBy w2 (Value.slice a n c).ownBlock) (hat : (Value.slice a' n' c').ownBlock = (Value.slice a n c).ownBlock ∨ (Value.slice a' n' c').ownBlock = some (w1.alloc o).heap.size) :
    Am w ((w2.setCell ⟨w.heap.size + 1 + 1, 0, none⟩ (.slice a' n' c')).setCell ⟨w.heap.size + 1, k, none⟩ (.slice a1 a1n a1c)) xs (k + 1) a' n' c' (fun b => K b ∨ ∃ ad, a1 = some ad ∧ ad.block = b) := by
  have hbig := h.big
  have hsz : (w1.alloc o).heap.size = w1.heap.size + 1 := by simp
  have hs2 := hg.size
  have keep : ∀ b, b < w1.heap.size → (∀ q, (Value.slice a n c).ownBlock = some q → q ≠ b) → w2.heap[b]? = w1.heap[b]? := fun b hb hne => by
    rw [hg.block b (by omega) (fun e => hne b e.symm rfl)]
    exact ((Below.refl w1.heap.size w1).alloc (Nat.le_refl _) o).block b hb
  have hvo : ∀ q, (Value.slice a n c).ownBlock = some q → w.heap.size + 3 ≤ q := fun q hq => (own_lt h.own hq).1
  have klist := (keep (w.heap.size + 1 + 1) (by omega) (fun q hq => by have := hvo q hq; omega)).trans h.list
  obtain ⟨x, y, hres⟩ := h.res
  have kres := (keep w.heap.size (by omega) (fun q hq => by have := hvo q hq; omega)).trans hres
  obtain ⟨cs, hrow, hcs⟩ := h.row
  have krow := (keep (w.heap.size + 1) (by omega) (fun q hq => by have := hvo q hq; omega)).trans hrow
  have kall : ∀ b, w.heap.size + 3 ≤ b → ((w2.setCell ⟨w.heap.size + 1 + 1, 0, none⟩ (.slice a' n' c')).setCell ⟨w.heap.size + 1, k, none⟩ (.slice a1 a1n a1c)).heap[b]? = w2.heap[b]? := fun b hb => by
    rw [heap_oth (by omega), heap_oth (by omega)]
  have krow2 : ((w2.setCell ⟨w.heap.size + 1 + 1, 0, none⟩ (.slice a' n' c')).setCell ⟨w.heap.size + 1, k, none⟩ (.slice a1 a1n a1c)).heap[w.heap.size + 1]? = some (.cells (cs.setIfInBounds k (.slice a1 a1n a1c)) 57 (0, 0)) := heap_set (by rw [heap_oth (by omega)]; exact krow)
  refine ⟨?_, ⟨x, y, ?_⟩, ⟨_, krow2, by simpa using hcs⟩, ?_, fun i hi => ?_, fun b hb => ?_, ?_, by simp; omega⟩
  · rw [heap_oth (by omega), heap_set klist]
    simp
  · rw [heap_oth (by omega), heap_oth (by omega)]; exact kres
  · rw [plc_yes ho]
    exact ownsRow_setCell_below (ownsRow_setCell_below hown (a := ⟨w.heap.size + 1 + 1, 0, none⟩) (by simp) _) (a := ⟨w.heap.size + 1, k, none⟩) (by simp) _
  · by_cases hik : i = k
    · subst hik
      refine ⟨a1, a1n, a1c, ?_, fun _ _ => ⟨RowI.kept hr (fun ad e => ?_), fun ad e => .inr ⟨ad, e, rfl⟩⟩⟩
      · rw [cell_heap krow2]; simp [hcs, hi]
      · obtain ⟨q1, q2⟩ := hr0 ad e
        rw [kall _ (by omega)]
        exact keep _ q2 (fun q hq => by have := hv0 q hq; omega)
    · obtain ⟨a2, n2, c2, e, r⟩ := h.at_ i hi
      refine ⟨a2, n2, c2, ?_, fun h1 h2 => ?_⟩
      · rw [cell_heap krow2]
        rw [cell_heap hrow] at e
        rw [Array.getElem?_setIfInBounds, if_neg (fun e => hik e.symm)]
        exact e
      · obtain ⟨r1, r2⟩ := r (by omega) h2
        refine ⟨RowI.kept r1 (fun ad e => ?_), fun ad e => .inl (r2 ad e)⟩
        obtain ⟨q1, q2, q3⟩ := h.ks _ (r2 ad e)
        rw [kall _ q1]
        exact keep _ q2 (fun q hq hqe => q3 (by rw [hq, hqe]))
  · have hlt : w.heap.size + 3 ≤ b ∧ b < w1.heap.size ∧ (Value.slice a n c).ownBlock ≠ some b := by
      rcases hb with hb | ⟨ad, e, rfl⟩
      · exact h.ks b hb
      · obtain ⟨q1, q2⟩ := hr0 ad e
        exact ⟨by omega, q2, fun hq => by have := hv0 _ hq; omega⟩
    refine ⟨hlt.1, by simp; omega, fun e => ?_⟩
    rcases hat with h1 | h1
    · exact hlt.2.2 (h1.symm.trans e)
    · rw [h1] at e
      have := Option.some.inj e
      omega
  · exact (((h.bel.alloc h.bel.size o).grown hg (by simp; have := h.bel.size; omega) (fun q hq => by have := hvo q hq; omega)).setCell (by simp; omega) _).setCell (by simp) _

end Go.Proofs.YtimcocmjmlejfaaGreatDoor.sv
