import Derived.Test.YtecpebpdillhlaaDoorWX
namespace Go.Proofs.YtecpebpdillhlaaDoor.dr
open Go.ChangeShapes Go.WideShapes Go.ChangeAt Go.RowKit Go.Deep
set_option linter.unusedVariables false
set_option linter.unusedSimpArgs false

/-- A row of bytes with room behind it that can be written. -/
structure CRow (W : World) (g k cap : Nat) : Prop where
  cells : ∀ j, j < k → ∃ x : Nat, x < 256 ∧ W.cell? ⟨g, j, none⟩ = some (.int .u8 (x : Int))
  spare : ∀ j, j < cap → (W.cell? ⟨g, j, none⟩).isSome = true ∧ W.frozen? ⟨g, j, none⟩ = false
  le : k ≤ cap
  max : cap ≤ maxLen
  lt : g < W.heap.size

theorem CRow.of_block {W W' : World} {g k cap : Nat} (h : CRow W g k cap) (hb : W'.heap[g]? = W.heap[g]?) (hs : W.heap.size ≤ W'.heap.size) : CRow W' g k cap := by
  have e1 : ∀ j, W'.cell? ⟨g, j, none⟩ = W.cell? ⟨g, j, none⟩ := fun j => by simp only [World.cell?, hb]
  have e2 : ∀ j, W'.frozen? ⟨g, j, none⟩ = W.frozen? ⟨g, j, none⟩ := fun j => by simp only [World.frozen?, hb]
  exact ⟨fun j hj => by rw [e1]; exact h.cells j hj, fun j hj => by rw [e1, e2]; exact h.spare j hj, h.le, h.max, Nat.lt_of_lt_of_le h.lt hs⟩

theorem CRow.draws {W W' : World} {g k cap c : Nat} {a : Option Addr} {n cp : Nat} (h : CRow W g k cap) (d : Draws W W' c a n cp) (hne : g ≠ c) : CRow W' g k cap :=
  h.of_block (d.grown.block g h.lt (fun e => hne (Option.some.inj e))) d.grown.size

theorem CRow.alloc {W : World} {g k cap : Nat} (h : CRow W g k cap) (o : Obj) : CRow (W.alloc o) g k cap :=
  h.of_block (Below.heap_alloc W o g h.lt) (by simp)

theorem cell_far (W : World) (g : Nat) (v : Value) {i j : Nat} (h : ¬ j = i) : (W.setCell ⟨g, i, none⟩ v).cell? ⟨g, j, none⟩ = W.cell? ⟨g, j, none⟩ := by
  apply World.cell?_setCell_other
  intro e
  cases e
  exact h rfl

theorem CRow.set {W : World} {g k cap i x : Nat} (h : CRow W g k cap) (hi : i < k) (hx : x < 256) : CRow (W.setCell ⟨g, i, none⟩ (.int .u8 (x : Int))) g k cap := by
  have hs := (h.spare i (by have := h.le; omega)).1
  refine ⟨fun j hj => ?_, fun j hj => ?_, h.le, h.max, by simpa using h.lt⟩
  · by_cases e : j = i
    · subst e
      exact ⟨x, hx, World.cell?_setCell_same' _ _ _ hs⟩
    · rw [cell_far _ _ _ e]
      exact h.cells j hj
  · rw [World.frozen?_setCell]
    refine ⟨?_, (h.spare j hj).2⟩
    by_cases e : j = i
    · subst e
      rw [World.cell?_setCell_same' _ _ _ hs]; rfl
    · rw [cell_far _ _ _ e]
      exact (h.spare j hj).1

theorem crow_conv {w W1 : World} {cap : Nat} {S : ByteArray} (h : ConvRow w W1 cap S) : CRow W1 w.heap.size S.size cap :=
  ⟨fun j hj => ⟨S[j].toNat, S[j].toNat_lt, h.cells j hj⟩, h.spare, h.le, h.max, by have := h.size; omega⟩

theorem crow_cell {W : World} {g k cap : Nat} (h : CRow W g k cap) (i : Nat) (hi : i < k) : ∃ x : Nat, W.cell? ⟨g, i, none⟩ = some (.int .u8 (x : Int)) ∧ W.frozen? ⟨g, i, none⟩ = false := by
  obtain ⟨x, _, hc⟩ := h.cells i hi
  exact ⟨x, hc, (h.spare i (by have := h.le; omega)).2⟩

theorem crow_string {W : World} {g k cap : Nat} (h : CRow W g k cap) : ∃ s : ByteArray, s.size = k ∧ (convert 22 9 (.slice (some ⟨g, 0, none⟩) k cap)).run Tryd.prog W = .ok (.string s) W := by
  have hx : ∀ j : Fin k, ∃ x : Nat, x < 256 ∧ W.cell? ⟨g, j.1, none⟩ = some (.int .u8 (x : Int)) := fun j => h.cells j.1 j.2
  let f : Fin k → UInt8 := fun j => UInt8.ofNat (hx j).choose
  let s : ByteArray := ⟨(List.ofFn f).toArray⟩
  have hs : s.size = k := by simp [s, ByteArray.size]
  have hb : Lib.Bytes W g 0 s := fun i hi => by
    have hik : i < k := by omega
    have hc := (hx ⟨i, hik⟩).choose_spec
    have e : ((UInt8.ofNat (hx ⟨i, hik⟩).choose).toNat : Int) = ((hx ⟨i, hik⟩).choose : Int) := by
      have := hc.1
      simp [UInt8.toNat_ofNat']
      omega
    have e2 : s[i] = UInt8.ofNat (hx ⟨i, hik⟩).choose := by simp [s, f, ByteArray.getElem_eq_getElem_data]
    rw [Nat.zero_add, e2, e]
    exact hc.2
  have hr := Lib.run_convert_whole (P := Tryd.prog) W 22 5 9 Tryd.underlying22 Tryd.underlying5 Tryd.underlying9 _ _ _ hb cap
  rw [hs] at hr
  exact ⟨s, hs, hr⟩

theorem crow_new (W' : World) (olds : List Value) (k G y : Nat) (holen : olds.length = k) (hol : ∀ j, j < k → ∃ x : Nat, x < 256 ∧ olds[j]? = some (.int .u8 (x : Int))) (hy : y < 256) (hge : k + 1 ≤ G) (hle : G ≤ maxLen) :
    CRow (W'.drew.alloc (.cells (olds.toArray ++ [Value.int .u8 (y : Int)].toArray ++ Builtin.zeroCells (Value.int .u8 0).cells (G - (k + 1))) 5)) W'.heap.size (k + 1) G := by
  have hcell : ∀ j, (W'.drew.alloc (.cells (olds.toArray ++ [Value.int .u8 (y : Int)].toArray ++ Builtin.zeroCells (Value.int .u8 0).cells (G - (k + 1))) 5)).cell? ⟨W'.heap.size, j, none⟩ = (olds.toArray ++ [Value.int .u8 (y : Int)].toArray ++ Builtin.zeroCells (Value.int .u8 0).cells (G - (k + 1)))[j]? := fun j => World.cell?_alloc_new W'.drew _ _ j
  have hfr : ∀ j, (W'.drew.alloc (.cells (olds.toArray ++ [Value.int .u8 (y : Int)].toArray ++ Builtin.zeroCells (Value.int .u8 0).cells (G - (k + 1))) 5)).frozen? ⟨W'.heap.size, j, none⟩ = false := fun j => World.frozen?_alloc_new W'.drew _ _ j
  have hzc : (Builtin.zeroCells (Value.int .u8 0).cells (G - (k + 1))).size = G - (k + 1) := by simp [Builtin.zeroCells, Value.cells]
  have hlt : W'.heap.size < (W'.drew.alloc (.cells (olds.toArray ++ [Value.int .u8 (y : Int)].toArray ++ Builtin.zeroCells (Value.int .u8 0).cells (G - (k + 1))) 5)).heap.size := by
    rw [World.size_alloc]
    show W'.heap.size < W'.heap.size + 1
    omega
  refine ⟨fun j hj => ?_, fun j hj => ⟨?_, hfr j⟩, hge, hle, hlt⟩
  · rw [hcell, Array.getElem?_append_left (by simp; omega)]
    by_cases ej : j = k
    · subst ej
      exact ⟨y, hy, by rw [Array.getElem?_append_right (by simp [holen])]; simp [holen]⟩
    · obtain ⟨x, hx1, hx2⟩ := hol j (by omega)
      refine ⟨x, hx1, ?_⟩
      rw [Array.getElem?_append_left (by simp; omega)]
      simpa using hx2
  · rw [hcell, Array.getElem?_eq_getElem (by simp [hzc, holen]; omega)]
    rfl

/-- 'b = append(b, byte)' on such a row. -/
theorem crow_app {W : World} {g k cap : Nat} (h : CRow W g k cap) (hk : k ≤ 1000000) (y : Nat) (hy : y < 256) : ∃ g' cap' W2, (∀ ty, (Builtin.append_ #[22, 22] ty #[.slice (some ⟨g, 0, none⟩) k cap, .slice (some ⟨W.heap.size, 0, none⟩) 1 1]).run Tryd.prog (W.alloc (.cells #[.int .u8 (y : Int)] 5)) = .ok (.slice (some ⟨g', 0, none⟩) (k + 1) cap') W2) ∧
    CRow W2 g' (k + 1) cap' ∧ (g' = g ∨ W.heap.size ≤ g') ∧ (∀ B, B ≤ g → Below B W W2) := by
  obtain ⟨i, hi, hzz⟩ := Option.map_eq_some_iff.1 info5
  simp only [Prod.mk.injEq] at hzz
  obtain ⟨hz, hsz, hby⟩ := hzz
  have h' := h.alloc (.cells #[.int .u8 (y : Int)] 5)
  have hn : ∀ j u, [Value.int .u8 (y : Int)][j]? = some u → (W.alloc (.cells #[.int .u8 (y : Int)] 5)).cell? ((⟨W.heap.size, 0, none⟩ : Addr).add j) = some u := one_new _ _ _
  have hlt := h.lt
  by_cases hroom : k + 1 ≤ cap
  · have hr := fun ty => run_append_room_cells (P := Tryd.prog) (W.alloc (.cells #[.int .u8 (y : Int)] 5)) 22 ty 5 i Tryd.underlying22 hi g 0 k cap ⟨W.heap.size, 0, none⟩ 1 1 [.int .u8 (y : Int)] (by rw [hsz]; rfl) hn (fun u hu => by simp at hu; subst hu; rfl) hroom
      (fun j hj => (h'.spare _ (by rw [hsz]; simp at hj; omega)).1) (fun j hj => (h'.spare _ (by rw [hsz]; simp at hj; omega)).2)
    simp only [hsz, Nat.mul_one, Nat.zero_add] at hr
    have hsp := (h'.spare k (by omega)).1
    refine ⟨g, cap, _, hr, ?_, .inl rfl, ?_⟩
    · have e : ((W.alloc (.cells #[.int .u8 (y : Int)] 5)).setCells g k [.int .u8 (y : Int)]) = (W.alloc (.cells #[.int .u8 (y : Int)] 5)).setCell ⟨g, k, none⟩ (.int .u8 (y : Int)) := rfl
      rw [e]
      refine ⟨fun j hj => ?_, fun j hj => ?_, hroom, h.max, by have := h'.lt; simpa using this⟩
      · by_cases ej : j = k
        · subst ej
          exact ⟨y, hy, World.cell?_setCell_same' _ _ _ hsp⟩
        · rw [cell_far _ _ _ ej]
          exact h'.cells j (by omega)
      · rw [World.frozen?_setCell]
        refine ⟨?_, (h'.spare j hj).2⟩
        by_cases ej : j = k
        · subst ej
          rw [World.cell?_setCell_same' _ _ _ hsp]; rfl
        · rw [cell_far _ _ _ ej]
          exact (h'.spare j hj).1
    · intro B hB
      exact below_setCells hB _ _ _ ((Below.refl _ W).alloc (by omega) _)
  · have hx : ∀ j : Fin k, ∃ x : Nat, x < 256 ∧ (W.alloc (.cells #[.int .u8 (y : Int)] 5)).cell? ⟨g, j.1, none⟩ = some (.int .u8 (x : Int)) := fun j => h'.cells j.1 j.2
    let olds : List Value := List.ofFn fun j : Fin k => Value.int .u8 ((hx j).choose : Int)
    have holen : olds.length = k := by simp [olds]
    have hol : ∀ j (hj : j < k), olds[j]? = some (Value.int .u8 ((hx ⟨j, hj⟩).choose : Int)) := fun j hj => by simp [olds, hj]
    have holds : ∀ j u, olds[j]? = some u → (W.alloc (.cells #[.int .u8 (y : Int)] 5)).cell? ((⟨g, 0, none⟩ : Addr).add j) = some u := by
      intro j u hj
      have hj' : j < k := by have := (List.getElem?_eq_some_iff.1 hj).1; omega
      rw [hol j hj'] at hj
      cases hj
      rw [addr_add, Nat.zero_add]
      exact (hx ⟨j, hj'⟩).choose_spec.2
    have hr : ∀ ty, (Builtin.append_ #[22, 22] ty #[.slice (some ⟨g, 0, none⟩) k cap, .slice (some ⟨W.heap.size, 0, none⟩) 1 1]).run Tryd.prog (W.alloc (.cells #[.int .u8 (y : Int)] 5)) = _ := fun ty =>
      run_append_grow (P := Tryd.prog) (W.alloc (.cells #[.int .u8 (y : Int)] 5)) 22 ty 5 i (.int .u8 0) Tryd.underlying22 hi hz ⟨g, 0, none⟩ k cap olds (by rw [hsz]; omega) holds ⟨W.heap.size, 0, none⟩ 1 1 [.int .u8 (y : Int)] (by rw [hsz]; rfl) hn (by omega) (by omega)
        (growslice_fits (by omega) (by rw [hby]; omega))
    have hge := grownCap_ge (W.alloc (.cells #[.int .u8 (y : Int)] 5)) (k + 1) cap 5
    have hle := grownCap_le_maxLen (W.alloc (.cells #[.int .u8 (y : Int)] 5)) (k + 1) cap 5 (by unfold maxLen; omega)
    refine ⟨_, _, _, hr, ?_, .inr (by simp), ?_⟩
    · exact crow_new _ olds k _ y holen (fun j hj => ⟨_, (hx ⟨j, hj⟩).choose_spec.1, hol j hj⟩) hy hge hle
    · intro B hB
      exact (((Below.refl _ W).alloc (by omega) _).drew).alloc (by show B ≤ (W.alloc _).heap.size; simp; omega) _

end Go.Proofs.YtecpebpdillhlaaDoor.dr
