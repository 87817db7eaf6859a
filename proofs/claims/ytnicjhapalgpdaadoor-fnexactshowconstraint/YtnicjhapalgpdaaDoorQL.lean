import Derived.Test.YtnicjhapalgpdaaDoorQJ
namespace Go.Proofs.YtnicjhapalgpdaaDoor.rc
open Go.ChangeShapes Go.WideShapes Go.ChangeAt Go.RowKit Go.Deep Go.Lib Go.Shelf Go.Proofs.YtnicjhapalgpdaaDoor.vr
set_option linter.unusedVariables false
set_option linter.unusedSimpArgs false

/-! ### The law's helpers over rows of rows of terms -/

set_option maxRecDepth 100000 in
theorem eqT_any (P V : ByteArray) (w : World) : Calls Tryd.prog 31 #[.agg #[.string P, .string V], .agg #[.string P, .string V]] w fun e w' => e = .returned (.bool true) ∧ Below w.heap.size w w' := by
  go_enter Tryd.func31, Tryd.ntmps31
  go_wp2
  go_ret
  exact ⟨rfl, ((Below.refl _ _).alloc (Nat.le_refl _) _).alloc (by simp) _⟩

set_option maxHeartbeats 2000000 in
set_option maxRecDepth 100000 in
theorem eqTS_any (l : List Tm) (g g' n n' c c' : Nat) (w : World) (hn : l.length ≤ 2000000) (h1 : TmR w (.slice (some ⟨g, 0, none⟩) n c) l) (h2 : TmR w (.slice (some ⟨g', 0, none⟩) n' c') l) :
    Calls Tryd.prog 17 #[.slice (some ⟨g, 0, none⟩) n c, .slice (some ⟨g', 0, none⟩) n' c'] w fun e w' => e = .returned (.bool true) ∧ Below w.heap.size w w' := by
  obtain ⟨G, cp, e, hc, hr, hg⟩ := h1
  obtain ⟨rfl, rfl, rfl⟩ : g = G ∧ n = l.length ∧ c = cp := by simpa using e
  obtain ⟨G', cp', e', hc', hr', hg'⟩ := h2
  obtain ⟨rfl, rfl, rfl⟩ : g' = G' ∧ n' = l.length ∧ c' = cp' := by simpa using e'
  have HR : Hid (∀ W : World, Below w.heap.size w W → ∀ (i : Nat) (x : Tm), l[i]? = some x → (W.cell? ⟨g, i * 2, none⟩ = some (.string ⟨x.1.toArray⟩) ∧ W.cell? ⟨g, i * 2 + 1, none⟩ = some (.string ⟨x.2.toArray⟩)) ∧ W.cell? ⟨g', i * 2, none⟩ = some (.string ⟨x.1.toArray⟩) ∧ W.cell? ⟨g', i * 2 + 1, none⟩ = some (.string ⟨x.2.toArray⟩)) := fun W h i x hx =>
    ⟨⟨(h.cell (p := ⟨g, _, none⟩) hg).trans (hr i x hx).1, (h.cell (p := ⟨g, _, none⟩) hg).trans (hr i x hx).2⟩, (h.cell (p := ⟨g', _, none⟩) hg').trans (hr' i x hx).1, (h.cell (p := ⟨g', _, none⟩) hg').trans (hr' i x hx).2⟩
  clear hr hr' e e'
  go_enter Tryd.func17, Tryd.ntmps17
  go_wp2
  go_loopw [5] (fun x wr => ∃ j : Nat, j ≤ l.length ∧ x = .int .i64 (j : Int) ∧ Below w.heap.size w wr) (fun x _ => l.length - (intOf x).toNat)
  case atStart => exact ⟨0, Nat.zero_le _, rfl, Below.refl _ _⟩
  case round =>
    obtain ⟨j, hj, rfl, hbel⟩ := hrel
    have HBE : Hid (Below w.heap.size w wr) := hbel
    by_cases hjl : j < l.length
    · have hj' : (j : Int) < (l.length : Int) := by omega
      have hj0 : (0 : Int) ≤ (j : Int) := by omega
      obtain ⟨x, hx⟩ : ∃ x, l[j]? = some x := ⟨_, List.getElem?_eq_getElem hjl⟩
      obtain ⟨P, hP⟩ : ∃ P : ByteArray, (⟨x.1.toArray⟩ : ByteArray) = P := ⟨_, rfl⟩
      obtain ⟨V, hV⟩ : ∃ V : ByteArray, (⟨x.2.toArray⟩ : ByteArray) = V := ⟨_, rfl⟩
      have HS : Hid (∀ W : World, Below w.heap.size w W → (W.cell? ⟨g, j * 2, none⟩ = some (.string P) ∧ W.cell? ⟨g, j * 2 + 1, none⟩ = some (.string V)) ∧ W.cell? ⟨g', j * 2, none⟩ = some (.string P) ∧ W.cell? ⟨g', j * 2 + 1, none⟩ = some (.string V)) := fun W h => by
        have := HR.out W h j x hx
        rwa [hP, hV] at this
      have HEQ : Hid (∀ W, Calls Tryd.prog 31 #[.agg #[.string P, .string V], .agg #[.string P, .string V]] W fun e w' => e = .returned (.bool true) ∧ Below W.heap.size W w') := fun W => eqT_any P V W
      clear hx hP hV hbel
      go_wp2_with fail
      go_region_held3 (fun W => (W.cell? ⟨g, j * 2, none⟩ = some (.string P) ∧ W.cell? ⟨g, j * 2 + 1, none⟩ = some (.string V)) ∧ W.cell? ⟨g', j * 2, none⟩ = some (.string P) ∧ W.cell? ⟨g', j * 2 + 1, none⟩ = some (.string V))
        (first | exact HS.out _ HBE.out.drew | exact HS.out _ hb2 | exact HS.out _ HBE.out | go_keep)
        (((go_at_call 31; refine (HEQ.out _).mono ?_; rintro e w2 ⟨rfl, hl2⟩; have hb2 : Below w.heap.size w w2 := HBE.out.drew.trans (hl2.mono HBE.out.size))))
      go_wp2_with fail
      go_roundw
      case rel => exact ⟨j + 1, by omega, by go_num, hb2⟩
      case measure => simp [intOf]; omega
    · have hj' : ¬ (j : Int) < (l.length : Int) := by omega
      go_wp2
      go_ret
      exact ⟨rfl, hbel⟩

/-- What can be read of rows of rows. -/
def RdR (w : World) (r : Value) (ls : List (List Tm)) : Prop := ∃ G cap, r = .slice (some ⟨G, 0, none⟩) ls.length cap ∧ G < w.heap.size ∧ ∀ (i : Nat) (l : List Tm), ls[i]? = some l → ∃ g c, w.cell? ⟨G, i, none⟩ = some (.slice (some ⟨g, 0, none⟩) l.length c) ∧ TmR w (.slice (some ⟨g, 0, none⟩) l.length c) l

theorem RdS.read {B : Nat} {w : World} {r : Value} {vs : List Value} {ls : List (List Tm)} {K : Nat → Prop} (h : RdS B w r vs ls K) : RdR w r ls := by
  have h0 := h.own
  obtain ⟨hl, ho⟩ := h.own
  rcases ho with ⟨e, _⟩ | ⟨G, cap, cur, rfl, hb, hg, hcs⟩
  · exact absurd e h.nn
  · refine ⟨G, cap, by rw [h.len], (Array.getElem?_eq_some_iff.1 hg).1, fun i l hi => ?_⟩
    obtain ⟨v, hv, g, c, rfl, ht, _⟩ := h.inn i l hi
    have := h0.cells (g := G) rfl i _ hv
    rw [addr_add, Nat.zero_add] at this
    exact ⟨g, c, this, ht⟩

theorem RdR.below {w w' : World} {r : Value} {ls : List (List Tm)} (h : RdR w r ls) (hb : Below w.heap.size w w') : RdR w' r ls := by
  obtain ⟨G, cap, e, hg, h⟩ := h
  refine ⟨G, cap, e, Nat.lt_of_lt_of_le hg hb.size, fun i l hi => ?_⟩
  obtain ⟨g, c, h1, h2⟩ := h i l hi
  exact ⟨g, c, (hb.cell (p := ⟨G, i, none⟩) hg).trans h1, h2.below hb⟩

set_option maxHeartbeats 2000000 in
set_option maxRecDepth 100000 in
theorem eqTSS_any (ls : List (List Tm)) (r r' : Value) (w : World) (hn : ls.length ≤ 2000000) (hl : ∀ l ∈ ls, l.length ≤ 2000000) (h1 : RdR w r ls) (h2 : RdR w r' ls) :
    Calls Tryd.prog 8 #[r, r'] w fun e w' => e = .returned (.bool true) ∧ Below w.heap.size w w' := by
  have HA : Hid (RdR w r ls) := h1
  have HB : Hid (RdR w r' ls) := h2
  obtain ⟨G, cp, rfl, hg, hr⟩ := h1
  obtain ⟨G', cp', rfl, hg', hr'⟩ := h2
  have HL : Hid (∀ l ∈ ls, l.length ≤ 2000000) := hl
  have HR : Hid (∀ (i : Nat) (l : List Tm), ls[i]? = some l → ∃ g c, w.cell? ⟨G, i, none⟩ = some (.slice (some ⟨g, 0, none⟩) l.length c) ∧ TmR w (.slice (some ⟨g, 0, none⟩) l.length c) l) := hr
  have HR' : Hid (∀ (i : Nat) (l : List Tm), ls[i]? = some l → ∃ g c, w.cell? ⟨G', i, none⟩ = some (.slice (some ⟨g, 0, none⟩) l.length c) ∧ TmR w (.slice (some ⟨g, 0, none⟩) l.length c) l) := hr'
  clear hr hr' hl
  go_enter Tryd.func8, Tryd.ntmps8
  go_wp2
  go_loopw [5] (fun x wr => ∃ j : Nat, j ≤ ls.length ∧ x = .int .i64 (j : Int) ∧ Below w.heap.size w wr) (fun x _ => ls.length - (intOf x).toNat)
  case atStart => exact ⟨0, Nat.zero_le _, rfl, Below.refl _ _⟩
  case round =>
    obtain ⟨j, hj, rfl, hbel⟩ := hrel
    have HBE : Hid (Below w.heap.size w wr) := hbel
    by_cases hjl : j < ls.length
    · have hj' : (j : Int) < (ls.length : Int) := by omega
      have hj0 : (0 : Int) ≤ (j : Int) := by omega
      obtain ⟨l, hx⟩ : ∃ x, ls[j]? = some x := ⟨_, List.getElem?_eq_getElem hjl⟩
      obtain ⟨g, c, d1, t1⟩ := HR.out j l hx
      obtain ⟨g', c', d2, t2⟩ := HR'.out j l hx
      have hll := HL.out l (List.mem_of_getElem? hx)
      have HS : Hid (∀ W : World, Below w.heap.size w W → W.cell? ⟨G, j, none⟩ = some (.slice (some ⟨g, 0, none⟩) l.length c) ∧ W.cell? ⟨G', j, none⟩ = some (.slice (some ⟨g', 0, none⟩) l.length c')) := fun W h => ⟨(h.cell (p := ⟨G, j, none⟩) hg).trans d1, (h.cell (p := ⟨G', j, none⟩) hg').trans d2⟩
      have HEQ : Hid (∀ W, Below w.heap.size w W → Calls Tryd.prog 17 #[.slice (some ⟨g, 0, none⟩) l.length c, .slice (some ⟨g', 0, none⟩) l.length c'] W fun e w' => e = .returned (.bool true) ∧ Below W.heap.size W w') := fun W h => eqTS_any l g g' _ _ c c' W hll (t1.below h) (t2.below h)
      clear hx hbel d1 d2 t1 t2
      go_wp2_with fail
      go_region_held3 (fun W => W.cell? ⟨G, j, none⟩ = some (.slice (some ⟨g, 0, none⟩) l.length c) ∧ W.cell? ⟨G', j, none⟩ = some (.slice (some ⟨g', 0, none⟩) l.length c'))
        (first | exact HS.out _ HBE.out.drew | exact HS.out _ hb2 | exact HS.out _ HBE.out | go_keep)
        (((go_at_call 17; refine (HEQ.out _ HBE.out.drew).mono ?_; rintro e w2 ⟨rfl, hl2⟩; have hb2 : Below w.heap.size w w2 := HBE.out.drew.trans (hl2.mono HBE.out.size))))
      go_wp2_with fail
      go_roundw
      case rel => exact ⟨j + 1, by omega, by go_num, hb2⟩
      case measure => simp [intOf]; omega
    · have hj' : ¬ (j : Int) < (ls.length : Int) := by omega
      go_wp2
      go_ret
      exact ⟨rfl, hbel⟩

end Go.Proofs.YtnicjhapalgpdaaDoor.rc
