import Derived.Test.YtccnepenfglfoaaGreatFN
import Derived.Test.YtccnepenfglfoaaGreatFE
import Derived.Maps.Own
import Derived.Maps.OwnOps
import Derived.Maps.OwnSet
import Derived.Maps.Views
import Derived.Handy
namespace Go.Proofs.YtccnepenfglfoaaGreat.st2
open Go.ChangeShapes Go.WideShapes Go.ChangeAt Go.RowKit Go.Deep Go.Maps
set_option linter.unusedVariables false
set_option linter.unusedSimpArgs false

/-! ### Sets of numbers and of texts -/

abbrev OwN (w : World) (b n : Nat) (D : DataW Unit) : Prop := w.ownsMap Tryz.prog 3 unitElem b n D
/-- A set of numbers. -/
def StN (w : World) (b n : Nat) (F : List Nat) : Prop := ∃ D : DataW Unit, OwN w b n D ∧ ∀ x : Int, Maps.has D (.int .i64 x) = true ↔ ∃ k ∈ F, ((k : Nat) : Int) = x
theorem keyN (x : Nat) (hx : x ≤ 1048576) : keyOf Tryz.prog 3 (.int .i64 (x : Int)) = some (.int .i64 (x : Int)) := keyOf_int_mk Tryz.underlying3 (by
  have h1 : (-9223372036854775808 : Int) ≤ (x : Int) := by omega
  have h2 : (x : Int) ≤ 9223372036854775807 := by omega
  unfold Lit.wf
  simp only [Bool.and_eq_true, decide_eq_true_eq]
  exact ⟨h1, h2⟩)
theorem keyedN : Keyed Tryz.prog 3 := int_keyed Tryz.underlying3
theorem StN.below {w w' : World} {b n : Nat} {F : List Nat} (h : StN w b n F) (k : Below w.heap.size w w') : StN w' b n F := by
  obtain ⟨D, h1, h2⟩ := h
  exact ⟨D, h1.kept (row := none) ⟨k.os, k.tape, k.output, k.size, fun j hj _ => k.block j hj⟩ (by simp), h2⟩
theorem StN.grown {w w' : World} {b n g : Nat} {F : List Nat} (h : StN w b n F) (k : w.grownBy w' (some g)) (hg : b ≠ g) : StN w' b n F := by
  obtain ⟨D, h1, h2⟩ := h
  exact ⟨D, h1.kept (row := some g) k (fun e => hg (Option.some.inj e)), h2⟩
theorem StN.lt {w : World} {b n : Nat} {F : List Nat} (h : StN w b n F) : b < w.heap.size := by
  obtain ⟨D, h1, _⟩ := h
  exact h1.lt
theorem StN.zero (w : World) : StN (w.alloc (.map #[] 0)) w.heap.size 0 [] := ⟨.map [], World.ownsMap_made w Tryz.prog 3 _, fun x => by simp [Maps.has]⟩

set_option maxRecDepth 100000 in
theorem addN_any (x : Nat) (hx : x ≤ 1048576) (b n : Nat) (hn : n ≤ 1048577) (F : List Nat) (w : World) (h : StN w b n F) :
    Calls Tryz.prog 61 #[.map (some b), .int .i64 (x : Int)] w fun e w' => (∃ v, e = .returned v) ∧ StN w' b (n + 1) (F ++ [x]) ∧ w.grownBy w' (some b) := by
  obtain ⟨D, h, hh⟩ := h
  have hkey := keyN x hx
  have HP : Hid (∀ y : Int, Maps.has (D.put (.int .i64 (x : Int)) (.agg [])) (.int .i64 y) = true ↔ ∃ k ∈ F ++ [x], ((k : Nat) : Int) = y) := fun y => by
    by_cases e : y = (x : Int)
    · subst e
      rw [has_put_same h.isMap (show WideAt.IsKeyLit (.int .i64 (x : Int)) from trivial)]
      simp
    · rw [has_put_other (by simpa using e), hh y]
      constructor
      · rintro ⟨k, hk, e2⟩
        exact ⟨k, List.mem_append_left _ hk, e2⟩
      · rintro ⟨k, hk, e2⟩
        rcases List.mem_append.1 hk with hk | hk
        · exact ⟨k, hk, e2⟩
        · simp only [List.mem_singleton] at hk
          subst hk
          exact absurd e2.symm e
  clear hh
  go_enter Tryz.func61, Tryz.ntmps61
  go_wp2_with (first
    | (at_mapUpdate; refine wpList_mapUpdate_own _ rfl _ _ _ 76 rfl 3 67 keyedN Tryz.underlying76 _ b n D rfl h (by unfold maxLen; omega) _ _ _ rfl rfl hkey _ [] unitElem_mk ?_; intro wu hownu hgu)
    | go_in)
  go_returns
  exact ⟨⟨_, rfl⟩, ⟨_, hownu, HP.out⟩, hgu⟩

set_option maxRecDepth 100000 in
theorem hasN_any (x : Nat) (hx : x ≤ 1048576) (b n : Nat) (F : List Nat) (w : World) (h : StN w b n F) :
    Calls Tryz.prog 45 #[.map (some b), .int .i64 (x : Int)] w fun e w' => e = .returned (.bool (decide (x ∈ F))) ∧ Below w.heap.size w w' := by
  obtain ⟨D, h, hh⟩ := h
  have hkey := keyN x hx
  have HE : Hid (Maps.has D (.int .i64 (x : Int)) = decide (x ∈ F)) := by
    show _ = _
    rw [Bool.eq_iff_iff, hh, decide_eq_true_eq]
    constructor
    · rintro ⟨k, hk, e⟩
      obtain rfl : k = x := by omega
      exact hk
    · intro hk
      exact ⟨x, hk, rfl⟩
  rw [← HE.out]
  clear hh HE
  go_enter Tryz.func45, Tryz.ntmps45
  go_wp2_with (first
    | (at_lookup; refine wpList_lookup_own_unit _ rfl _ _ 76 rfl 3 67 keyedN Tryz.underlying76 (Tryz.zeroValue67 _) b n D rfl h _ _ rfl hkey ?_)
    | go_in)
  go_ret
  exact ⟨rfl, (Below.refl _ _).alloc (Nat.le_refl _) _⟩

abbrev OwM (w : World) (b n : Nat) (D : DataW Unit) : Prop := w.ownsMap Tryz.prog 9 unitElem b n D
/-- A set of texts. -/
def StM (w : World) (b n : Nat) (L : List (List UInt8)) : Prop := ∃ D : DataW Unit, OwM w b n D ∧ ∀ y, Maps.has D (.string y) = true ↔ y ∈ L
theorem keyS (t : ByteArray) (ht : t.size ≤ 1048576) : keyOf Tryz.prog 9 (.string t) = some (.string t.data.toList) := WideMaps.keyOf_string_mk Tryz.underlying9 (by unfold maxLen; omega)
theorem keyedS : Keyed Tryz.prog 9 := string_keyed Tryz.underlying9
theorem mk_set (m : Nat) (W : World) : (Instr.makeMap 45 (some (.int .i64 (m : Int)))).run Tryz.prog W = .ok (.map (some W.heap.size)) (W.alloc (.map #[] 0)) := by
  simp [Instr.makeMap, go_sem]

theorem StM.below {w w' : World} {b n : Nat} {L : List (List UInt8)} (h : StM w b n L) (k : Below w.heap.size w w') : StM w' b n L := by
  obtain ⟨D, h1, h2⟩ := h
  exact ⟨D, h1.kept (row := none) ⟨k.os, k.tape, k.output, k.size, fun j hj _ => k.block j hj⟩ (by simp), h2⟩

set_option maxRecDepth 100000 in
theorem add_any (t : ByteArray) (ht : t.size ≤ 1048576) (b n : Nat) (hn : n ≤ 1048577) (L L' : List (List UInt8)) (hL : ∀ y, y ∈ L' ↔ y ∈ L ∨ y = t.data.toList) (w : World) (h : StM w b n L) :
    Calls Tryz.prog 34 #[.map (some b), .string t] w fun e w' => (∃ v, e = .returned v) ∧ StM w' b (n + 1) L' ∧ w.grownBy w' (some b) := by
  obtain ⟨D, h, hh⟩ := h
  have hkey := keyS t ht
  have HP : Hid (∀ y, Maps.has (D.put (.string t.data.toList) (.agg [])) (.string y) = true ↔ y ∈ L') := fun y => by
    rw [hL]
    by_cases e : y = t.data.toList
    · subst e
      rw [has_put_same h.isMap (show WideAt.IsKeyLit (.string t.data.toList) from trivial)]
      simp
    · rw [has_put_other (by simpa using e), hh y]
      simp [e]
  clear hh
  go_enter Tryz.func34, Tryz.ntmps34
  go_wp2_with (first
    | (at_mapUpdate; refine wpList_mapUpdate_own _ rfl _ _ _ 45 rfl 9 67 keyedS Tryz.underlying45 _ b n D rfl h (by unfold maxLen; omega) _ _ _ rfl rfl hkey _ [] unitElem_mk ?_; intro wu hownu hgu)
    | go_in)
  go_returns
  exact ⟨⟨_, rfl⟩, ⟨_, hownu, HP.out⟩, hgu⟩

theorem grown_tr {A B C : World} {b : Nat} (h : A.grownBy B (some b)) (k : B.grownBy C (some b)) : A.grownBy C (some b) :=
  ⟨k.os.trans h.os, k.tape.trans h.tape, k.output.trans h.output, Nat.le_trans h.size k.size, fun j hj hne => (k.block j (Nat.lt_of_lt_of_le hj h.size) hne).trans (h.block j hj hne)⟩
theorem grown_bl {A B C : World} {b : Nat} (h : A.grownBy B (some b)) (k : Below B.heap.size B C) : A.grownBy C (some b) :=
  ⟨k.os.trans h.os, k.tape.trans h.tape, k.output.trans h.output, Nat.le_trans h.size k.size, fun j hj hne => (k.block j (Nat.lt_of_lt_of_le hj h.size)).trans (h.block j hj hne)⟩
theorem grown_to {w w' : World} (hg : w.grownBy w' (some w.heap.size)) : Below w.heap.size w w' := ⟨hg.os, hg.tape, hg.output, hg.size, fun k hk => hg.block k hk (fun e => by have := Option.some.inj e; omega)⟩

set_option maxRecDepth 100000 in
set_option maxHeartbeats 4000000 in
theorem setOf_any (a : Option Addr) (cap : Nat) (l : List ByteArray) (w : World) (hb : ty.SrcS none w a l) (hn : l.length ≤ 1048576) (hs : ∀ x ∈ l, x.size ≤ 1048576) :
    Calls Tryz.prog 18 #[.slice a l.length cap] w fun e w' => e = .returned (.map (some w.heap.size)) ∧ StM w' w.heap.size l.length ((List.map fun b : ByteArray => b.data.toList) l) ∧ Below w.heap.size w w' := by
  have HS : Hid (∀ x ∈ l, x.size ≤ 1048576) := hs
  have HB : Hid (ty.SrcS none w a l) := hb
  obtain ⟨n, hnn⟩ : ∃ n, l.length = n := ⟨_, rfl⟩
  have HN : Hid (l.length = n) := hnn
  rw [hnn] at hn ⊢
  have hmm : ∀ W : World, (Instr.makeMap 45 (some (.int .i64 (n : Int)))).run Tryz.prog W = .ok (.map (some W.heap.size)) (W.alloc (.map #[] 0)) := fun W => mk_set n W
  clear hs hb hnn
  go_enter Tryz.func18, Tryz.ntmps18
  go_wp2
  clear hmm
  go_loopw [5, 11] (fun _ x wr => ∃ j : Nat, j ≤ n ∧ x = .int .i64 (j : Int) ∧ StM wr w.heap.size j ((List.map fun b : ByteArray => b.data.toList) (l.take j)) ∧ w.grownBy wr (some w.heap.size)) (fun _ x _ => n - (intOf x).toNat)
  case atStart => exact ⟨0, Nat.zero_le _, rfl, ⟨.map [], World.ownsMap_made w Tryz.prog 9 _, fun y => by simp [Maps.has]⟩, World.grownBy_alloc w _ _⟩
  case round =>
    obtain ⟨j, hj, rfl, hst, hg⟩ := hrel
    have HST : Hid (StM wr w.heap.size j ((List.map fun b : ByteArray => b.data.toList) (l.take j))) := hst
    have HG : Hid (w.grownBy wr (some w.heap.size)) := hg
    clear hst
    by_cases hjl : j < n
    · have hjl' : (j : Int) < (n : Int) := by omega
      obtain ⟨x, hx⟩ : ∃ x, l[j]? = some x := ⟨_, List.getElem?_eq_getElem (by rw [HN.out]; exact hjl)⟩
      rcases HB.out with ⟨_, h⟩ | ⟨b, o, rfl, _, hc⟩
      · rw [h] at hx; simp at hx
      have hc0 := hc j x hx
      have hblt : b < w.heap.size := World.block_lt_of_cell? _ _ hc0
      have c0 : wr.cell? ⟨b, o + j, none⟩ = some (.string x) := hg.cell hc0 (fun e => by have := Option.some.inj e; simp at this; omega)
      have HAD : Hid (Calls Tryz.prog 34 #[.map (some w.heap.size), .string x] wr fun e w' => (∃ v, e = .returned v) ∧ StM w' w.heap.size (j + 1) ((List.map fun b : ByteArray => b.data.toList) (l.take (j + 1))) ∧ wr.grownBy w' (some w.heap.size)) :=
        add_any x (HS.out x (List.mem_of_getElem? hx)) w.heap.size j (by omega) _ _ (fun y => by rw [List.take_add_one, hx]; simp) wr HST.out
      clear hx hc0 hg hc
      go_wp2_with (go_at_call 34; refine HAD.out.mono ?_; rintro e w2 ⟨⟨v, rfl⟩, ho2, hg2⟩)
      go_roundw
      case rel => exact ⟨j + 1, by omega, by go_num, ho2, grown_tr HG.out hg2⟩
      case measure => simp [intOf]; omega
    · have hjl' : ¬ (j : Int) < (n : Int) := by omega
      obtain rfl : j = n := by omega
      have HE : Hid (StM wr w.heap.size j ((List.map fun b : ByteArray => b.data.toList) l)) := by
        have h := HST.out
        rwa [List.take_of_length_le (by rw [HN.out]; exact Nat.le_refl _)] at h
      clear hg
      go_wp2
      go_ret
      exact ⟨rfl, HE.out, grown_to HG.out⟩

set_option maxRecDepth 100000 in
theorem hasS_any (t : ByteArray) (ht : t.size ≤ 1048576) (b n : Nat) (L : List (List UInt8)) (w : World) (h : StM w b n L) :
    Calls Tryz.prog 21 #[.map (some b), .string t] w fun e w' => e = .returned (.bool (decide (t.data.toList ∈ L))) ∧ Below w.heap.size w w' := by
  obtain ⟨D, h, hh⟩ := h
  have hkey := keyS t ht
  have HE : Hid (Maps.has D (.string t.data.toList) = decide (t.data.toList ∈ L)) := by
    show _ = _
    rw [Bool.eq_iff_iff, hh, decide_eq_true_eq]
  rw [← HE.out]
  clear hh HE
  go_enter Tryz.func21, Tryz.ntmps21
  go_wp2_with (first
    | (at_lookup; refine wpList_lookup_own_unit _ rfl _ _ 45 rfl 9 67 keyedS Tryz.underlying45 (Tryz.zeroValue67 _) b n D rfl h _ _ rfl hkey ?_)
    | go_in)
  go_ret
  exact ⟨rfl, (Below.refl _ _).alloc (Nat.le_refl _) _⟩

theorem mk_setN (m : Nat) (W : World) : (Instr.makeMap 76 (some (.int .i64 (m : Int)))).run Tryz.prog W = .ok (.map (some W.heap.size)) (W.alloc (.map #[] 0)) := by
  simp [Instr.makeMap, go_sem]

set_option maxRecDepth 100000 in
set_option maxHeartbeats 4000000 in
theorem setOfN_any (v : Value) (l : List Nat) (w : World) (hb : fa.RdN w v l) (hn : l.length ≤ 1000) (hs : ∀ x ∈ l, x ≤ 1048576) :
    Calls Tryz.prog 44 #[v] w fun e w' => e = .returned (.map (some w.heap.size)) ∧ StN w' w.heap.size l.length l ∧ Below w.heap.size w w' := by
  have HS : Hid (∀ x ∈ l, x ≤ 1048576) := hs
  obtain ⟨a, cap, rfl, hc⟩ := hb
  have HB := Lib.hid hc
  obtain ⟨n, hnn⟩ : ∃ n, l.length = n := ⟨_, rfl⟩
  have HN : Hid (l.length = n) := hnn
  rw [hnn] at hn ⊢
  have hmm : ∀ W : World, (Instr.makeMap 76 (some (.int .i64 (n : Int)))).run Tryz.prog W = .ok (.map (some W.heap.size)) (W.alloc (.map #[] 0)) := fun W => mk_setN n W
  clear hs hc hnn
  go_enter Tryz.func44, Tryz.ntmps44
  go_wp2
  clear hmm
  go_loopw [5, 11] (fun _ x wr => ∃ j : Nat, j ≤ n ∧ x = .int .i64 (j : Int) ∧ StN wr w.heap.size j (l.take j) ∧ w.grownBy wr (some w.heap.size)) (fun _ x _ => n - (intOf x).toNat)
  case atStart => exact ⟨0, Nat.zero_le _, rfl, StN.zero w, World.grownBy_alloc w _ _⟩
  case round =>
    obtain ⟨j, hj, rfl, hst, hg⟩ := hrel
    have HST : Hid (StN wr w.heap.size j (l.take j)) := hst
    have HG : Hid (w.grownBy wr (some w.heap.size)) := hg
    clear hst
    by_cases hjl : j < n
    · have hjl' : (j : Int) < (n : Int) := by omega
      obtain ⟨x, hx⟩ : ∃ x, l[j]? = some x := ⟨_, List.getElem?_eq_getElem (by rw [HN.out]; exact hjl)⟩
      obtain ⟨b, o, rfl, hc0⟩ := HB.out j x hx
      have hblt : b < w.heap.size := World.block_lt_of_cell? _ _ hc0
      have c0 : wr.cell? ⟨b, o + j, none⟩ = some (.int .i64 (x : Int)) := hg.cell hc0 (fun e => by have := Option.some.inj e; simp at this; omega)
      have HAD : Hid (Calls Tryz.prog 61 #[.map (some w.heap.size), .int .i64 (x : Int)] wr fun e w' => (∃ v, e = .returned v) ∧ StN w' w.heap.size (j + 1) (l.take (j + 1)) ∧ wr.grownBy w' (some w.heap.size)) := by
        have := addN_any x (HS.out x (List.mem_of_getElem? hx)) w.heap.size j (by omega) _ wr HST.out
        rwa [show l.take j ++ [x] = l.take (j + 1) by rw [List.take_add_one, hx]; rfl] at this
      clear hx hc0 hg
      go_wp2_with (go_at_call 61; refine HAD.out.mono ?_; rintro e w2 ⟨⟨v, rfl⟩, ho2, hg2⟩)
      go_roundw
      case rel => exact ⟨j + 1, by omega, by go_num, ho2, grown_tr HG.out hg2⟩
      case measure => simp [intOf]; omega
    · have hjl' : ¬ (j : Int) < (n : Int) := by omega
      obtain rfl : j = n := by omega
      have HE : Hid (StN wr w.heap.size j l) := by
        have h := HST.out
        rwa [List.take_of_length_le (by rw [HN.out]; exact Nat.le_refl _)] at h
      clear hg
      go_wp2
      go_ret
      exact ⟨rfl, HE.out, grown_to HG.out⟩

end Go.Proofs.YtccnepenfglfoaaGreat.st2
