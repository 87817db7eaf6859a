import Derived.Test.YtnfdoaglfmndmaaAA
import Derived.Test.YtnfdoaglfmndmaaIT
import Derived.Test.YtnfdoaglfmndmaaKC
import Derived.Maps.Own
import Derived.Maps.OwnOps
import Derived.Maps.OwnSet
import Derived.Maps.Views
import Derived.Sort.KeysCollected
import Derived.Sort.OwnSorted
import Derived.Handy
namespace Go.Proofs.Ytnfdoaglfmndmaa.ac
open Go.ChangeShapes Go.WideShapes Go.ChangeAt Go.RowKit Go.Deep Go.Shelf Go.Maps Go.Sort
set_option linter.unusedVariables false
set_option linter.unusedSimpArgs false

/-! ### Acts: the program's sets of texts -/

abbrev OwM (w : World) (b n : Nat) (D : DataW Unit) : Prop := w.ownsMap Try.prog 9 unitElem b n D
/-- A set of texts. -/
def StM (w : World) (b n : Nat) (L : List (List UInt8)) : Prop := ∃ D : DataW Unit, OwM w b n D ∧ ∀ y, Maps.has D (.string y) = true ↔ y ∈ L
theorem keyS (t : ByteArray) (ht : t.size ≤ 1048576) : keyOf Try.prog 9 (.string t) = some (.string t.data.toList) := WideMaps.keyOf_string_mk Try.underlying9 (by unfold maxLen; omega)
theorem keyedS : Keyed Try.prog 9 := string_keyed Try.underlying9
theorem mk_set (m : Nat) (W : World) : (Instr.makeMap 60 (some (.int .i64 (m : Int)))).run Try.prog W = .ok (.map (some W.heap.size)) (W.alloc (.map #[] 0)) := by
  simp [Instr.makeMap, go_sem]

theorem StM.below {w w' : World} {b n : Nat} {L : List (List UInt8)} (h : StM w b n L) (k : Below w.heap.size w w') : StM w' b n L := by
  obtain ⟨D, h1, h2⟩ := h
  exact ⟨D, h1.kept (row := none) ⟨k.os, k.tape, k.output, k.size, fun j hj _ => k.block j hj⟩ (by simp), h2⟩

set_option maxRecDepth 100000 in
theorem add_any (t : ByteArray) (ht : t.size ≤ 1048576) (b n : Nat) (hn : n ≤ 1048577) (L L' : List (List UInt8)) (hL : ∀ y, y ∈ L' ↔ y ∈ L ∨ y = t.data.toList) (w : World) (h : StM w b n L) :
    Calls Try.prog 36 #[.map (some b), .string t] w fun e w' => (∃ v, e = .returned v) ∧ StM w' b (n + 1) L' ∧ w.grownBy w' (some b) := by
  obtain ⟨D, h, hh⟩ := h
  have hkey := keyS t ht
  have HP : Hid (∀ y, Maps.has (D.put (.string t.data.toList) (.agg [])) (.string y) = true ↔ y ∈ L') := fun y => by
    rw [hL]
    by_cases e : y = t.data.toList
    · subst e
      rw [has_put_same h.isMap (show WideAt.IsKeyLit (.string t.data.toList) from trivial)]
      simp
    · rw [has_put_other (by simpa using e), hh y]
      simp [e]
  clear hh
  go_enter Try.func36, Try.ntmps36
  go_wp2_with (first
    | (at_mapUpdate; refine wpList_mapUpdate_own _ rfl _ _ _ 60 rfl 9 67 keyedS Try.underlying60 _ b n D rfl h (by unfold maxLen; omega) _ _ _ rfl rfl hkey _ [] unitElem_mk ?_; intro wu hownu hgu)
    | go_in)
  go_returns
  exact ⟨⟨_, rfl⟩, ⟨_, hownu, HP.out⟩, hgu⟩

theorem grown_tr {A B C : World} {b : Nat} (h : A.grownBy B (some b)) (k : B.grownBy C (some b)) : A.grownBy C (some b) :=
  ⟨k.os.trans h.os, k.tape.trans h.tape, k.output.trans h.output, Nat.le_trans h.size k.size, fun j hj hne => (k.block j (Nat.lt_of_lt_of_le hj h.size) hne).trans (h.block j hj hne)⟩
theorem grown_bl {A B C : World} {b : Nat} (h : A.grownBy B (some b)) (k : Below B.heap.size B C) : A.grownBy C (some b) :=
  ⟨k.os.trans h.os, k.tape.trans h.tape, k.output.trans h.output, Nat.le_trans h.size k.size, fun j hj hne => (k.block j (Nat.lt_of_lt_of_le hj h.size)).trans (h.block j hj hne)⟩
theorem grown_to {w w' : World} (hg : w.grownBy w' (some w.heap.size)) : Below w.heap.size w w' := ⟨hg.os, hg.tape, hg.output, hg.size, fun k hk => hg.block k hk (fun e => by have := Option.some.inj e; omega)⟩

set_option maxRecDepth 100000 in
set_option maxHeartbeats 4000000 in
theorem setOf_any (a : Option Addr) (cap : Nat) (l : List ByteArray) (w : World) (hb : ty.SrcS none w a l) (hn : l.length ≤ 1048576) (hs : ∀ x ∈ l, x.size ≤ 1048576) :
    Calls Try.prog 35 #[.slice a l.length cap] w fun e w' => e = .returned (.map (some w.heap.size)) ∧ StM w' w.heap.size l.length (apX l) ∧ Below w.heap.size w w' := by
  have HS : Hid (∀ x ∈ l, x.size ≤ 1048576) := hs
  have HB : Hid (ty.SrcS none w a l) := hb
  obtain ⟨n, hnn⟩ : ∃ n, l.length = n := ⟨_, rfl⟩
  have HN : Hid (l.length = n) := hnn
  rw [hnn] at hn ⊢
  have hmm : ∀ W : World, (Instr.makeMap 60 (some (.int .i64 (n : Int)))).run Try.prog W = .ok (.map (some W.heap.size)) (W.alloc (.map #[] 0)) := fun W => mk_set n W
  clear hs hb hnn
  go_enter Try.func35, Try.ntmps35
  go_wp2
  clear hmm
  go_loopw [5, 11] (fun _ x wr => ∃ j : Nat, j ≤ n ∧ x = .int .i64 (j : Int) ∧ StM wr w.heap.size j (apX (l.take j)) ∧ w.grownBy wr (some w.heap.size)) (fun _ x _ => n - (intOf x).toNat)
  case atStart => exact ⟨0, Nat.zero_le _, rfl, ⟨.map [], World.ownsMap_made w Try.prog 9 _, fun y => by simp [Maps.has, apX]⟩, World.grownBy_alloc w _ _⟩
  case round =>
    obtain ⟨j, hj, rfl, hst, hg⟩ := hrel
    have HST : Hid (StM wr w.heap.size j (apX (l.take j))) := hst
    have HG : Hid (w.grownBy wr (some w.heap.size)) := hg
    clear hst
    by_cases hjl : j < n
    · have hjl' : (j : Int) < (n : Int) := by omega
      obtain ⟨x, hx⟩ : ∃ x, l[j]? = some x := ⟨_, List.getElem?_eq_getElem (by rw [HN.out]; exact hjl)⟩
      rcases HB.out with ⟨_, h⟩ | ⟨b, o, rfl, _, hc⟩
      · rw [h] at hx; simp at hx
      have hc0 := hc j x hx
      have hblt : b < w.heap.size := World.block_lt_of_cell? _ _ hc0
      have c0 : wr.cell? ⟨b, o + j, none⟩ = some (.string x) := hg.cell hc0 (fun e => by have := Option.some.inj e; simp at this; omega)
      have HAD : Hid (Calls Try.prog 36 #[.map (some w.heap.size), .string x] wr fun e w' => (∃ v, e = .returned v) ∧ StM w' w.heap.size (j + 1) (apX (l.take (j + 1))) ∧ wr.grownBy w' (some w.heap.size)) :=
        add_any x (HS.out x (List.mem_of_getElem? hx)) w.heap.size j (by omega) _ _ (fun y => by rw [List.take_add_one, hx]; simp [apX]) wr HST.out
      clear hx hc0 hg hc
      go_wp2_with (go_at_call 36; refine HAD.out.mono ?_; rintro e w2 ⟨⟨v, rfl⟩, ho2, hg2⟩)
      go_roundw
      case rel => exact ⟨j + 1, by omega, by go_num, ho2, grown_tr HG.out hg2⟩
      case measure => simp [intOf]; omega
    · have hjl' : ¬ (j : Int) < (n : Int) := by omega
      obtain rfl : j = n := by omega
      have HE : Hid (StM wr w.heap.size j (apX l)) := by
        have h := HST.out
        rwa [List.take_of_length_le (by rw [HN.out]; exact Nat.le_refl _)] at h
      clear hg
      go_wp2
      go_ret
      exact ⟨rfl, HE.out, grown_to HG.out⟩

/-- The keys, sorted, are the ascending list of the same members. -/
theorem keys_sorted {w : World} {b N : Nat} {D : DataW Unit} (hown : OwM w b N D) {ss L : List (List UInt8)} (hp : ss.Perm (strKeys D)) (hL : sr.asc L) (hm : ∀ x, Maps.has D (.string x) = true ↔ x ∈ L) : ss.mergeSort (fun x y => decide (x ≤ y)) = L := by
  have hp2 : L.Perm (strKeys D) := by
    obtain ⟨es, hD, hpw, _⟩ := hown.entries keyedS
    obtain ⟨es', hD', hko⟩ := hown.keysOf
    obtain rfl : es = es' := by rw [hD] at hD'; simpa using hD'
    subst hD
    exact perm_strKeys hpw (fun p hp => by obtain ⟨v, hv⟩ := hko p hp; obtain ⟨x, _, hx, _⟩ := Maps.keyOf_str Try.underlying9 hv; exact ⟨x, hx⟩) (sr.asc_nodup hL) (fun x => (hm x).symm)
  have e1 := mergeSort_of_perm (hp.trans hp2.symm)
  have e2 : L.mergeSort leB = L := List.mergeSort_of_pairwise (hL.imp fun hab => by simp only [leB, decide_eq_true_eq]; exact List.le_of_lt hab)
  exact e1.trans e2

theorem enc_str (l : List (List UInt8)) : l.map encStr = l.map sr.strL := by
  apply List.map_congr_left
  intro x _
  rfl

/-- slices.Sorted(maps.Keys(set)): the members, ascending; nil where there are none. -/
theorem sorted_any (b n : Nat) (L : List (List UInt8)) (w : World) (h : StM w b n L) (hL : sr.asc L) (hn : n ≤ 1048577) :
    Calls Try.prog 38 #[.func (.func 50) #[] #[.pointer (some ⟨w.heap.size, 0, none⟩)]] (w.alloc (.cells #[.map (some b)] 60)) fun e w' => (∃ v, e = .returned v ∧ w'.ownsRow (w.heap.size + 1) 9 1 v L.length (L.map sr.strL)) ∧ Below (w.heap.size + 1) (w.alloc (.cells #[.map (some b)] 60)) w' := by
  obtain ⟨D, h1, h2⟩ := h
  have hsz := h1.size_le
  refine (callsIn_wide.1 (Try.slices_Sorted_keys_38_39 b n D _ w h1 (by unfold maxLen; omega) (by omega))).mono ?_
  rintro e w' ⟨v, ss, rfl, hS, hrow, _, hb⟩
  have e1 := keys_sorted h1 hS hL h2
  have hlen : ss.length = L.length := by rw [← e1, List.length_mergeSort]
  rw [e1, enc_str, hlen, World.size_alloc] at hrow
  rw [World.size_alloc] at hb
  exact ⟨⟨v, rfl, hrow⟩, hb⟩

end Go.Proofs.Ytnfdoaglfmndmaa.ac
