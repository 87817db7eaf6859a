import Derived.Test.YtbhhigmdmjlkaaaFE
import Derived.Test.YtbhhigmdmjlkaaaIT
import Derived.Test.YtbhhigmdmjlkaaaKC
import Derived.Maps.Own
import Derived.Maps.OwnOps
import Derived.Maps.OwnSet
import Derived.Maps.Views
import Derived.Lib.SlKeysI
import Derived.Sort.OwnSortedInts
import Derived.Handy
namespace Go.Proofs.Ytbhhigmdmjlkaaa.fa
open Go.ChangeShapes Go.WideShapes Go.ChangeAt Go.RowKit Go.Deep Go.Shelf Go.Maps Go.Sort
set_option linter.unusedVariables false
set_option linter.unusedSimpArgs false

/-! ### Failing: sets of numbers; their names -/

abbrev OwN (w : World) (b n : Nat) (D : DataW Unit) : Prop := w.ownsMap Try.prog 3 unitElem b n D
/-- A set of numbers. -/
def StN (w : World) (b n : Nat) (F : List Nat) : Prop := ∃ D : DataW Unit, OwN w b n D ∧ ∀ x : Int, Maps.has D (.int .i64 x) = true ↔ ∃ k ∈ F, ((k : Nat) : Int) = x
theorem keyN (x : Nat) (hx : x ≤ 1048576) : keyOf Try.prog 3 (.int .i64 (x : Int)) = some (.int .i64 (x : Int)) := keyOf_int_mk Try.underlying3 (by
  have h1 : (-9223372036854775808 : Int) ≤ (x : Int) := by omega
  have h2 : (x : Int) ≤ 9223372036854775807 := by omega
  unfold Lit.wf
  simp only [Bool.and_eq_true, decide_eq_true_eq]
  exact ⟨h1, h2⟩)
theorem keyedN : Keyed Try.prog 3 := int_keyed Try.underlying3
theorem StN.below {w w' : World} {b n : Nat} {F : List Nat} (h : StN w b n F) (k : Below w.heap.size w w') : StN w' b n F := by
  obtain ⟨D, h1, h2⟩ := h
  exact ⟨D, h1.kept (row := none) ⟨k.os, k.tape, k.output, k.size, fun j hj _ => k.block j hj⟩ (by simp), h2⟩
theorem StN.grown {w w' : World} {b n g : Nat} {F : List Nat} (h : StN w b n F) (k : w.grownBy w' (some g)) (hg : b ≠ g) : StN w' b n F := by
  obtain ⟨D, h1, h2⟩ := h
  exact ⟨D, h1.kept (row := some g) k (fun e => hg (Option.some.inj e)), h2⟩
theorem StN.lt {w : World} {b n : Nat} {F : List Nat} (h : StN w b n F) : b < w.heap.size := by
  obtain ⟨D, h1, _⟩ := h
  exact h1.lt
theorem StN.zero (w : World) : StN (w.alloc (.map #[] 0)) w.heap.size 0 [] := ⟨.map [], World.ownsMap_made w Try.prog 3 _, fun x => by simp [Maps.has]⟩

set_option maxRecDepth 100000 in
theorem addN_any (x : Nat) (hx : x ≤ 1048576) (b n : Nat) (hn : n ≤ 1048577) (F : List Nat) (w : World) (h : StN w b n F) :
    Calls Try.prog 19 #[.map (some b), .int .i64 (x : Int)] w fun e w' => (∃ v, e = .returned v) ∧ StN w' b (n + 1) (F ++ [x]) ∧ w.grownBy w' (some b) := by
  obtain ⟨D, h, hh⟩ := h
  have hkey := keyN x hx
  have HP : Hid (∀ y : Int, Maps.has (D.put (.int .i64 (x : Int)) (.agg [])) (.int .i64 y) = true ↔ ∃ k ∈ F ++ [x], ((k : Nat) : Int) = y) := fun y => by
    by_cases e : y = (x : Int)
    · subst e
      rw [has_put_same h.isMap (show WideAt.IsKeyLit (.int .i64 (x : Int)) from trivial)]
      simp
    · rw [has_put_other (by simpa using e), hh y]
      constructor
      · rintro ⟨k, hk, e2⟩
        exact ⟨k, List.mem_append_left _ hk, e2⟩
      · rintro ⟨k, hk, e2⟩
        rcases List.mem_append.1 hk with hk | hk
        · exact ⟨k, hk, e2⟩
        · simp only [List.mem_singleton] at hk
          subst hk
          exact absurd e2.symm e
  clear hh
  go_enter Try.func19, Try.ntmps19
  go_wp2_with (first
    | (at_mapUpdate; refine wpList_mapUpdate_own _ rfl _ _ _ 45 rfl 3 53 keyedN Try.underlying45 _ b n D rfl h (by unfold maxLen; omega) _ _ _ rfl rfl hkey _ [] unitElem_mk ?_; intro wu hownu hgu)
    | go_in)
  go_returns
  exact ⟨⟨_, rfl⟩, ⟨_, hownu, HP.out⟩, hgu⟩

set_option maxRecDepth 100000 in
theorem hasN_any (x : Nat) (hx : x ≤ 1048576) (b n : Nat) (F : List Nat) (w : World) (h : StN w b n F) :
    Calls Try.prog 18 #[.map (some b), .int .i64 (x : Int)] w fun e w' => e = .returned (.bool (decide (x ∈ F))) ∧ Below w.heap.size w w' := by
  obtain ⟨D, h, hh⟩ := h
  have hkey := keyN x hx
  have HE : Hid (Maps.has D (.int .i64 (x : Int)) = decide (x ∈ F)) := by
    show _ = _
    rw [Bool.eq_iff_iff, hh, decide_eq_true_eq]
    constructor
    · rintro ⟨k, hk, e⟩
      obtain rfl : k = x := by omega
      exact hk
    · intro hk
      exact ⟨x, hk, rfl⟩
  rw [← HE.out]
  clear hh HE
  go_enter Try.func18, Try.ntmps18
  go_wp2_with (first
    | (at_lookup; refine wpList_lookup_own_unit _ rfl _ _ 45 rfl 3 53 keyedN Try.underlying45 (Try.zeroValue53 _) b n D rfl h _ _ rfl hkey ?_)
    | go_in)
  go_ret
  exact ⟨rfl, (Below.refl _ _).alloc (Nat.le_refl _) _⟩

/-- The keys, sorted, are the ascending list of the same numbers. -/
theorem keysN_sorted {w : World} {b N : Nat} {D : DataW Unit} (hown : OwN w b N D) {ss : List Int} {L : List Nat} (hp : ss.Perm (intKeys D)) (hL : L.Pairwise (· < ·)) (hm : ∀ x : Int, Maps.has D (.int .i64 x) = true ↔ ∃ k ∈ L, ((k : Nat) : Int) = x) : ss.mergeSort (fun x y => decide (x ≤ y)) = L.map fun (k : Nat) => (k : Int) := by
  have hnd : (L.map fun (k : Nat) => (k : Int)).Nodup := List.pairwise_map.2 (hL.imp fun h e => by omega)
  have hp2 : (L.map fun (k : Nat) => (k : Int)).Perm (intKeys D) := by
    obtain ⟨es, hD, hpw, _⟩ := hown.entries keyedN
    obtain ⟨es', hD', hko⟩ := hown.keysOf
    obtain rfl : es = es' := by rw [hD] at hD'; simpa using hD'
    subst hD
    exact perm_intKeys hpw (fun p hp => by obtain ⟨v, hv⟩ := hko p hp; obtain ⟨x, _, hx, _⟩ := Maps.keyOf_i64 Try.underlying3 hv; exact ⟨x, hx⟩) hnd (fun x => by rw [List.mem_map]; exact (hm x).symm)
  have e2 : (L.map fun (k : Nat) => (k : Int)).mergeSort leI = L.map fun (k : Nat) => (k : Int) := List.mergeSort_of_pairwise (List.pairwise_map.2 (hL.imp fun hab => by simp only [leI, decide_eq_true_eq]; omega))
  exact (mergeSort_of_perm_i (hp.trans hp2.symm)).trans e2

theorem encN (L : List Nat) : (L.map fun (k : Nat) => (k : Int)).map encZ = fi.nV L := by
  unfold fi.nV
  rw [List.map_map]
  rfl

/-- slices.Sorted(maps.Keys(set)): the numbers, ascending; nil where there are none. -/
theorem sortedN_any (b n : Nat) (F L : List Nat) (w : World) (h : StN w b n F) (hL : L.Pairwise (· < ·)) (hm : ∀ x, x ∈ L ↔ x ∈ F) (hn : n ≤ 1048577) :
    Calls Try.prog 21 #[.func (.func 43) #[] #[.pointer (some ⟨w.heap.size, 0, none⟩)]] (w.alloc (.cells #[.map (some b)] 45)) fun e w' => (∃ v, e = .returned v ∧ w'.ownsRow (w.heap.size + 1) 3 1 v L.length (fi.nV L)) ∧ Below (w.heap.size + 1) (w.alloc (.cells #[.map (some b)] 45)) w' := by
  obtain ⟨D, h1, h2⟩ := h
  have hsz := h1.size_le
  refine (callsIn_wide.1 (Try.slices_Sorted_keys_21_22 b n D _ w h1 (by unfold maxLen; omega) (by omega))).mono ?_
  rintro e w' ⟨v, ss, rfl, hS, hrow, _, hb⟩
  have e1 := keysN_sorted h1 hS hL (fun x => by
    rw [h2 x]
    constructor
    · rintro ⟨k, hk, e⟩
      exact ⟨k, (hm k).2 hk, e⟩
    · rintro ⟨k, hk, e⟩
      exact ⟨k, (hm k).1 hk, e⟩)
  have hlen : ss.length = L.length := by rw [← List.length_mergeSort (le := fun x y => decide (x ≤ y)), e1, List.length_map]
  rw [e1, encN, hlen, World.size_alloc] at hrow
  rw [World.size_alloc] at hb
  exact ⟨⟨v, rfl, hrow⟩, hb⟩

/-- A row of numbers as it can be read, perhaps nil. -/
def RdN (w : World) (v : Value) (L : List Nat) : Prop := ∃ a c, v = .slice a L.length c ∧ ∀ (i x : Nat), L[i]? = some x → ∃ bb off, a = some ⟨bb, off, none⟩ ∧ w.cell? ⟨bb, off + i, none⟩ = some (.int .i64 (x : Int))
theorem rdn_own {w : World} {base : Nat} {v : Value} {L : List Nat} (h : w.ownsRow base 3 1 v L.length (fi.nV L)) : RdN w v L := by
  rcases h.2 with ⟨e, h0⟩ | ⟨g, cap, cur, e, hb, hg, hnc, hcm, hcs, htk⟩
  · have hl : L.length = 0 := by first | exact h0 | exact h0.1 | (simpa [fi.nV] using h0) | omega
    obtain rfl := List.eq_nil_of_length_eq_zero hl
    exact ⟨none, 0, e, fun i x hx => by simp at hx⟩
  · refine ⟨some ⟨g, 0, none⟩, cap, e, fun i x hx => ⟨g, 0, rfl, ?_⟩⟩
    have hi := (List.getElem?_eq_some_iff.1 hx).1
    have h1 : (cur.toList.take (L.length * 1))[i]? = (fi.nV L)[i]? := by rw [htk]
    rw [Nat.mul_one, List.getElem?_take_of_lt hi, fi.nV_at hi, (List.getElem?_eq_some_iff.1 hx).2] at h1
    rw [Nat.zero_add]
    simp only [World.cell?, hg]
    simpa using h1

theorem str_nm (P : ByteArray) : sr.strL P.data.toList = .string P := by simp [sr.strL]

set_option maxRecDepth 100000 in
set_option maxHeartbeats 4000000 in
theorem names_any (md : Option Nat) (a : Option Addr) (c : Nat) (us : List ty.Un) (L : List Nat) (v : Value) (w : World) (hb : ty.SrcUn md w a us) (hw : ty.wtUn us ≤ 1048576) (hn : us.length ≤ 100) (hR : RdN w v L) (hL : ∀ x ∈ L, x < us.length) (hl : L.length ≤ 1000) :
    Calls Try.prog 20 #[.slice a us.length c, v] w fun e w' => (∃ v', e = .returned v' ∧ sr.OwnS w.heap.size w' v' (L.map (nAt us))) ∧ Below w.heap.size w w' := by
  obtain ⟨ad, cap, rfl, hc⟩ := hR
  have HC := Lib.hid hc
  have HLT := Lib.hid hL
  have HNM : Hid (∀ (x : Nat) (u : ty.Un), us[x]? = some u → ∃ b o, a = some ⟨b, o, none⟩ ∧ u.fName.size ≤ 1048576 ∧ ∀ W, Below w.heap.size w W → W.cell? ⟨b, o + x * 5, none⟩ = some (.string u.fName)) := fun x u hu => by
    rcases hb with h | ⟨b, o, e, _, hc⟩
    · rw [h.2] at hu; simp at hu
    obtain ⟨d1, e1, d2, e2, q0, q1, q2, q3, q4, s1, s2, _⟩ := hc x u hu
    have hwx := ty.wtUn_mem (List.mem_of_getElem? hu)
    unfold ty.wt1Un at hwx
    exact ⟨b, o, e, by omega, fun W h => (h.cell (p := ⟨b, _, none⟩) (World.block_lt_of_cell? _ _ q0)).trans q0⟩
  obtain ⟨m, hmm⟩ : ∃ m, L.length = m := ⟨_, rfl⟩
  have HM : Hid (L.length = m) := hmm
  rw [hmm] at hl ⊢
  obtain ⟨n, hnn⟩ : ∃ n, us.length = n := ⟨_, rfl⟩
  have HN : Hid (us.length = n) := hnn
  rw [hnn] at hn ⊢
  have HZ : Hid ((w.alloc (.cells #[] 9)).ownsRow w.heap.size 9 1 (.slice (some ⟨w.heap.size, 0, none⟩) 0 0) (((L.take 0).map (nAt us))).length (((L.take 0).map (nAt us)).map sr.strL)) := sr.own_zero w
  clear hb hw hc hL hmm hnn
  go_enter Try.func20, Try.ntmps20
  go_wp2
  go_loopw [5, 7, 11] (fun v _ y wr => ∃ k : Nat, k ≤ m ∧ y = .int .i64 (k : Int) ∧ sr.OwnS w.heap.size wr v ((L.take k).map (nAt us)) ∧ Below w.heap.size w wr) (fun _ _ y _ => m - (intOf y).toNat)
  case atStart => exact ⟨0, Nat.zero_le _, rfl, ⟨HZ.out, sr.not_nil _ _ _⟩, (Below.refl _ _).alloc (Nat.le_refl _) _⟩
  case round =>
    obtain ⟨k, hk, rfl, hown, hbel⟩ := hrel
    have HOW := Lib.hid hown
    have HBE := Lib.hid hbel
    clear hown
    by_cases hkl : k < m
    · have hkl' : (k : Int) < (m : Int) := by omega
      have hk0 : (0 : Int) ≤ (k : Int) := by omega
      obtain ⟨x, hx⟩ : ∃ x, L[k]? = some x := ⟨_, List.getElem?_eq_getElem (by rw [HM.out]; exact hkl)⟩
      obtain ⟨bb, off, rfl, hcc⟩ := HC.out k x hx
      have c0 := (hbel.cell (p := ⟨bb, _, none⟩) (World.block_lt_of_cell? _ _ hcc)).trans hcc
      have hxn : x < n := by have := HLT.out x (List.mem_of_getElem? hx); have := HN.out; omega
      have hxi : (x : Int) < (n : Int) := by omega
      have hx0 : (0 : Int) ≤ (x : Int) := by omega
      obtain ⟨u, hu⟩ : ∃ u, us[x]? = some u := ⟨_, List.getElem?_eq_getElem (by rw [HN.out]; exact hxn)⟩
      obtain ⟨b, o, rfl, hsz, hcn⟩ := HNM.out x u hu
      have c1 := hcn wr hbel
      have HTK : Hid ((L.take (k + 1)).map (nAt us) = (L.take k).map (nAt us) ++ [u.fName.data.toList]) := by
        show _ = _
        rw [List.take_add_one, hx, Option.toList_some, List.map_append, List.map_singleton, nAt_some hu]
        rfl
      have HLK : Hid (((L.take k).map (nAt us)).length ≤ 1000) := by show _ ≤ _; rw [List.length_map, List.length_take]; omega
      have HCL := Lib.hid (fun W : World => cl.clone_any u.fName W (by omega))
      generalize u.fName = P at *
      clear hcc hcn hx hu hsz hbel
      go_wp2_with (go_at_call 40; refine (HCL.out _).mono ?_; rintro e w1 ⟨rfl, hl1⟩; refine Hid.out ?_)
      refine Lib.hid ?_
      have HO1 := Lib.hid (own_below HOW.out.1 (hl1.alloc hl1.size (.cells #[.string P] 9)))
      have HB1 := Lib.hid ((HBE.out.trans (hl1.mono HBE.out.size)).alloc (HBE.out.trans (hl1.mono HBE.out.size)).size (.cells #[.string P] 9))
      have HN1 : Hid (∀ j u, ([P.data.toList].map sr.strL)[j]? = some u → (w1.alloc (.cells #[.string P] 9)).cell? ((⟨w1.heap.size, 0, none⟩ : Addr).add j) = some u) := by
        have h := sr.one_at w1 P.data.toList
        rw [str_nm] at h
        exact h
      clear hl1
      go_wp2_with (at_builtin; refine sr.app_str _ rfl _ _ rfl w.heap.size _ _ rfl HO1.out HOW.out.2 ⟨w1.heap.size, 0, none⟩ 1 _ [P.data.toList] rfl rfl HN1.out (by have := HLK.out; omega) (by have := HB1.out.size; omega) ?_; intro v3 w3 ho3 hv3 hg3; refine Hid.out ?_)
      refine Lib.hid ?_
      have HO3 : Hid (sr.OwnS w.heap.size w3 v3 ((L.take (k + 1)).map (nAt us))) := by show sr.OwnS _ _ _ _; rw [HTK.out]; exact ⟨ho3, hv3⟩
      have HB3 := Lib.hid (below_grownS HB1.out HO1.out hg3 HB1.out.size)
      clear ho3 hv3 hg3
      go_wp2
      go_roundw
      case rel => exact ⟨k + 1, by omega, by go_num, HO3.out, HB3.out⟩
      case measure => simp [intOf]; omega
    · have hkl' : ¬ (k : Int) < (m : Int) := by omega
      obtain rfl : k = m := by omega
      have HE : Hid (sr.OwnS w.heap.size wr u5 (L.map (nAt us))) := by
        have h := HOW.out
        rw [List.take_of_length_le (by rw [HM.out]; exact Nat.le_refl _)] at h
        exact h
      clear hbel
      go_wp2
      go_ret
      exact ⟨⟨_, rfl, HE.out⟩, HBE.out⟩

end Go.Proofs.Ytbhhigmdmjlkaaa.fa
