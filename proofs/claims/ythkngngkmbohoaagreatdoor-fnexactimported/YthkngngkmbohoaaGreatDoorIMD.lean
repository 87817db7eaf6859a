import Derived.Test.YthkngngkmbohoaaGreatDoorIMB
import Derived.Test.YthkngngkmbohoaaGreatDoorIMC
import Derived.Test.YthkngngkmbohoaaGreatDoorTI
import Derived.Test.YthkngngkmbohoaaGreatDoorYC
import Derived.Test.YthkngngkmbohoaaGreatDoorIT
import Derived.Test.YthkngngkmbohoaaGreatDoorKC
import Derived.Maps.Own
import Derived.Maps.OwnOps
import Derived.Maps.OwnSet
import Derived.Maps.Views
import Derived.Maps.AppendAt
import Derived.Lib.SlKeysI
import Derived.Sort.OwnSortedInts
import Derived.Handy
import Derived.Deep.LoopGhost
namespace Go.Proofs.YthkngngkmbohoaaGreatDoor.im
open Go.ChangeShapes Go.WideShapes Go.ChangeAt Go.RowKit Go.Deep Go.Shelf Go.Maps Go.Sort
set_option linter.unusedVariables false
set_option linter.unusedSimpArgs false

/-! ### Imported: sets of numbers, rows of modules, the program's side -/

def nV (l : List Nat) : List Value := l.map fun (n : Nat) => Value.int .i64 (n : Int)
theorem nV_at {l : List Nat} {j : Nat} (h : j < l.length) : (nV l)[j]? = some (.int .i64 (l[j] : Int)) := by simp [nV, h]
abbrev OwN (w : World) (b n : Nat) (D : DataW Unit) : Prop := w.ownsMap Tryz.prog 3 unitElem b n D
/-- A set of numbers. -/
def StN (w : World) (b n : Nat) (F : List Nat) : Prop := ∃ D : DataW Unit, OwN w b n D ∧ ∀ x : Int, Maps.has D (.int .i64 x) = true ↔ ∃ k ∈ F, ((k : Nat) : Int) = x
theorem keyN (x : Nat) (hx : x ≤ 1048576) : keyOf Tryz.prog 3 (.int .i64 (x : Int)) = some (.int .i64 (x : Int)) := keyOf_int_mk Tryz.underlying3 (by
  have h1 : (-9223372036854775808 : Int) ≤ (x : Int) := by omega
  have h2 : (x : Int) ≤ 9223372036854775807 := by omega
  unfold Lit.wf
  simp only [Bool.and_eq_true, decide_eq_true_eq]
  exact ⟨h1, h2⟩)
theorem keyedN : Keyed Tryz.prog 3 := int_keyed Tryz.underlying3
theorem StN.below {w w' : World} {b n : Nat} {F : List Nat} (h : StN w b n F) (k : Below w.heap.size w w') : StN w' b n F := by
  obtain ⟨D, h1, h2⟩ := h
  exact ⟨D, h1.kept (row := none) ⟨k.os, k.tape, k.output, k.size, fun j hj _ => k.block j hj⟩ (by simp), h2⟩
theorem StN.grown {w w' : World} {b n g : Nat} {F : List Nat} (h : StN w b n F) (k : w.grownBy w' (some g)) (hg : b ≠ g) : StN w' b n F := by
  obtain ⟨D, h1, h2⟩ := h
  exact ⟨D, h1.kept (row := some g) k (fun e => hg (Option.some.inj e)), h2⟩
theorem StN.lt {w : World} {b n : Nat} {F : List Nat} (h : StN w b n F) : b < w.heap.size := by
  obtain ⟨D, h1, _⟩ := h
  exact h1.lt
theorem StN.zero (w : World) : StN (w.alloc (.map #[] 0)) w.heap.size 0 [] := ⟨.map [], World.ownsMap_made w Tryz.prog 3 _, fun x => by simp [Maps.has]⟩

set_option maxRecDepth 100000 in
theorem addN_any (x : Nat) (hx : x ≤ 1048576) (b n : Nat) (hn : n ≤ 1048577) (F : List Nat) (w : World) (h : StN w b n F) :
    Calls Tryz.prog 42 #[.map (some b), .int .i64 (x : Int)] w fun e w' => (∃ v, e = .returned v) ∧ StN w' b (n + 1) (F ++ [x]) ∧ w.grownBy w' (some b) := by
  obtain ⟨D, h, hh⟩ := h
  have hkey := keyN x hx
  have HP : Hid (∀ y : Int, Maps.has (D.put (.int .i64 (x : Int)) (.agg [])) (.int .i64 y) = true ↔ ∃ k ∈ F ++ [x], ((k : Nat) : Int) = y) := fun y => by
    by_cases e : y = (x : Int)
    · subst e
      rw [has_put_same h.isMap (show WideAt.IsKeyLit (.int .i64 (x : Int)) from trivial)]
      simp
    · rw [has_put_other (by simpa using e), hh y]
      constructor
      · rintro ⟨k, hk, e2⟩
        exact ⟨k, List.mem_append_left _ hk, e2⟩
      · rintro ⟨k, hk, e2⟩
        rcases List.mem_append.1 hk with hk | hk
        · exact ⟨k, hk, e2⟩
        · simp only [List.mem_singleton] at hk
          subst hk
          exact absurd e2.symm e
  clear hh
  go_enter Tryz.func42, Tryz.ntmps42
  go_wp2_with (first
    | (at_mapUpdate; refine wpList_mapUpdate_own _ rfl _ _ _ 69 rfl 3 79 keyedN Tryz.underlying69 _ b n D rfl h (by unfold maxLen; omega) _ _ _ rfl rfl hkey _ [] unitElem_mk ?_; intro wu hownu hgu)
    | go_in)
  go_returns
  exact ⟨⟨_, rfl⟩, ⟨_, hownu, HP.out⟩, hgu⟩

set_option maxRecDepth 100000 in
theorem hasN_any (x : Nat) (hx : x ≤ 1048576) (b n : Nat) (F : List Nat) (w : World) (h : StN w b n F) :
    Calls Tryz.prog 41 #[.map (some b), .int .i64 (x : Int)] w fun e w' => e = .returned (.bool (decide (x ∈ F))) ∧ Below w.heap.size w w' := by
  obtain ⟨D, h, hh⟩ := h
  have hkey := keyN x hx
  have HE : Hid (Maps.has D (.int .i64 (x : Int)) = decide (x ∈ F)) := by
    show _ = _
    rw [Bool.eq_iff_iff, hh, decide_eq_true_eq]
    constructor
    · rintro ⟨k, hk, e⟩
      obtain rfl : k = x := by omega
      exact hk
    · intro hk
      exact ⟨x, hk, rfl⟩
  rw [← HE.out]
  clear hh HE
  go_enter Tryz.func41, Tryz.ntmps41
  go_wp2_with (first
    | (at_lookup; refine wpList_lookup_own_unit _ rfl _ _ 69 rfl 3 79 keyedN Tryz.underlying69 (Tryz.zeroValue79 _) b n D rfl h _ _ rfl hkey ?_)
    | go_in)
  go_ret
  exact ⟨rfl, (Below.refl _ _).alloc (Nat.le_refl _) _⟩

/-- The keys, sorted, are the ascending list of the same numbers. -/
theorem keysN_sorted {w : World} {b N : Nat} {D : DataW Unit} (hown : OwN w b N D) {ss : List Int} {L : List Nat} (hp : ss.Perm (intKeys D)) (hL : L.Pairwise (· < ·)) (hm : ∀ x : Int, Maps.has D (.int .i64 x) = true ↔ ∃ k ∈ L, ((k : Nat) : Int) = x) : ss.mergeSort (fun x y => decide (x ≤ y)) = L.map fun (k : Nat) => (k : Int) := by
  have hnd : (L.map fun (k : Nat) => (k : Int)).Nodup := List.pairwise_map.2 (hL.imp fun h e => by omega)
  have hp2 : (L.map fun (k : Nat) => (k : Int)).Perm (intKeys D) := by
    obtain ⟨es, hD, hpw, _⟩ := hown.entries keyedN
    obtain ⟨es', hD', hko⟩ := hown.keysOf
    obtain rfl : es = es' := by rw [hD] at hD'; simpa using hD'
    subst hD
    exact perm_intKeys hpw (fun p hp => by obtain ⟨v, hv⟩ := hko p hp; obtain ⟨x, _, hx, _⟩ := Maps.keyOf_i64 Tryz.underlying3 hv; exact ⟨x, hx⟩) hnd (fun x => by rw [List.mem_map]; exact (hm x).symm)
  have e2 : (L.map fun (k : Nat) => (k : Int)).mergeSort leI = L.map fun (k : Nat) => (k : Int) := List.mergeSort_of_pairwise (List.pairwise_map.2 (hL.imp fun hab => by simp only [leI, decide_eq_true_eq]; omega))
  exact (mergeSort_of_perm_i (hp.trans hp2.symm)).trans e2

theorem encN (L : List Nat) : (L.map fun (k : Nat) => (k : Int)).map encZ = nV L := by
  unfold nV
  rw [List.map_map]
  rfl

/-- slices.Sorted(maps.Keys(set)): the numbers, ascending; nil where there are none. -/
theorem sortedN_any (b n : Nat) (F L : List Nat) (w : World) (h : StN w b n F) (hL : L.Pairwise (· < ·)) (hm : ∀ x, x ∈ L ↔ x ∈ F) (hn : n ≤ 1048577) :
    Calls Tryz.prog 43 #[.func (.func 67) #[] #[.pointer (some ⟨w.heap.size, 0, none⟩)]] (w.alloc (.cells #[.map (some b)] 69)) fun e w' => (∃ v, e = .returned v ∧ w'.ownsRow (w.heap.size + 1) 3 1 v L.length (nV L)) ∧ Below (w.heap.size + 1) (w.alloc (.cells #[.map (some b)] 69)) w' := by
  obtain ⟨D, h1, h2⟩ := h
  have hsz := h1.size_le
  refine (callsIn_wide.1 (Tryz.slices_Sorted_keys_43_44 b n D _ w h1 (by unfold maxLen; omega) (by omega))).mono ?_
  rintro e w' ⟨v, ss, rfl, hS, hrow, _, hb⟩
  have e1 := keysN_sorted h1 hS hL (fun x => by
    rw [h2 x]
    constructor
    · rintro ⟨k, hk, e⟩
      exact ⟨k, (hm k).2 hk, e⟩
    · rintro ⟨k, hk, e⟩
      exact ⟨k, (hm k).1 hk, e⟩)
  have hlen : ss.length = L.length := by rw [← List.length_mergeSort (le := fun x y => decide (x ≤ y)), e1, List.length_map]
  rw [e1, encN, hlen, World.size_alloc] at hrow
  rw [World.size_alloc] at hb
  exact ⟨⟨v, rfl, hrow⟩, hb⟩


theorem own_cells' {w : World} {base e size g n cap : Nat} {xs : List Value} (h : w.ownsRow base e size (.slice (some ⟨g, 0, none⟩) n cap) n xs) : (∃ f, w.rowIs g e (cap * size) f) ∧ n ≤ cap ∧ base ≤ g ∧ ∀ j u, xs[j]? = some u → w.cell? ⟨g, j, none⟩ = some u := by
  rcases h.2 with ⟨h1, _⟩ | ⟨g', cap', cur, h1, hb, hg, hnc, hcm, hcs, htk⟩
  · cases h1
  · cases h1
    refine ⟨⟨fun j => cur[j]?.getD undef, cur, hg, hcs, fun i hi => by have hq : cur[i]? = some (cur[i]'(by omega)) := Array.getElem?_eq_getElem _; simp [hq]⟩, hnc, hb, fun j u hj => ?_⟩
    have hjl := (List.getElem?_eq_some_iff.1 hj).1
    rw [h.1] at hjl
    rw [← htk, List.getElem?_take_of_lt hjl, Array.getElem?_toList] at hj
    simp [World.cell?, hg, hj]

theorem cells_newI (W : World) (k : Nat) (hk : k = W.heap.size) (e : TypeId) (vs : List Value) : ∀ j u, vs[j]? = some u → (W.alloc (.cells vs.toArray e)).cell? ((⟨k, 0, none⟩ : Addr).add j) = some u := by
  subst hk
  intro j u h
  have hc : (W.alloc (.cells vs.toArray e)).cell? ⟨W.heap.size, j, none⟩ = vs.toArray[j]? := World.cell?_alloc_new W _ _ j
  rw [addr_add, Nat.zero_add, hc, ← h]
  simp
theorem own_belowI {w w' : World} {base e size n : Nat} {v : Value} {xs : List Value} (h : w.ownsRow base e size v n xs) (hb : Below w.heap.size w w') : w'.ownsRow base e size v n xs := World.ownsRow.kept h (row := none) ⟨hb.os, hb.tape, hb.output, hb.size, fun j hj _ => hb.block j hj⟩ (Classical.em _)

/-- A module as it lies in a row of its own. -/
structure Mz where
  nm : ByteArray
  a1 : Option Addr
  n1 : Nat
  c1 : Nat
  a2 : Option Addr
  n2 : Nat
  c2 : Nat
  a3 : Option Addr
  n3 : Nat
  c3 : Nat
def mzC (z : Mz) : List Value := [.string z.nm, .slice z.a1 z.n1 z.c1, .slice z.a2 z.n2 z.c2, .slice z.a3 z.n3 z.c3]
def mtC : List Mz → List Value
  | [] => []
  | z :: l => mzC z ++ mtC l
theorem mtC_app : ∀ l m : List Mz, mtC (l ++ m) = mtC l ++ mtC m
  | [], m => rfl
  | z :: l, m => by rw [List.cons_append, mtC, mtC, mtC_app l m, List.append_assoc]
theorem mtC_at : ∀ {l : List Mz} {i : Nat} {z : Mz}, l[i]? = some z → ∀ r, r < 4 → (mtC l)[i * 4 + r]? = (mzC z)[r]?
  | y :: l, 0, z, h, r, hr => by
    cases h
    rw [mtC, Nat.zero_mul, Nat.zero_add, List.getElem?_append_left (by show r < 4; exact hr)]
  | y :: l, i + 1, z, h, r, hr => by
    rw [mtC, List.getElem?_append_right (by show 4 ≤ _; omega)]
    have : (i + 1) * 4 + r - (mzC y).length = i * 4 + r := by show (i + 1) * 4 + r - 4 = _; omega
    rw [this]
    exact mtC_at (l := l) (by simpa using h) r hr
theorem mzC_one (z : Mz) : ∀ u ∈ mzC z, u.oneCell' = true := by
  intro u hu
  simp only [mzC, List.mem_cons, List.not_mem_nil, or_false] at hu
  rcases hu with rfl | rfl | rfl | rfl <;> rfl
structure RwM (base : Nat) (w : World) (v : Value) (zs : List Mz) : Prop where
  own : w.ownsRow base 45 4 v zs.length (mtC zs)
  nn : v ≠ .slice none 0 0
theorem RwM.below {base : Nat} {w w' : World} {v : Value} {zs : List Mz} (h : RwM base w v zs) (hb : Below w.heap.size w w') : RwM base w' v zs := ⟨own_belowI h.own hb, h.nn⟩
theorem RwM.shape {base : Nat} {w : World} {v : Value} {zs : List Mz} (h : RwM base w v zs) : ∃ g c, v = .slice (some ⟨g, 0, none⟩) zs.length c ∧ base ≤ g ∧ ∀ (i : Nat) (z : Mz), zs[i]? = some z → w.cell? ⟨g, i * 4, none⟩ = some (.string z.nm) ∧ w.cell? ⟨g, i * 4 + 1, none⟩ = some (.slice z.a1 z.n1 z.c1) ∧ w.cell? ⟨g, i * 4 + 2, none⟩ = some (.slice z.a2 z.n2 z.c2) ∧ w.cell? ⟨g, i * 4 + 3, none⟩ = some (.slice z.a3 z.n3 z.c3) := by
  rcases h.own.2 with ⟨h1, _⟩ | ⟨g, c, cur, h1, _⟩
  · exact absurd h1 h.nn
  · subst h1
    obtain ⟨_, _, k3, k4⟩ := own_cells' h.own
    refine ⟨g, c, rfl, k3, fun i z hz => ⟨?_, ?_, ?_, ?_⟩⟩
    · exact k4 (i * 4 + 0) _ ((mtC_at hz 0 (by omega)).trans rfl)
    · exact k4 _ _ ((mtC_at hz 1 (by omega)).trans rfl)
    · exact k4 _ _ ((mtC_at hz 2 (by omega)).trans rfl)
    · exact k4 _ _ ((mtC_at hz 3 (by omega)).trans rfl)
theorem rwm_nil (w : World) : RwM w.heap.size (w.alloc (.cells #[] 45)) (.slice (some ⟨w.heap.size, 0, none⟩) 0 0) [] :=
  ⟨⟨rfl, .inr ⟨w.heap.size, 0, #[], rfl, Nat.le_refl _, heap_alloc_new w _, Nat.le_refl _, Nat.zero_le _, by simp, by simp [mtC]⟩⟩, by intro e; cases e⟩
theorem RwM.mono {B B' : Nat} {w : World} {v : Value} {zs : List Mz} (h : RwM B w v zs) (hb : B' ≤ B) : RwM B' w v zs := ⟨by
  obtain ⟨h1, h2⟩ := h.own
  refine ⟨h1, ?_⟩
  rcases h2 with h2 | ⟨g, c, cur, k1, k2, k3⟩
  · exact .inl h2
  · exact .inr ⟨g, c, cur, k1, Nat.le_trans hb k2, k3⟩, h.nn⟩

theorem app_md (w : World) {ops : Array Oper} {rest : List Oper} {o : Oper} {a : Act} {Q : Exit → Act → World → Prop} (hgd : o.guard = none) (s x : Operand)
    (ho : o.op = .call { callee := .builtin .append, args := #[s, x], argTypes := #[27, 27] })
    (base : Nat) (v : Value) (zs : List Mz) (hs : a.eval s = v) (hown : RwM base w v zs)
    (ad : Addr) (c : Nat) (z : Mz) (hx : a.eval x = .slice (some ad) 1 c) (hnews : ∀ j u, (mzC z)[j]? = some u → w.cell? (ad.add j) = some u)
    (h63 : zs.length ≤ 400000000) (hbase : base ≤ w.heap.size)
    (h : ∀ v' w', RwM base w' v' (zs ++ [z]) → w.grownBy w' v.ownBlock → (v'.ownBlock = v.ownBlock ∨ v'.ownBlock = some w.heap.size) → wpList Tryz.prog ops Q rest (a.put o.dst v') w') : wpList Tryz.prog ops Q (o :: rest) a w := by
  obtain ⟨i, hi, hzz⟩ := Option.map_eq_some_iff.1 ty.infoMd
  simp only [Prod.mk.injEq] at hzz
  obtain ⟨hz, hsi, hb⟩ := hzz
  refine wpList_append_own_at w hgd s x 27 ho base 45 i _ 4 88 Tryz.underlying27 hi hz hsi hb rfl (by decide) v zs.length (mtC zs) hs hown.own ad 1 c (mzC z) hx rfl hnews (mzC_one z) (by unfold maxLen; omega) (by omega) hbase (fun v' w' p q r r2 => h v' w' ⟨?_, fun e => hown.nn (r.1 e).1⟩ q r2)
  rw [mtC_app, show mtC [z] = mzC z by rw [mtC, mtC, List.append_nil], List.length_append]
  exact p

/-- An append of texts to the work list, as an operation in a row. -/
theorem app_wk {w : World} {ops : Array Oper} {rest : List Oper} {o : Oper} {a : Act} {Q : Exit → Act → World → Prop} (hgd : o.guard = none) (s y : Operand) (ho : o.op = .call { callee := .builtin .append, args := #[s, y], argTypes := #[23, 23] })
    {base g of cap nl nm R : Nat} {l m : List (List UInt8)} {ad : Addr} {c : Nat} (hl : l.length = nl) (hm' : m.length = nm) (hR : nl + nm = R) (hs : a.eval s = .slice (some ⟨g, of, none⟩) nl cap) (hx : a.eval y = .slice (some ad) nm c) (h : ti.Ib base w g of cap l) (hB : base ≤ w.heap.size) (hm : ∀ j u, (ti.nV m)[j]? = some u → w.cell? (ad.add j) = some u) (hz : nl + nm ≤ 1099511627)
    (k : ∀ g' o' cap' w', ti.Ap base w g w' g' o' cap' (l ++ m) → wpList Tryz.prog ops Q rest (a.put o.dst (.slice (some ⟨g', o', none⟩) R cap')) w') : wpList Tryz.prog ops Q (o :: rest) a w := by
  subst hl hm'
  obtain ⟨g', o', cap', w', hr, hA⟩ := ti.run_strs h hB ad c hm hz
  rw [List.length_append, hR] at hr
  refine wpList_plain hgd fun K hK => ?_
  unfold Oper.wp execOp
  simp only [ho, resolve, invoke, builtin, Sem.run_bind, Sem.run_pure, Result.andThen_ok, List.map_toArray, List.map_cons, List.map_nil, hs, hx, hr o.type]
  exact hK _ _ (k g' o' cap' w' hA)

theorem nodup_lenN {F L : List Nat} (hn : F.Nodup) (hs : ∀ x ∈ F, x ∈ L) : F.length ≤ L.length := by
  induction F generalizing L with
  | nil => simp
  | cons a F ih =>
    rw [List.nodup_cons] at hn
    have ha := hs a (by simp)
    have h1 := ih (L := L.erase a) hn.2 (fun x hx => (List.mem_erase_of_ne (show x ≠ a from fun e => hn.1 (by rw [← e]; exact hx))).2 (hs x (by simp [hx])))
    rw [List.length_erase_of_mem ha] at h1
    have := List.length_pos_of_mem ha
    rw [List.length_cons]
    omega
theorem nodup_lt {n : Nat} {F : List Nat} (hn : F.Nodup) (hs : ∀ x ∈ F, x < n) : F.length ≤ n := by
  have := nodup_lenN (L := List.range n) hn fun x hx => List.mem_range.2 (hs x hx)
  rwa [List.length_range] at this

/-- What lies about while names are looked at. -/
structure ImS (us : List ty.Md) (B0 mb : Nat) (w : World) (g o cap : Nat) (Wk : List (List UInt8)) (F : List Nat) : Prop where
  ib : ti.Ib B0 w g o cap Wk
  st : StN w mb F.length F
  dg : g ≠ mb
theorem ImS.below {us : List ty.Md} {B0 mb : Nat} {w w' : World} {g o cap : Nat} {Wk : List (List UInt8)} {F : List Nat} (h : ImS us B0 mb w g o cap Wk F) (hb : Below w.heap.size w w') : ImS us B0 mb w' g o cap Wk F := ⟨h.ib.below hb, h.st.below hb, h.dg⟩
theorem ImS.tail {us : List ty.Md} {B0 mb : Nat} {w : World} {g o cap : Nat} {x : List UInt8} {Wk : List (List UInt8)} {F : List Nat} (h : ImS us B0 mb w g o cap (x :: Wk) F) : ∃ o', (if cap = 1 then some (⟨g, o, none⟩ : Addr) else some ⟨g, o + 1, none⟩) = some ⟨g, o', none⟩ ∧ ImS us B0 mb w g o' (cap - 1) Wk F := by
  obtain ⟨o', e, hi⟩ := h.ib.tail
  exact ⟨o', e, hi, h.st, h.dg⟩
theorem ImS.add {us : List ty.Md} {B0 mb : Nat} {w w' : World} {g o cap : Nat} {Wk : List (List UInt8)} {F F' : List Nat} (h : ImS us B0 mb w g o cap Wk F) (hs : StN w' mb F'.length F') (hg : w.grownBy w' (some mb)) : ImS us B0 mb w' g o cap Wk F' := ⟨h.ib.kept hg.size (hg.block _ h.ib.lt fun e => h.dg (Option.some.inj e)), hs, h.dg⟩
theorem ImS.app {us : List ty.Md} {B0 mb : Nat} {w w' : World} {g o cap g' o' cap' : Nat} {Wk Wk' : List (List UInt8)} {F : List Nat} (h : ImS us B0 mb w g o cap Wk F) (hA : ti.Ap B0 w g w' g' o' cap' Wk') : ImS us B0 mb w' g' o' cap' Wk' F := by
  have hM := h.st.lt
  have hd := h.dg
  refine ⟨hA.ib, h.st.grown hA.grown (Ne.symm h.dg), ?_⟩
  rcases hA.here with rfl | e
  · exact h.dg
  · omega

/-- The names of the numbers found. -/
def nmS (us : List ty.Md) (F : List Nat) (q : List UInt8) : Prop := ∃ i ∈ F, nAt us i = q
/-- A row of numbers in a block that is known, perhaps nil. -/
def RdG (w : World) (v : Value) (gs : Nat) (L : List Nat) : Prop := ∃ a c, v = .slice a L.length c ∧ ∀ (i x : Nat), L[i]? = some x → a = some ⟨gs, 0, none⟩ ∧ w.cell? ⟨gs, i, none⟩ = some (.int .i64 (x : Int))
theorem rdg_own {w : World} {base : Nat} {v : Value} {L : List Nat} (h : w.ownsRow base 3 1 v L.length (nV L)) : ∃ gs, base ≤ gs ∧ RdG w v gs L := by
  rcases h.2 with ⟨e, h0⟩ | ⟨g, cap, cur, e, hb, hg, hnc, hcm, hcs, htk⟩
  · have hl : L.length = 0 := by first | exact h0 | exact h0.1 | (simpa [nV] using h0) | omega
    obtain rfl := List.eq_nil_of_length_eq_zero hl
    exact ⟨base, Nat.le_refl _, none, 0, e, fun i x hx => by simp at hx⟩
  · refine ⟨g, hb, some ⟨g, 0, none⟩, cap, e, fun i x hx => ⟨rfl, ?_⟩⟩
    have hi := (List.getElem?_eq_some_iff.1 hx).1
    have h1 : (cur.toList.take (L.length * 1))[i]? = (nV L)[i]? := by rw [htk]
    rw [Nat.mul_one, List.getElem?_take_of_lt hi, nV_at hi, (List.getElem?_eq_some_iff.1 hx).2] at h1
    simp only [World.cell?, hg]
    simpa using h1

end Go.Proofs.YthkngngkmbohoaaGreatDoor.im
