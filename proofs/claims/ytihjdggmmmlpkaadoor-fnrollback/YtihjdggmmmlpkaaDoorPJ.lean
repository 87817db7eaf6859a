import Derived.Test.YtihjdggmmmlpkaaDoorPH
import Derived.Shelf.Spec.SlicesInsert
import Derived.Lib.AppendZerosOnto
import Derived.Laws.NewBlocks
import Derived.Laws.CopyOwn
import Derived.Shelf.RegionOpenPlain
namespace Go.Proofs.YtihjdggmmmlpkaaDoor.pf
open Go.ChangeShapes Go.WideShapes Go.ChangeAt Go.RowKit Go.Deep Go.Maps Go.Lib
set_option linter.unusedVariables false
set_option linter.unusedSimpArgs false

/-! ### Profiles: slices.Insert of one, where there is no room -/

/-- The cells that a list lies in. -/
theorem OwP.cells {lo hi : Nat} {w : World} {b : Nat} {gs : Nat → Nat} {ps : List Pr} (h : OwP lo hi w b gs ps) : ∃ zs : List Pz, zs.map Pz.x = ps ∧ (∀ (i : Nat) (z : Pz), zs[i]? = some z → z.g = gs i ∧ GC w z.g z.x.gens.length z.c) ∧ ∀ j u, (prC zs)[j]? = some u → w.cell? ⟨b, j, none⟩ = some u := by
  have hc : ∀ i : Nat, ∃ c, ∀ x : Pr, ps[i]? = some x → GC w (gs i) x.gens.length c ∧ w.cell? ⟨b, i * 3, none⟩ = some (.string x.name) ∧ w.cell? ⟨b, i * 3 + 1, none⟩ = some (.int .i64 x.now) ∧ w.cell? ⟨b, i * 3 + 2, none⟩ = some (.slice (some ⟨gs i, 0, none⟩) x.gens.length c) := fun i => by
    cases hx : ps[i]? with
    | none => exact ⟨0, fun x hx => by cases hx⟩
    | some y =>
      obtain ⟨c, q0, q1, q2, q3, _⟩ := h.ent i y hx
      exact ⟨c, fun x hx => by cases hx; exact ⟨q0, q1, q2, q3⟩⟩
  obtain ⟨f, hf⟩ := Classical.axiomOfChoice hc
  have hl : ∀ i, i < ps.length → ((List.range ps.length).map fun i => (⟨ps[i]?.getD default, gs i, f i⟩ : Pz))[i]? = some ⟨ps[i]?.getD default, gs i, f i⟩ := fun i hi => by simp [hi]
  refine ⟨(List.range ps.length).map fun i => ⟨ps[i]?.getD default, gs i, f i⟩, ?_, fun i z hz => ?_, fun j u hj => ?_⟩
  · apply List.ext_getElem?
    intro i
    rw [List.map_map, List.getElem?_map]
    rcases Nat.lt_or_ge i ps.length with hi | hi
    · simp [hi]
    · simp [hi, List.getElem?_eq_none hi]
  · have hi : i < ps.length := by have := (List.getElem?_eq_some_iff.1 hz).1; simpa using this
    rw [hl i hi] at hz
    cases hz
    have hx : ps[i]? = some ps[i] := List.getElem?_eq_getElem hi
    refine ⟨rfl, ?_⟩
    show GC w (gs i) (ps[i]?.getD default).gens.length (f i)
    rw [hx]
    exact (hf i _ hx).1
  · have hjl := (List.getElem?_eq_some_iff.1 hj).1
    rw [prC_len, List.length_map, List.length_range] at hjl
    have hi : j / 3 < ps.length := by omega
    have hx : ps[j / 3]? = some ps[j / 3] := List.getElem?_eq_getElem hi
    obtain ⟨p0, p1, p2⟩ := prC_at (hl _ hi)
    obtain ⟨_, q1, q2, q3⟩ := hf (j / 3) _ hx
    rw [hx] at p0 p1 p2
    have h3 : j = j / 3 * 3 ∨ j = j / 3 * 3 + 1 ∨ j = j / 3 * 3 + 2 := by omega
    rcases h3 with h3 | h3 | h3
    · rw [← h3] at p0 q1; rw [hj] at p0; cases p0; exact q1
    · rw [← h3] at p1 q2; rw [hj] at p1; cases p1; exact q2
    · rw [← h3] at p2 q3; rw [hj] at p2; cases p2; exact q3

/-- .. and back. -/
theorem cells_owP {lo hi : Nat} {w : World} {b N : Nat} {f : Nat → Value} {zs : List Pz} (hlo : lo ≤ b) (hbh : b < hi) (hhi : hi ≤ w.heap.size) (hr : w.rowIs b 40 N f) (hN : zs.length * 3 ≤ N) (hc : ∀ j u, (prC zs)[j]? = some u → w.cell? ⟨b, j, none⟩ = some u)
    (he : ∀ (i : Nat) (z : Pz), zs[i]? = some z → OwG w z.g z.x.gens ∧ lo ≤ z.g ∧ z.g < hi ∧ GC w z.g z.x.gens.length z.c) (hinj : ∀ (i j : Nat) (z y : Pz), i < j → zs[i]? = some z → zs[j]? = some y → z.g ≠ y.g) : OwP lo hi w b (fun i => (zs[i]?.getD default).g) (zs.map Pz.x) := by
  have at' : ∀ i, i < (zs.map Pz.x).length → ∃ z, zs[i]? = some z ∧ (zs[i]?.getD default).g = z.g := fun i hi => by
    rw [List.length_map] at hi
    exact ⟨zs[i], List.getElem?_eq_getElem hi, by rw [List.getElem?_eq_getElem hi]; rfl⟩
  refine ⟨hlo, hbh, hhi, ⟨N, f, by rw [List.length_map]; exact hN, hr⟩, fun i x hx => ?_, fun i hi => ?_, fun i j hij hj => ?_⟩
  · obtain ⟨z, hzi, rfl⟩ : ∃ z, zs[i]? = some z ∧ z.x = x := by rw [List.getElem?_map] at hx; simpa using hx
    obtain ⟨h0, h1, h2⟩ := prC_at hzi
    obtain ⟨g1, g2, g4, g3⟩ := he i z hzi
    refine ⟨z.c, (by show GC w (zs[i]?.getD default).g _ _; rw [hzi]; exact g3), hc _ _ h0, hc _ _ h1, ?_, ?_⟩
    · show w.cell? _ = some (.slice (some ⟨(zs[i]?.getD default).g, 0, none⟩) _ _)
      rw [hzi]
      exact hc _ _ h2
    · show OwG w (zs[i]?.getD default).g _
      rw [hzi]
      exact g1
  · obtain ⟨z, hzi, he'⟩ := at' i hi
    obtain ⟨g1, g2, g4, g3⟩ := he i z hzi
    show lo ≤ (zs[i]?.getD default).g ∧ _ ∧ _
    rw [he']
    exact ⟨g2, g4, g_ne_p g1 hr⟩
  · obtain ⟨z, hzi, he1⟩ := at' i (by omega)
    obtain ⟨y, hyj, he2⟩ := at' j hj
    have := hinj i j z y hij hzi hyj
    show (zs[i]?.getD default).g ≠ (zs[j]?.getD default).g
    rw [he1, he2]
    exact this

theorem prC_take (zs : List Pz) : ∀ i, prC (zs.take i) = (prC zs).take (i * 3) := fun i => by
  induction zs generalizing i with
  | nil => simp [prC]
  | cons z l ih =>
    cases i with
    | zero => simp [prC]
    | succ i => rw [List.take_succ_cons, show (i + 1) * 3 = i * 3 + 1 + 1 + 1 by omega]; simp [prC, ih]
theorem prC_drop (zs : List Pz) : ∀ i, prC (zs.drop i) = (prC zs).drop (i * 3) := fun i => by
  induction zs generalizing i with
  | nil => simp [prC]
  | cons z l ih =>
    cases i with
    | zero => simp
    | succ i => rw [List.drop_succ_cons, show (i + 1) * 3 = i * 3 + 1 + 1 + 1 by omega]; simp [prC, ih]

/-- copy, at elements of any size, into a row that is known whole. -/
theorem run_copy_wide {P : Program} (w : World) (dT sT ty elem : TypeId) (i : TypeInfo) (g o dLen dCap : Nat) (a : Addr) (sLen sCap : Nat) (cur : Array Value) (t : TypeId) (cs : List Value)
    (hu : P.underlying dT = some (.slice elem)) (hi : P.info? elem = some i)
    (hg : w.heap[g]? = some (.cells cur t (0, 0))) (hn : cs.length = Nat.min sLen dLen * i.size) (hm : Nat.min sLen dLen ≤ 9223372036854775807)
    (hsrc : ∀ j v, cs[j]? = some v → w.cell? (a.add j) = some v) (hfit : o + cs.length ≤ cur.size) (h1 : ∀ v ∈ cs, v.oneCell' = true) :
    (Builtin.copy_ #[dT, sT] ty #[.slice (some ⟨g, o, none⟩) dLen dCap, .slice (some a) sLen sCap]).run P w =
      .ok (goInt (Nat.min sLen dLen)) (w.setRow g (cur.toList.take o ++ cs ++ cur.toList.drop (o + cs.length)).toArray) := by
  have hl := run_loadCells_list (P := P) w a cs hsrc
  have hst := run_storeCells_at P g o t cs 0 cur w hg (by simpa using hfit) h1
  simp [Builtin.copy_, run_underlying hu, Builtin.lenOf, Builtin.firstCells, sizeOf, typeInfo, hi, ← hn, hl, hst]

theorem copy_wide_run {P : Program} {w : World} (dT sT ty elem : TypeId) (i : TypeInfo) (hu : P.underlying dT = some (.slice elem)) (hi : P.info? elem = some i)
    (g off dLen dCap : Nat) (ad : Addr) (sLen sCap : Nat) (cur : List Value) (t : TypeId) (hg : w.heap[g]? = some (.cells cur.toArray t (0, 0))) (cs : List Value) (hn : cs.length = Nat.min sLen dLen * i.size) (hm : Nat.min sLen dLen ≤ 9223372036854775807)
    (hsrc : ∀ j v, cs[j]? = some v → w.cell? (ad.add j) = some v) (hfit : off + cs.length ≤ cur.length) (h1 : ∀ v ∈ cs, v.oneCell' = true) :
    ∃ w', (Builtin.copy_ #[dT, sT] ty #[.slice (some ⟨g, off, none⟩) dLen dCap, .slice (some ad) sLen sCap]).run P w = .ok (goInt (Nat.min sLen dLen)) w' ∧ Hid (w'.heap[g]? = some (.cells (splice cur off cs).toArray t (0, 0))) ∧ ∀ B w0, Below B w0 w → B ≤ g → Below B w0 w' := by
  have h := run_copy_wide (P := P) w dT sT ty elem i g off dLen dCap ad sLen sCap cur.toArray t cs hu hi hg hn hm hsrc (by simpa using hfit) h1
  exact ⟨_, h, (show _ = _ by simpa [splice] using setRow_heap w g _ _ t _ hg), fun B w0 hb hB => below_setRow hb hB _⟩

theorem copy_wide_list {P : Program} {w : World} {ops : Array Oper} {rest : List Oper} {o : Oper} {a : Act} {Q : Exit → Act → World → Prop} (hgd : o.guard = none) (d s : Operand) (dT sT : TypeId)
    (ho : o.op = .call { callee := .builtin .copy, args := #[d, s], argTypes := #[dT, sT] }) (elem : TypeId) (i : TypeInfo) (hu : P.underlying dT = some (.slice elem)) (hi : P.info? elem = some i)
    (g off dLen dCap : Nat) (ad : Addr) (sLen sCap : Nat) (hd : a.eval d = .slice (some ⟨g, off, none⟩) dLen dCap) (hs : a.eval s = .slice (some ad) sLen sCap) (cur : List Value) (t : TypeId) (hg : w.heap[g]? = some (.cells cur.toArray t (0, 0))) (cs : List Value) (hn : cs.length = Nat.min sLen dLen * i.size) (hm : Nat.min sLen dLen ≤ 9223372036854775807)
    (hsrc : ∀ j v, cs[j]? = some v → w.cell? (ad.add j) = some v) (hfit : off + cs.length ≤ cur.length) (h1 : ∀ v ∈ cs, v.oneCell' = true)
    (h : ∀ w', Hid (w'.heap[g]? = some (.cells (splice cur off cs).toArray t (0, 0))) → (∀ B w0, Below B w0 w → B ≤ g → Below B w0 w') → wpList P ops Q rest (a.put o.dst (goInt (Nat.min sLen dLen))) w') : wpList P ops Q (o :: rest) a w := by
  obtain ⟨w', hr, h2, h3⟩ := copy_wide_run (P := P) (w := w) dT sT o.type elem i hu hi g off dLen dCap ad sLen sCap cur t hg cs hn hm hsrc hfit h1
  exact wpList_copy_runI w hgd d s dT sT ho _ _ hd hs hr (h w' h2 h3)

theorem copy_wide_step {P : Program} {ops : Array Oper} {o : Oper} {a : Act} {w : World} {K : Act → World → Prop} {Q : Exit → Act → World → Prop} {E : Prop} (hgd : o.guard = none) (d s : Operand) (dT sT : TypeId)
    (ho : o.op = .call { callee := .builtin .copy, args := #[d, s], argTypes := #[dT, sT] }) (elem : TypeId) (i : TypeInfo) (hu : P.underlying dT = some (.slice elem)) (hi : P.info? elem = some i)
    (g off dLen dCap : Nat) (ad : Addr) (sLen sCap : Nat) (hd : a.eval d = .slice (some ⟨g, off, none⟩) dLen dCap) (hs : a.eval s = .slice (some ad) sLen sCap) (cur : List Value) (t : TypeId) (hg : w.heap[g]? = some (.cells cur.toArray t (0, 0))) (cs : List Value) (hn : cs.length = Nat.min sLen dLen * i.size) (hm : Nat.min sLen dLen ≤ 9223372036854775807)
    (hsrc : ∀ j v, cs[j]? = some v → w.cell? (ad.add j) = some v) (hfit : off + cs.length ≤ cur.length) (h1 : ∀ v ∈ cs, v.oneCell' = true)
    (h : ∀ w', Hid (w'.heap[g]? = some (.cells (splice cur off cs).toArray t (0, 0))) → (∀ B w0, Below B w0 w → B ≤ g → Below B w0 w') → K (a.put o.dst (goInt (Nat.min sLen dLen))) w') : if Region.wanted o (yielded ops a.tmps) = true then Oper.wp P o a w K Q else E := by
  obtain ⟨w', hr, h2, h3⟩ := copy_wide_run (P := P) (w := w) dT sT o.type elem i hu hi g off dLen dCap ad sLen sCap cur t hg cs hn hm hsrc hfit h1
  exact step_copy_runI hgd d s dT sT ho _ _ hd hs hr (h w' h2 h3)

theorem splice_at {L cs : List Value} {off j : Nat} (h : off + cs.length ≤ L.length) : (splice L off cs)[j]? = if j < off then L[j]? else if j < off + cs.length then cs[j - off]? else L[j]? := by
  unfold splice
  by_cases h1 : j < off
  · rw [if_pos h1, List.getElem?_append_left (by rw [List.length_take]; omega), List.getElem?_take_of_lt h1]
  · rw [if_neg h1, List.getElem?_append_right (by rw [List.length_take]; omega), List.length_take, Nat.min_eq_left (by omega)]
    by_cases h2 : j < off + cs.length
    · rw [if_pos h2, List.getElem?_append_left (by omega)]
    · rw [if_neg h2, List.getElem?_append_right (by omega), List.getElem?_drop]
      congr 1
      omega

def InsAns (w : World) (n : Nat) (zs : List Pz) (e : Ending) (w' : World) : Prop := (∃ c N f, e = .returned (.slice (some ⟨w.heap.size, 0, none⟩) (n + 1) c) ∧ n + 1 ≤ c ∧ (n + 1) * 3 ≤ N ∧ w'.rowIs w.heap.size 40 N f ∧ ∀ j u, (prC zs)[j]? = some u → w'.cell? ⟨w.heap.size, j, none⟩ = some u) ∧ Below w.heap.size w w'

theorem row_cells {w : World} {g t : Nat} {L : List Value} (h : w.heap[g]? = some (.cells L.toArray t (0, 0))) : w.rowIs g t L.length (fun j => L[j]?.getD undef) ∧ ∀ j, w.cell? ⟨g, j, none⟩ = L[j]? := by
  refine ⟨⟨L.toArray, h, by simp, fun i hi => ?_⟩, fun j => by simp [World.cell?, h]⟩
  have hq : L[i]? = some (L[i]'(by simpa using hi)) := List.getElem?_eq_getElem _
  simp [hq]

set_option maxHeartbeats 4000000 in
set_option maxRecDepth 100000 in
theorem insEnd_any (b n vb : Nat) (zs : List Pz) (z : Pz) (w : World) (hzl : zs.length = n) (hn : n ≤ 1000) (hcs : ∀ j u, (prC zs)[j]? = some u → w.cell? ⟨b, j, none⟩ = some u) (hvs : ∀ j u, (prC [z])[j]? = some u → w.cell? ⟨vb, j, none⟩ = some u) :
    Calls Tryd.prog 33 #[.slice (some ⟨b, 0, none⟩) n n, .int .i64 (n : Int), .slice (some ⟨vb, 0, none⟩) 1 1] w fun e w' => InsAns w n (zs ++ [z]) e w' := by
  obtain ⟨i0, hi0, hzz⟩ := Option.map_eq_some_iff.1 infoP
  simp only [Prod.mk.injEq] at hzz
  obtain ⟨hz0, hzs, hzb⟩ := hzz
  have hold : (Builtin.firstCells i0.size n (.slice (some ⟨b, 0, none⟩) n n)).run Tryd.prog w.drew = .ok (prC zs).toArray w.drew := by
    rw [hzs]
    exact run_firstCells_some w.drew 3 n ⟨b, 0, none⟩ n n (prC zs) (by rw [prC_len, hzl]) (fun j v hj => by rw [addr_add, Nat.zero_add]; exact hcs j v hj)
  have hsrc : Src Tryd.prog i0.size 25 (.slice (some ⟨vb, 0, none⟩) 1 1) 1 (prC [z]) w := by
    rw [hzs]
    exact Src.ofSlice w Tryd.underlying25 ⟨vb, 0, none⟩ 1 1 (prC [z]) (by rw [prC_len]; rfl) (fun j u hj => by rw [addr_add, Nat.zero_add]; exact hvs j u hj) (prC_one _)
  have hrz : ∀ ty, ∃ W1 c, (Builtin.append_ #[25, 25] ty #[.slice (some ⟨b, 0, none⟩) n n, .slice (some ⟨vb, 0, none⟩) 1 1]).run Tryd.prog w = .ok (.slice (some ⟨w.heap.size, 0, none⟩) (n + 1) c) W1 ∧ InsAns w n (zs ++ [z]) (.returned (.slice (some ⟨w.heap.size, 0, none⟩) (n + 1) c)) W1 := fun ty => by
    have h := run_append_grow_src (w := w) 25 25 ty 40 i0 _ Tryd.underlying25 hi0 hz0 (some ⟨b, 0, none⟩) n n (prC zs) hold _ 1 (prC [z]) hsrc (by omega) (by omega) (by rw [hzb]; exact growslice_fits (by omega) (by omega))
    obtain ⟨Z, hZ⟩ : ∃ Z, Builtin.zeroCells (Value.agg #[.string ⟨#[]⟩, .int .i64 0, .slice none 0 0]).cells (grownCap w (n + 1) n 40 - (n + 1)) = Z := ⟨_, rfl⟩
    rw [hZ] at h
    have hge := grownCap_ge w (n + 1) n 40
    generalize grownCap w (n + 1) n 40 = c at h hge
    have hh : (w.drew.alloc (.cells ((prC zs ++ prC [z]).toArray ++ Z) 40)).heap[w.heap.size]? = some (.cells (prC (zs ++ [z]) ++ Z.toList).toArray 40 (0, 0)) := by
      have h2 := heap_alloc_new w.drew (.cells ((prC zs ++ prC [z]).toArray ++ Z) 40)
      rw [prC_app]
      refine Eq.trans h2 ?_
      simp
    obtain ⟨hr1, hr2⟩ := row_cells hh
    refine ⟨_, _, h, ⟨c, _, _, rfl, hge, ?_, hr1, fun j u hj => ?_⟩, ?_⟩
    · rw [List.length_append, prC_len, List.length_append, hzl]
      simp <;> omega
    · rw [hr2 j, List.getElem?_append_left (List.getElem?_eq_some_iff.1 hj).1]
      exact hj
    · exact (Below.refl _ _).drew.alloc (Nat.le_refl _) _
  obtain ⟨W1, c, hr, hA⟩ := hrz 25
  have HA : Hid (InsAns w n (zs ++ [z]) (.returned (.slice (some ⟨w.heap.size, 0, none⟩) (n + 1) c)) W1) := hA
  clear hrz hold hsrc hcs hvs hA
  go_enter Tryd.func33, Tryd.ntmps33
  go_wp2_with (at_builtin; refine Lib.wpList_append_run _ rfl _ _ _ _ rfl _ _ rfl rfl _ _ hr ?_)
  all_goals go_ret
  all_goals exact HA.out

set_option maxHeartbeats 4000000 in
set_option maxRecDepth 100000 in
theorem insMid_any (b n i vb : Nat) (zs : List Pz) (z : Pz) (w : World) (hzl : zs.length = n) (hi : i < n) (hn : n ≤ 1000) (hcs : ∀ j u, (prC zs)[j]? = some u → w.cell? ⟨b, j, none⟩ = some u) (hvs : ∀ j u, (prC [z])[j]? = some u → w.cell? ⟨vb, j, none⟩ = some u) :
    Calls Tryd.prog 33 #[.slice (some ⟨b, 0, none⟩) n n, .int .i64 (i : Int), .slice (some ⟨vb, 0, none⟩) 1 1] w fun e w' => InsAns w n (zs.take i ++ z :: zs.drop i) e w' := by
  obtain ⟨i0, hi0, hzz⟩ := Option.map_eq_some_iff.1 infoP
  simp only [Prod.mk.injEq] at hzz
  obtain ⟨hz0, hzs, hzb⟩ := hzz
  have hcl : (prC zs).length = n * 3 := by rw [prC_len, hzl]
  have hbw : b < w.heap.size := World.block_lt_of_cell? _ _ (hcs 0 _ (List.getElem?_eq_getElem (by omega)))
  have hvw : vb < w.heap.size := World.block_lt_of_cell? _ _ (hvs 0 _ (List.getElem?_eq_getElem (by rw [prC_len]; simp)))
  have hkk : (n : Int) + 1 - (i : Int) = ((n + 1 - i : Nat) : Int) := by omega
  have hik : i + (n + 1 - i) = n + 1 := by omega
  have hold : (Builtin.firstCells i0.size i (.slice (some ⟨b, 0, none⟩) i n)).run Tryd.prog w.drew = .ok (prC (zs.take i)).toArray w.drew := by
    rw [hzs]
    refine run_firstCells_some w.drew 3 i ⟨b, 0, none⟩ i n (prC (zs.take i)) (by rw [prC_len, List.length_take, hzl]; omega) (fun j v hj => ?_)
    rw [addr_add, Nat.zero_add]
    rw [prC_take, List.getElem?_take] at hj
    split at hj
    · exact hcs j v hj
    · cases hj
  have hrz : ∃ (W1 : World) (c : Nat) (L : List Value), (∀ ty, (Builtin.append_ #[25, 3] ty #[.slice (some ⟨b, 0, none⟩) i n, .int .i64 ((n : Int) + 1 - (i : Int))]).run Tryd.prog w = .ok (.slice (some ⟨w.heap.size, 0, none⟩) (n + 1) c) W1) ∧ n + 1 ≤ c ∧ c ≤ maxLen ∧ W1.heap[w.heap.size]? = some (.cells L.toArray 40 (0, 0)) ∧ (n + 1) * 3 ≤ L.length ∧ L.take (i * 3) = prC (zs.take i) ∧ Below w.heap.size w W1 := by
    have h := fun ty => Lib.run_append_grow_zeros w 25 3 ty 40 i0 _ .i64 .i64 Tryd.underlying25 Tryd.underlying3 hi0 hz0 (some ⟨b, 0, none⟩) i n (prC (zs.take i)) hold (n + 1 - i) (by omega) (by omega) (by omega) (by omega) (by rw [hzb]; omega) (by rw [hzb, hik]; exact growslice_fits (by omega) (by omega))
    rw [hik] at h
    have hge := grownCap_ge w (n + 1) n 40
    have hle := grownCap_le_maxLen w (n + 1) n 40 (by unfold maxLen; omega)
    obtain ⟨Z1, hZ1⟩ : ∃ Z, Builtin.zeroCells (Value.agg #[.string ⟨#[]⟩, .int .i64 0, .slice none 0 0]).cells (n + 1 - i) = Z := ⟨_, rfl⟩
    have hs1 : Z1.size = (n + 1 - i) * 3 := by rw [← hZ1]; simp [Builtin.zeroCells, Value.cells]
    obtain ⟨Z, hZ⟩ : ∃ Z, Builtin.zeroCells (Value.agg #[.string ⟨#[]⟩, .int .i64 0, .slice none 0 0]).cells (grownCap w (n + 1) n 40 - (n + 1)) = Z := ⟨_, rfl⟩
    rw [hZ, hZ1] at h
    generalize grownCap w (n + 1) n 40 = c at h hge hle
    have hh : (w.drew.alloc (.cells ((prC (zs.take i)).toArray ++ Z1 ++ Z) 40)).heap[w.heap.size]? = some (.cells (prC (zs.take i) ++ Z1.toList ++ Z.toList).toArray 40 (0, 0)) := by
      have h2 := heap_alloc_new w.drew (.cells ((prC (zs.take i)).toArray ++ Z1 ++ Z) 40)
      refine Eq.trans h2 ?_
      simp
    refine ⟨_, c, _, fun ty => by rw [hkk]; exact h ty, hge, hle, hh, ?_, ?_, (Below.refl _ _).drew.alloc (Nat.le_refl _) _⟩
    · simp only [List.length_append, prC_len, List.length_take, Array.length_toList, hs1, hzl]
      omega
    · rw [List.append_assoc, List.take_append_of_le_length (by rw [prC_len, List.length_take, hzl]; omega), List.take_of_length_le (by rw [prC_len, List.length_take, hzl]; omega)]
  obtain ⟨W1, c, L, hr, hgc, hcm, hh, hLl, hLt, hB1⟩ := hrz
  have HLT : Hid (L.take (i * 3) = prC (zs.take i)) := hLt
  have HSV : Hid (∀ W, Below w.heap.size w W → ∀ j u, (prC [z])[j]? = some u → W.cell? ((⟨vb, 0, none⟩ : Addr).add j) = some u) := fun W hb j u hj => by
    rw [addr_add, Nat.zero_add, (bcell hb).1 vb _ hvw]
    exact hvs j u hj
  have HSC : Hid (∀ W, Below w.heap.size w W → ∀ j u, (prC (zs.drop i))[j]? = some u → W.cell? ((⟨b, i * 3, none⟩ : Addr).add j) = some u) := fun W hb j u hj => by
    rw [addr_add, (bcell hb).1 b _ hbw]
    rw [prC_drop, List.getElem?_drop] at hj
    exact hcs _ u hj
  have hl1 : (prC [z]).length = Nat.min 1 (n + 1 - i) * i0.size := by rw [prC_len, hzs, show Nat.min 1 (n + 1 - i) = 1 from Nat.min_eq_left (by omega)]; rfl
  have hdl : (zs.drop i).length = n - i := by rw [List.length_drop, hzl]
  have hl2 : (prC (zs.drop i)).length = Nat.min (n - i) (n + 1 - (i + 1)) * i0.size := by rw [prC_len, hzs, hdl, show Nat.min (n - i) (n + 1 - (i + 1)) = n - i from Nat.min_eq_left (by omega)]
  have HFI : Hid (∀ (W : World), Below w.heap.size w W → W.heap[w.heap.size]? = some (.cells (splice (splice L (i * 3) (prC [z])) ((i + 1) * 3) (prC (zs.drop i))).toArray 40 (0, 0)) → InsAns w n (zs.take i ++ z :: zs.drop i) (.returned (.slice (some ⟨w.heap.size, 0, none⟩) (n + 1) c)) W) := fun W hb hW => by
    obtain ⟨q1, q2⟩ := row_cells hW
    have k1 : (prC [z]).length = 3 := by rw [prC_len]; rfl
    have k2 : (prC (zs.drop i)).length = (n - i) * 3 := by rw [prC_len, hdl]
    have k0 : i * 3 + (prC [z]).length ≤ L.length := by omega
    have k3 : (splice L (i * 3) (prC [z])).length = L.length := length_splice _ _ _ k0
    have k4 : (i + 1) * 3 + (prC (zs.drop i)).length ≤ (splice L (i * 3) (prC [z])).length := by rw [k3, k2]; omega
    refine ⟨⟨c, _, _, rfl, hgc, ?_, q1, fun j u hj => ?_⟩, hb⟩
    · rw [length_splice _ _ _ k4, k3]; exact hLl
    · rw [q2, splice_at k4, splice_at k0, k1, k2]
      rw [prC_app, show prC (z :: zs.drop i) = prC [z] ++ prC (zs.drop i) by rw [← prC_app]; rfl] at hj
      have k5 : (prC (zs.take i)).length = i * 3 := by rw [prC_len, List.length_take, hzl]; omega
      have hjl := (List.getElem?_eq_some_iff.1 hj).1
      rw [List.length_append, List.length_append, k5, k1, k2] at hjl
      by_cases h1 : j < i * 3
      · rw [if_pos (by omega), if_pos h1, ← hj, List.getElem?_append_left (by omega), ← HLT.out, List.getElem?_take_of_lt h1]
      · rw [List.getElem?_append_right (by omega), k5] at hj
        by_cases h2 : j < (i + 1) * 3
        · rw [if_pos h2, if_neg h1, if_pos (by omega), ← hj, List.getElem?_append_left (by omega)]
        · rw [List.getElem?_append_right (by omega), k1] at hj
          rw [if_neg h2, if_pos (by omega), ← hj]
          congr 1
          omega
  have hLl1 : i * 3 + (prC [z]).length ≤ L.length := by rw [prC_len]; simp; omega
  have hLl2 : (i + 1) * 3 + (prC (zs.drop i)).length ≤ (splice L (i * 3) (prC [z])).length := by rw [length_splice _ _ _ hLl1, prC_len, hdl]; omega
  have mixed : Tryd.prog.follows Departure.mixedOrders = true := by kernel_rfl
  have hz2 : ¬ ((i : Int) = (n : Int)) := by omega
  have hz3 : (n : Int) < (n : Int) + 1 := by omega
  have hci : ¬ (c = i) := by omega
  have hcim : ¬ (c = i + 1) := by omega
  have hni : ¬ (n = i) := by omega
  have hw1 : IntKind.i64.wrap ((i : Int) + 1) = (i : Int) + 1 := by rw [IntKind.wrap_i64]; omega
  have hb1 : (0 : Int) ≤ (i : Int) + 1 := by omega
  have htn : ((i : Int) + 1).toNat = i + 1 := by omega
  have hb3 : (i : Int) ≤ (n : Int) := by omega
  have hin : i ≤ n := by omega
  obtain ⟨w3, hr3, hg3, hb4⟩ := copy_wide_run (P := Tryd.prog) (w := W1) 25 25 3 40 i0 Tryd.underlying25 hi0 w.heap.size (i * 3) (n + 1 - i) (c - i) ⟨vb, 0, none⟩ 1 1 L 40 hh (prC [z]) hl1 (Nat.le_trans (Nat.min_le_left _ _) (by omega)) (HSV.out _ hB1) hLl1 (prC_one _)
  have HB3 : Hid (Below w.heap.size w w3) := hb4 _ _ hB1 (Nat.le_refl _)
  have HG3 : Hid (w3.heap[w.heap.size]? = some (.cells (splice L (i * 3) (prC [z])).toArray 40 (0, 0))) := hg3
  obtain ⟨v3, hv3⟩ : ∃ v, goInt (Nat.min 1 (n + 1 - i)) = v := ⟨_, rfl⟩
  rw [hv3] at hr3
  clear hcs hvs hold hLt hkk hik hb4 hg3 hv3
  go_enter Tryd.func33, Tryd.ntmps33
  go_wp2_with (at_builtin; refine Lib.wpList_append_run _ rfl _ _ _ _ rfl _ _ rfl rfl _ _ (hr _) ?_)
  go_region_law_o (refine copy_wide_step rfl _ _ 25 25 rfl 40 i0 Tryd.underlying25 hi0 w.heap.size ((i + 1) * 3) (n + 1 - (i + 1)) (c - (i + 1)) ⟨b, i * 3, none⟩ (n - i) (n - i) (by simp [Act.eval, Act.put]) (by simp [Act.eval, Act.put]) (splice L (i * 3) (prC [z])) 40 HG3.out (prC (zs.drop i)) hl2 (Nat.le_trans (Nat.min_le_left _ _) (by omega)) (HSC.out _ HB3.out.drew) hLl2 (prC_one _) ?_; intro w4 hg4 hb4; have B4 := hb4 _ _ HB3.out.drew (Nat.le_refl _); clear hb4)
  go_wp2
  go_ret
  exact HFI.out _ B4 hg4.out

end Go.Proofs.YtihjdggmmmlpkaaDoor.pf
