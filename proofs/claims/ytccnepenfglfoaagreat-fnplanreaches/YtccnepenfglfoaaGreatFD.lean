import Derived.Test.YtccnepenfglfoaaGreatFC
import Derived.Test.YtccnepenfglfoaaGreatYC
import Derived.Maps.AppendAt
namespace Go.Proofs.YtccnepenfglfoaaGreat.fa
open Go.ChangeShapes Go.WideShapes Go.ChangeAt Go.RowKit Go.Deep Go.Maps
set_option linter.unusedVariables false
set_option linter.unusedSimpArgs false

/-! ### Failing: rows of numbers in a row -/

/-- Each nil or a row of its own. -/
structure BhV (B U n : Nat) (L : Nat → List Nat) (V : Nat → Value) (w : World) : Prop where
  row : w.rowIs U 48 n V
  own : ∀ j, j < n → w.ownsRow B 3 1 (V j) (L j).length (fi.nV (L j))
  dis : ∀ j k, j < n → k < n → j ≠ k → ∀ b, (V j).ownBlock = some b → (V k).ownBlock ≠ some b

theorem blk_new (w : World) (ob : Obj) : (w.alloc ob).heap[w.heap.size]? = some ob := by unfold World.alloc; exact Array.getElem?_push_size
theorem grown_cell (w : World) (b o : Nat) (v : Value) : w.grownBy (w.setCell ⟨b, o, none⟩ v) (some b) := ⟨rfl, rfl, rfl, by simp, fun j hj hne => ty.blk_oth (fun e => hne (by rw [e]))⟩
theorem BhV.below {B U n : Nat} {L : Nat → List Nat} {V : Nat → Value} {w w' : World} (h : BhV B U n L V w) (hb : Below w.heap.size w w') : BhV B U n L V w' :=
  ⟨h.row.of_block (hb.block _ h.row.lt), fun j hj => World.ownsRow.kept (h.own j hj) (row := none) ⟨hb.os, hb.tape, hb.output, hb.size, fun i hi _ => hb.block i hi⟩ (Classical.em _), h.dis⟩
/-- A store into a block that is none of theirs. -/
theorem BhV.store {B U n : Nat} {L : Nat → List Nat} {V : Nat → Value} {w : World} (h : BhV B U n L V w) {A : Nat} (hA : A ≠ U) (hB : A < B) (i : Nat) (v : Value) : BhV B U n L V (w.setCell ⟨A, i, none⟩ v) :=
  ⟨h.row.of_block (ty.blk_oth hA.symm), fun j hj => World.ownsRow.kept (h.own j hj) (row := some A) (grown_cell w A i v) (.inr fun e => by have := ((h.own j hj).lt A e).1; omega), h.dis⟩
theorem BhV.set {B U n : Nat} {L : Nat → List Nat} {V : Nat → Value} {w : World} {at' x : Nat} {v : Value} (hr : w.rowIs U 48 n V) (hU : U < B)
    (ho : ∀ j, j < n → j ≠ at' → w.ownsRow B 3 1 (V j) (L j).length (fi.nV (L j))) (hv : w.ownsRow B 3 1 v (L at' ++ [x]).length (fi.nV (L at' ++ [x])))
    (hd : ∀ j k, j < n → k < n → j ≠ k → ∀ b, (V j).ownBlock = some b → (V k).ownBlock ≠ some b) (hd2 : ∀ k, k < n → k ≠ at' → ∀ b, v.ownBlock = some b → (V k).ownBlock ≠ some b) :
    BhV B U n (fun j => if j = at' then L at' ++ [x] else L j) (fun j => if j = at' then v else V j) (w.setCell ⟨U, at', none⟩ v) := by
  refine ⟨(hr.set at' v).congr fun j hj => rfl, fun j hj => ?_, fun j k hj hk hne b hb => ?_⟩
  · by_cases e : j = at'
    · subst e
      simp only [if_pos]
      exact World.ownsRow.kept hv (row := some U) (grown_cell w U _ _) (.inr fun e => by have := (hv.lt U e).1; omega)
    · simp only [if_neg e]
      exact World.ownsRow.kept (ho j hj e) (row := some U) (grown_cell w U _ _) (.inr fun e' => by have := ((ho j hj e).lt U e').1; omega)
  · by_cases e : j = at'
    · subst e
      simp only [if_pos] at hb
      simp only [if_neg (Ne.symm hne)]
      exact hd2 k hk (Ne.symm hne) b hb
    · simp only [if_neg e] at hb
      by_cases e2 : k = at'
      · subst e2
        simp only [if_pos]
        intro hb2
        exact hd2 j hj e b hb2 hb
      · simp only [if_neg e2]
        exact hd j k hj hk hne b hb

/-- One number more behind one of them. -/
theorem BhV.grow {B U n : Nat} {L : Nat → List Nat} {V : Nat → Value} {W : World} (h : BhV B U n L V W) (hU : U < B) {at' : Nat} (hat : at' < n) {x : Nat} {ad : Addr} (hy : W.cell? ad = some (.int .i64 (x : Int))) (hB : B ≤ W.heap.size) (hl : (L at').length ≤ 2000000) :
    ∃ v6 W6, (Builtin.append_ #[48, 48] 48 #[V at', .slice (some ad) 1 1]).run Tryz.prog W = .ok v6 W6 ∧ (∃ a6 l6 c6, v6 = .slice a6 l6 c6) ∧ W6.rowIs U 48 n V ∧
      (∃ V', BhV B U n (fun j => if j = at' then L at' ++ [x] else L j) V' (W6.setCell ⟨U, at', none⟩ v6) ∧ ∀ G, G < W.heap.size → (∀ j, j < n → (V j).ownBlock ≠ some G) → ∀ j, j < n → (V' j).ownBlock ≠ some G) ∧
      (∀ B0, B0 ≤ U → B0 ≤ W.heap.size → Below B0 W (W6.setCell ⟨U, at', none⟩ v6)) ∧ ∀ I, I < W.heap.size → (∀ j, j < n → (V j).ownBlock ≠ some I) → W6.heap[I]? = W.heap[I]? := by
  obtain ⟨i0, hi, hzz⟩ := Option.map_eq_some_iff.1 fi.infoI
  simp only [Prod.mk.injEq] at hzz
  obtain ⟨hz0, hz1, hz2⟩ := hzz
  have hnews : ∀ j u, (fi.nV [x])[j]? = some u → W.cell? (ad.add j) = some u := fun j u hj => by
    match j with
    | 0 =>
      simp only [fi.nV, List.map_cons, List.map_nil, List.getElem?_cons_zero, Option.some.injEq] at hj
      subst hj
      simpa [Addr.add] using hy
    | j + 1 => simp [fi.nV] at hj
  obtain ⟨v', w', hr, h1, h2, h3, h4⟩ := run_append_own_at (P := Tryz.prog) W B 48 48 3 i0 _ 1 8 Tryz.underlying48 hi hz0 hz1 hz2 rfl (by omega) (V at') (L at').length (fi.nV (L at')) (h.own at' hat) ad 1 1 (fi.nV [x]) rfl hnews (fi.nV_one [x]) (by unfold maxLen; omega) (by omega) hB
  have hne : some U ≠ (V at').ownBlock := fun e => by have := ((h.own at' hat).lt U e.symm).1; omega
  have hrow : w'.rowIs U 48 n V := h.row.of_block (h2.block U h.row.lt hne)
  have hsh : ∃ a6 l6 c6, v' = .slice a6 l6 c6 := by
    rcases h1.2 with ⟨e2, _⟩ | ⟨g, cap, cur, e2, _⟩
    · exact ⟨_, _, _, e2⟩
    · exact ⟨_, _, _, e2⟩
  refine ⟨v', w', hr, hsh, hrow, ⟨_, BhV.set hrow hU (fun j hj hja => World.ownsRow.kept (h.own j hj) h2 ?_) (by rw [List.length_append]; unfold fi.nV; rw [List.map_append]; exact h1) h.dis (fun k hk hka b hb => ?_), fun G hG hGn j hj => ?_⟩, fun B0 hB0 hB0' => ?_, fun I hI hIn => ?_⟩
  · by_cases e : (V j).ownBlock = none
    · exact .inl e
    · refine .inr fun e2 => ?_
      obtain ⟨b, hb⟩ : ∃ b, (V j).ownBlock = some b := Option.ne_none_iff_exists'.1 e
      exact h.dis j at' hj hat hja b hb (by rw [← e2]; exact hb)
  · rcases h4 with e | e
    · rw [e] at hb
      exact h.dis at' k hat hk (Ne.symm hka) b hb
    · rw [e] at hb
      have : W.heap.size = b := Option.some.inj hb
      intro hb2
      have := ((h.own k hk).lt b hb2).2
      omega
  · by_cases e : j = at'
    · subst e
      simp only [if_pos]
      rcases h4 with e | e
      · rw [e]; exact hGn j hat
      · rw [e]; intro e3; have := Option.some.inj e3; omega
    · simp only [if_neg e]
      exact hGn j hj
  · have hb1 : Below B0 W w' := (Below.refl B0 W).grown h2 hB0' (fun k hk => by have := ((h.own at' hat).lt k hk).1; omega)
    exact hb1.setCell hB0 _
  · exact h2.block I hI fun e => hIn at' hat e.symm

/-! Whom a unit's number stands behind. -/

def ndA (us : List ty.Un) (y : Nat) : List Nat := (us[y]?.map (nds us)).getD []
theorem ndA_some {us : List ty.Un} {y : Nat} {u : ty.Un} (h : us[y]? = some u) : ndA us y = nds us u := by unfold ndA; rw [h]; rfl
def bhL (us : List ty.Un) (i x : Nat) : List Nat := (List.range i).flatMap fun y => ((ndA us y).filter fun z => decide (z = x)).map fun _ => y
def bhK (us : List ty.Un) (i : Nat) (l : List Nat) (j x : Nat) : List Nat := bhL us i x ++ ((l.take j).filter fun z => decide (z = x)).map fun _ => i
theorem bhL_zero (us : List ty.Un) (x : Nat) : bhL us 0 x = [] := by simp [bhL]
theorem bhK_zero (us : List ty.Un) (i : Nat) (l : List Nat) (x : Nat) : bhK us i l 0 x = bhL us i x := by simp [bhK]
theorem bhK_all {us : List ty.Un} {i : Nat} {u : ty.Un} (h : us[i]? = some u) (x : Nat) : bhK us i (nds us u) (nds us u).length x = bhL us (i + 1) x := by
  unfold bhK
  rw [List.take_length]
  unfold bhL
  rw [List.range_succ, List.flatMap_append, List.flatMap_singleton, ndA_some h]
theorem bhK_step {us : List ty.Un} {i j x : Nat} {l : List Nat} (h : l[j]? = some x) (z : Nat) : (if z = x then bhK us i l j x ++ [i] else bhK us i l j z) = bhK us i l (j + 1) z := by
  unfold bhK
  rw [List.take_add_one, h, Option.toList_some, List.filter_append, List.map_append]
  by_cases e : z = x
  · subst e
    rw [if_pos rfl, List.filter_cons_of_pos (by simp)]
    simp
  · rw [if_neg e, List.filter_cons_of_neg (by simpa using Ne.symm e)]
    simp
theorem bhL_len {us : List ty.Un} (hU : Us us) (x : Nat) : ∀ i, (bhL us i x).length ≤ 20 * i
  | 0 => by rw [bhL_zero]; simp
  | i + 1 => by
    have h1 := bhL_len hU x i
    have h2 : ((ndA us i).filter fun z => decide (z = x)).length ≤ 20 := by
      refine Nat.le_trans (List.length_filter_le _ _) ?_
      cases hu : us[i]? with
      | none => unfold ndA; rw [hu]; simp
      | some u => rw [ndA_some hu, nds_len]; exact hU.nds u (List.mem_of_getElem? hu)
    have e : bhL us (i + 1) x = bhL us i x ++ ((ndA us i).filter fun z => decide (z = x)).map fun _ => i := by
      unfold bhL
      rw [List.range_succ, List.flatMap_append, List.flatMap_singleton]
    rw [e, List.length_append, List.length_map]
    omega
theorem bhK_len {us : List ty.Un} (hU : Us us) {i j x : Nat} {l : List Nat} (hl : l.length ≤ 20) : (bhK us i l j x).length ≤ 20 * i + 20 := by
  have h1 := bhL_len hU x i
  have h2 : ((l.take j).filter fun z => decide (z = x)).length ≤ 20 := by
    refine Nat.le_trans (List.length_filter_le _ _) ?_
    rw [List.length_take]
    omega
  unfold bhK
  rw [List.length_append, List.length_map]
  omega
theorem bhL_mem (us : List ty.Un) (x y : Nat) : y ∈ bhL us us.length x ↔ ∃ u, us[y]? = some u ∧ x ∈ nds us u := by
  unfold bhL
  simp only [List.mem_flatMap, List.mem_range, List.mem_map, List.mem_filter, decide_eq_true_eq]
  constructor
  · rintro ⟨z, hz, q, ⟨hq, rfl⟩, rfl⟩
    refine ⟨us[z], List.getElem?_eq_getElem hz, ?_⟩
    rwa [ndA_some (List.getElem?_eq_getElem hz)] at hq
  · rintro ⟨u, hu, hx⟩
    exact ⟨y, (List.getElem?_eq_some_iff.1 hu).1, x, ⟨by rw [ndA_some hu]; exact hx, rfl⟩, rfl⟩
theorem BhV.congr {B U n : Nat} {L L' : Nat → List Nat} {V : Nat → Value} {w : World} (h : BhV B U n L V w) (e : ∀ j, j < n → L j = L' j) : BhV B U n L' V w := ⟨h.row, fun j hj => by rw [← e j hj]; exact h.own j hj, h.dis⟩
/-- As they are made. -/
theorem BhV.zero {w : World} {U B n : Nat} (us : List ty.Un) (h : w.rowIs U 48 n fun _ => .slice none 0 0) : BhV B U n (bhL us 0) (fun _ => .slice none 0 0) w :=
  ⟨h, fun j hj => by rw [bhL_zero]; exact World.ownsRow_nil _ _ 3 1, fun j k _ _ _ b hb => by cases hb⟩
theorem infoR : (Tryz.prog.info? 48).map (fun i => (i.zero, i.size, i.bytes)) = some (some (.slice none 0 0), 1, 24) := by kernel_rfl

end Go.Proofs.YtccnepenfglfoaaGreat.fa
