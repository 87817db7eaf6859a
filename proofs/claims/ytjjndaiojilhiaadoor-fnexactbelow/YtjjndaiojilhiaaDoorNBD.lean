import Derived.Test.YtjjndaiojilhiaaDoorNBC
import Derived.Test.YtjjndaiojilhiaaDoorRA
import Derived.RangeFuncBox
import Derived.Sort.OwnSorted
import Derived.Shelf.Sort.Plain
import Derived.Test.YtjjndaiojilhiaaDoorSHi
namespace Go.Proofs.YtjjndaiojilhiaaDoor.nb
open Go.RowKit Go.Shelf Go.Proofs.YtjjndaiojilhiaaDoor.rt Go.Proofs.YtjjndaiojilhiaaDoor.tt Go.Maps Go.Sort
attribute [local go_sem] Oper.semAt_some
set_option linter.unusedVariables false
set_option linter.unusedSimpArgs false

/-! ### slices.AppendSeq, Collect, Sort, Sorted of ints -/

theorem infoI : (Tryd.prog.info? 3).map (fun i => (i.zero, i.size, i.bytes)) = some (some (.int .i64 0), 1, 8) := by kernel_rfl
def iVs (xs : List Int) : List Value := xs.map (Value.int .i64)
theorem iVs_snoc (xs : List Int) (x : Int) : iVs (xs ++ [x]) = iVs xs ++ [.int .i64 x] := by simp [iVs]

theorem kq_app {n0 C base B k : Nat} {W w1 : World} {tmp : Obj} {v v' : Value} {xs : List Value} (hv : Boxed W B 43 v) (hrow : W.ownsRow base 3 1 v k xs) (hgrow : (W.alloc tmp).grownBy w1 v.ownBlock)
    (hk : KeepsOthers W (w1.setCell ⟨B, 0, none⟩ v')) (hb : Below n0 W (w1.setCell ⟨B, 0, none⟩ v')) : Kq n0 C W (w1.setCell ⟨B, 0, none⟩ v') := by
  refine ⟨hb, fun i o hi ho => ?_, fun i o _ hi ho => hk.same i o hi ho⟩
  rcases ho with ho | ⟨u, t, rfl, ht⟩
  · exact hk.same i o hi (by cases o <;> first | rfl | simp [Obj.isWalk] at ho)
  · have hiB : i ≠ B := by
      rintro rfl
      rw [show W.heap[i]? = _ from hv] at hi
      have := (Obj.cells.inj (Option.some.inj hi)).2.1
      rcases ht with rfl | rfl <;> revert this <;> decide
    refine (Below.heap_setCell w1 _ _ i hiB).trans ?_
    have hlt := (Array.getElem?_eq_some_iff.1 hi).1
    have h1 : (W.alloc tmp).heap[i]? = some (.cells #[u] t (0, 0)) := (Below.heap_alloc W tmp i hlt).trans hi
    refine (hgrow.block i (by simp; omega) (fun e => ?_)).trans h1
    rcases hrow.2 with ⟨rfl, _⟩ | ⟨g, cap, cur, rfl, _, hgb, _⟩
    · simp [Value.ownBlock] at e
    · obtain rfl : i = g := by simpa [Value.ownBlock] using e
      rw [hgb] at hi
      have := (Obj.cells.inj (Option.some.inj hi)).2.1
      rcases ht with rfl | rfl <;> revert this <;> decide

set_option maxRecDepth 100000 in
set_option maxHeartbeats 4000000 in
theorem appseq_any {gf : Nat} {lb : Array Value} {n0 : Nat} {S : List Int → Prop} {N : Nat} (eg : ∀ args w, (callFunc gf args).run Tryd.prog w = .ok (.enter gf args) w) (w : World) (hn0 : n0 ≤ w.heap.size) (hN : N ≤ 1048576)
    (hseq : ∀ v, SeqO Tryd.prog gf lb n0 S N (w.alloc (.cells #[v] 43))) :
    Calls Tryd.prog 46 #[.slice none 0 0, .func (.func gf) #[] lb] w fun e w' => ∃ v xs, e = .returned v ∧ S xs ∧ w'.ownsRow w.heap.size 3 1 v xs.length (iVs xs) ∧ Below w.heap.size w w' := by
  obtain ⟨i0, hi, hz0, hz1, hz2⟩ := sr.info_parts infoI
  have HSEQ : Hid (SeqO Tryd.prog gf lb n0 S N (w.alloc (.cells #[.slice none 0 0] 43))) := hseq _
  clear hseq
  refine (callsIn_wide (n := 3)).1 ?_
  refine callsIn_of_wp_marks Tryd.func46 rfl trivial ?_ rfl
  simp only [Tryd.ntmps46, List.size_toArray, List.length_cons, List.length_nil, Nat.reduceAdd, Nat.reduceSub, Array.replicate_succ, Array.replicate_zero, List.push_toArray, List.append_toArray, List.nil_append, List.cons_append]
  gi_wp2
  have bB := Boxed.new w 43 (.slice none 0 0)
  have hB0 : Below w.heap.size w (w.alloc (.cells #[.slice none 0 0] 43)) := (Below.refl _ w).alloc (Nat.le_refl _) _
  have hs1 : (w.alloc (.cells #[.slice none 0 0] 43)).heap.size = w.heap.size + 1 := by simp
  obtain ⟨w1, hw1⟩ : ∃ w1, w.alloc (.cells #[.slice none 0 0] 43) = w1 := ⟨_, rfl⟩
  rw [hw1] at HSEQ bB hB0 hs1 ⊢
  clear hw1
  refine range_o (by decide) (gf := gf) (lb := lb) rfl eg HSEQ.out (by omega) (Kq.refl _ _ _) (Nat.le_refl _) rfl
    (fun pre W => (∃ v, Boxed W w.heap.size 43 v ∧ W.ownsRow w.heap.size 3 1 v pre.length (iVs pre) ∧ True) ∧ Below w.heap.size w W)
    (OwnFrom.and (Own.from (holdsRow_own w.heap.size w.heap.size 43 3 1 (fun pre : List Int => pre.length) (fun pre => iVs pre) (fun pre v => True)) _) (ownFrom_below (Nat.le_refl _) (by omega)))
    ⟨⟨_, bB, ⟨rfl, .inl ⟨rfl, rfl⟩⟩, trivial⟩, hB0⟩
    (fun y => { tmps := #[.slice none 0 0, .func (.func gf) #[] lb, .pointer (some ⟨w.heap.size, 0, none⟩), undef, .slice none 0 0, .int .i64 y, .func (.func gf) #[] lb, .int .i64 y, undef, undef, undef, undef, undef], defers := [] }) ?assign ?body ?done
  case assign =>
    intro l2 y W7 K hK
    gi_wp2
    exact hK
  case body =>
    rintro l2 pre x W ⟨⟨v, hv, hrow, _⟩, hB1⟩ hlt hn
    have hc := hv.cell
    have HFR := hv.frozen
    have HLT : Hid (pre.length < N) := hlt
    clear hlt
    gi_wp2_with (gi_at_builtin; refine wpListIn_append_own _ rfl _ _ 43 rfl w.heap.size 3 i0 (.int .i64 0) 1 8 Tryd.underlying43 hi hz0 hz1 hz2 rfl (by decide) _ _ _ rfl (hrow.alloc _) ⟨W.heap.size, 0, none⟩ 1 1 [.int .i64 x] rfl rfl (by intro j u hu; cases j with | zero => (cases hu; simp [go_sem]) | succ j => cases hu) (by simp [Value.oneCell']) (by have := HLT.out; unfold maxLen; omega) (by have := HLT.out; omega) (by have := hB1.size; simp; omega) ?_; intro v' w1 hown' hgrow _; obtain ⟨g', cap', rfl⟩ := ownsRow_succ hown'; obtain ⟨hv1, hv2, hr2, hk2, hb2⟩ := hv.appended (by decide) hrow hB1.size (by omega) hown' hgrow; have hc1 := hv1.cell; have hf1 := hv1.frozen)
    exact ⟨hk2.from _, kq_app hv hrow hgrow hk2 (hb2.mono (by omega)), by have := hb2.size; simp at this; omega, ⟨_, hv2, by rw [iVs_snoc]; exact hr2⟩, hB1.trans hb2⟩
  case done =>
    rintro D xs W hD hS ⟨⟨v, hv, hrow, _⟩, hB1⟩ hK
    have hc := hv.cell
    gi_wp2
    refine ⟨by simp, .inl ⟨_, _, rfl, run_takeDeferred hK, v, by simp [results, Tryd.f46, go_sem], v, xs, rfl, hS, hrow.kept (grownBy_putObj' W D _) ?_, hB1.grown (grownBy_putObj' W D _) hB1.size (fun k e => by cases e; omega)⟩⟩
    rcases hrow.2 with ⟨rfl, _⟩ | ⟨g, cap, cur, rfl, _, hgb, _⟩
    · exact .inl rfl
    · refine .inr fun e => ?_
      have : g = D := by simpa [Value.ownBlock] using e
      rw [this, hK] at hgb
      cases hgb

set_option maxRecDepth 100000 in
theorem collect_any {gf : Nat} {lb : Array Value} {n0 : Nat} {S : List Int → Prop} {N : Nat} (eg : ∀ args w, (callFunc gf args).run Tryd.prog w = .ok (.enter gf args) w) (w : World) (hn0 : n0 ≤ w.heap.size) (hN : N ≤ 1048576)
    (hseq : ∀ v, SeqO Tryd.prog gf lb n0 S N (w.alloc (.cells #[v] 43))) :
    Calls Tryd.prog 34 #[.func (.func gf) #[] lb] w fun e w' => ∃ v xs, e = .returned v ∧ S xs ∧ w'.ownsRow w.heap.size 3 1 v xs.length (iVs xs) ∧ Below w.heap.size w w' := by
  have HA : Hid (Calls Tryd.prog 46 #[.slice none 0 0, .func (.func gf) #[] lb] w fun e w' => ∃ v xs, e = .returned v ∧ S xs ∧ w'.ownsRow w.heap.size 3 1 v xs.length (iVs xs) ∧ Below w.heap.size w w') := appseq_any eg w hn0 hN hseq
  clear hseq
  go_enter Tryd.func34, Tryd.ntmps34
  go_wp2_with (go_at_call 46; refine HA.out.mono ?_; rintro e w1 ⟨v, xs, rfl, hS, hrow, hb⟩)
  go_ret
  exact ⟨v, xs, rfl, hS, hrow, hb⟩

/-! Ints in a block, to the sort and back. -/
theorem holdsI {w : World} {g : Nat} {cur : Array Value} {e : TypeId} {xs : List Int} (hb : w.heap[g]? = some (.cells cur e (0, 0))) (ht : cur.toList.take xs.length = iVs xs) : Holds (Value.int .i64) w g 0 xs.toArray := by
  intro j hj
  have hj' : j < xs.length := by simpa using hj
  refine ⟨?_, by simp [World.frozen?, hb]⟩
  have h1 : (cur.toList.take xs.length)[j]? = (iVs xs)[j]? := by rw [ht]
  rw [List.getElem?_take_of_lt hj', Array.getElem?_toList] at h1
  simp [World.cell?, hb, h1, iVs, hj']
theorem heapI {w : World} {g n : Nat} {os : Array Obj} {cur : Array Value} {e : TypeId} {fr : Nat × Nat} (d : Array Int) (hb : w.heap[g]? = some (.cells cur e fr)) :
    (grow (putRow (Value.int .i64) (Sort.ahead w n) g 0 d) os).heap[g]? = some (.cells (putCells (Value.int .i64) 0 d cur) e fr) := by
  have hg : g < w.heap.size := (Array.getElem?_eq_some_iff.1 hb).1
  rw [heap_grow_old _ _ (by simpa using hg)]
  simp [putRow, mapBlock, Sort.ahead, Array.getElem?_modify, hb, onCells]
theorem grownI {w : World} {g n : Nat} {os : Array Obj} (d : Array Int) : w.grownBy (grow (putRow (Value.int .i64) (Sort.ahead w n) g 0 d) os) (some g) := by
  refine ⟨rfl, rfl, rfl, by simp, fun k hk hne => ?_⟩
  rw [heap_grow_old _ _ (by simpa using hk)]
  have : g ≠ k := fun e => hne (by rw [e])
  simp [putRow, mapBlock, Sort.ahead, Array.getElem?_modify, this]
theorem takeI (cur : Array Value) (ts : List Int) (h : ts.length ≤ cur.size) : (putCells (Value.int .i64) 0 ts.toArray cur).toList.take ts.length = iVs ts := by
  apply List.ext_getElem?
  intro j
  by_cases hj : j < ts.length
  · rw [List.getElem?_take_of_lt hj, Array.getElem?_toList]
    simp [putCells, iVs, hj, show j < cur.size by omega]
  · rw [List.getElem?_take_eq_none (by omega), List.getElem?_eq_none (by simp [iVs]; omega)]

/-- Ascending numbers, out of any order of theirs. -/
theorem sort_asc {l : List Nat} (hl : l.Pairwise (· < ·)) {xs : List Int} (h : xs.Perm (ints l)) : (xs.mergeSort fun x y => decide (x ≤ y)) = ints l := by
  have tr : ∀ a b c : Int, decide (a ≤ b) = true → decide (b ≤ c) = true → decide (a ≤ c) = true := fun a b c h1 h2 => by simp only [decide_eq_true_eq] at *; omega
  have tot : ∀ a b : Int, (decide (a ≤ b) || decide (b ≤ a)) = true := fun a b => by simp only [Bool.or_eq_true, decide_eq_true_eq]; omega
  refine List.Perm.eq_of_pairwise (le := fun a b => decide (a ≤ b) = true) (fun a b _ _ h1 h2 => by simp only [decide_eq_true_eq] at h1 h2; omega) (List.pairwise_mergeSort tr tot xs) ?_ ((List.mergeSort_perm xs _).trans h)
  unfold ints
  rw [List.pairwise_map]
  exact hl.imp fun h => by simp; omega

set_option maxRecDepth 100000 in
theorem sort_any (base : Nat) (v : Value) (xs : List Int) (w : World) (hrow : w.ownsRow base 3 1 v xs.length (iVs xs)) (hpos : 0 < xs.length) (hn : xs.length ≤ 1048576) :
    Calls Tryd.prog 35 #[v] w fun e w' => e = .returned (.tuple #[]) ∧ w'.ownsRow base 3 1 v xs.length (iVs (xs.mergeSort fun x y => decide (x ≤ y))) ∧ w.grownBy w' v.ownBlock := by
  obtain ⟨hl, ⟨rfl, h0⟩ | ⟨g, cap, cur, rfl, hg, hgb, hc, hcm, hcs, htk⟩⟩ := hrow
  · omega
  refine (Any.slices_Sort_int Tryd.laysSortI g 0 cap xs w (holdsI hgb (by rw [Nat.mul_one] at htk; exact htk)) (Array.getElem?_eq_some_iff.1 hgb).1 (by omega)).mono ?_
  rintro e w' ⟨rfl, q, os, rfl⟩
  refine ⟨rfl, ⟨by simp [iVs], .inr ⟨g, cap, _, rfl, hg, heapI _ hgb, hc, hcm, by simp [putCells, hcs], ?_⟩⟩, grownI _⟩
  have := takeI cur (xs.mergeSort fun x y => decide (x ≤ y)) (by simp; omega)
  simpa [iVs] using this

set_option maxRecDepth 100000 in
theorem sorted_any {gf : Nat} {lb : Array Value} {n0 : Nat} {l : List Nat} (hl : l.Pairwise (· < ·)) (hpos : 0 < l.length) (eg : ∀ args w, (callFunc gf args).run Tryd.prog w = .ok (.enter gf args) w) (w : World) (hn0 : n0 ≤ w.heap.size) (hN : l.length ≤ 1048576)
    (hseq : ∀ v, SeqO Tryd.prog gf lb n0 (fun xs => xs.Perm (ints l)) l.length (w.alloc (.cells #[v] 43))) :
    Calls Tryd.prog 22 #[.func (.func gf) #[] lb] w fun e w' => ∃ v, e = .returned v ∧ w'.ownsRow w.heap.size 3 1 v l.length (iVs (ints l)) ∧ Below w.heap.size w w' := by
  have HC : Hid (Calls Tryd.prog 34 #[.func (.func gf) #[] lb] w fun e w' => ∃ v xs, e = .returned v ∧ xs.Perm (ints l) ∧ w'.ownsRow w.heap.size 3 1 v xs.length (iVs xs) ∧ Below w.heap.size w w') := collect_any eg w hn0 hN hseq
  clear hseq
  go_enter Tryd.func22, Tryd.ntmps22
  go_wp2_with (go_at_call 34; refine HC.out.mono ?_; rintro e w1 ⟨v, xs, rfl, hS, hrow, hb⟩)
  have hlx : xs.length = l.length := by rw [hS.length_eq, ints_len]
  have HS : Hid (Calls Tryd.prog 35 #[v] w1 fun e w' => e = .returned (.tuple #[]) ∧ w'.ownsRow w.heap.size 3 1 v xs.length (iVs (xs.mergeSort fun x y => decide (x ≤ y))) ∧ w1.grownBy w' v.ownBlock) := sort_any _ v xs w1 hrow (by omega) (by omega)
  have HLX : Hid (xs.length = l.length) := hlx
  clear hlx
  go_wp2_with (go_at_call 35; refine HS.out.mono ?_; rintro e w2 ⟨rfl, hrow2, hg⟩)
  go_ret
  refine ⟨v, rfl, ?_, ?_⟩
  · rw [sort_asc hl hS, HLX.out] at hrow2
    exact hrow2
  · refine hb.grown hg hb.size (fun k e => ?_)
    rcases hrow.2 with ⟨rfl, _⟩ | ⟨g, cap, cur, rfl, hgg, _⟩
    · simp [Value.ownBlock] at e
    · obtain rfl : g = k := by simpa [Value.ownBlock] using e
      exact hgg

end Go.Proofs.YtjjndaiojilhiaaDoor.nb
