import Derived.Shelf.Sort.Plain
import Derived.Test.YtaoimkjcaienbaaGreatDoorProg
import Derived.Test.YtaoimkjcaienbaaGreatDoorG16
import Derived.Test.YtaoimkjcaienbaaGreatDoorG04
import Derived.RangeFuncBox
import Derived.Sort.OwnSorted
import Derived.Test.YtaoimkjcaienbaaGreatDoorG08
import Derived.BigQuiet
import Derived.Test.YtaoimkjcaienbaaGreatDoorG12
import Derived.Deep.RegionHeld3
/-
  DERIVED: THE SHELF's CONTRACTS AT THIS DUMP, IN PLAIN WORDS (tools/lay-plain.mjs out of 'YtaoimkjcaienbaaGreatDoorSHix.lean', which tools/lay-shelf.mjs wrote): THE SAME DECLARATIONS UNDER THE SAME NAMES: 'import', 'namespace', 'open', 'def', 'theorem' AND NOTHING ELSE: no command of the shelf's: FOR A HAND-IN. Each laying: the table of numbers ('.._ren') and one theorem, a field a fact of the dump's own or the kernel's comparison; each contract: ONE APPLICATION.
-/
namespace Go.Proofs
open Go.Shelf
def Tryz.laysSortI_ren : Go.Shelf.Ren := ⟨fun | 189 => 88 | 125 => 120 | 257 => 119 | 128 => 158 | 129 => 159 | 294 => 149 | 295 => 150 | 296 => 151 | 297 => 152 | 298 => 153 | 299 => 154 | 216 => 155 | 300 => 156 | 301 => 157 | 328 => 170 | 329 => 171 | 330 => 172 | 331 => 173 | 332 => 174 | 215 => 175 | 343 => 184 | n => n, fun | 28 => 86 | 3 => 3 | 46 => 104 | 0 => 0 | 51 => 180 | 53 => 36 | 4 => 4 | 183 => 173 | 182 => 172 | 131 => 114 | 5 => 5 | 9 => 9 | 218 => 187 | 222 => 190 | 228 => 201 | 229 => 202 | n => n, fun | n => n⟩
theorem Tryz.laysSortI : Go.Proofs.Lays.n189 Tryz.prog Tryz.laysSortI_ren := {
  mixed := by kernel_rfl
  f125 := Tryz.func120.trans (congrArg some (by kernel_rfl))
  f128 := Tryz.func158.trans (congrArg some (by kernel_rfl))
  f129 := Tryz.func159.trans (congrArg some (by kernel_rfl))
  f189 := Tryz.func88.trans (congrArg some (by kernel_rfl))
  f215 := Tryz.func175.trans (congrArg some (by kernel_rfl))
  f216 := Tryz.func155.trans (congrArg some (by kernel_rfl))
  f257 := Tryz.func119.trans (congrArg some (by kernel_rfl))
  f294 := Tryz.func149.trans (congrArg some (by kernel_rfl))
  f295 := Tryz.func150.trans (congrArg some (by kernel_rfl))
  f296 := Tryz.func151.trans (congrArg some (by kernel_rfl))
  f297 := Tryz.func152.trans (congrArg some (by kernel_rfl))
  f298 := Tryz.func153.trans (congrArg some (by kernel_rfl))
  f299 := Tryz.func154.trans (congrArg some (by kernel_rfl))
  f300 := Tryz.func156.trans (congrArg some (by kernel_rfl))
  f301 := Tryz.func157.trans (congrArg some (by kernel_rfl))
  f328 := Tryz.func170.trans (congrArg some (by kernel_rfl))
  f329 := Tryz.func171.trans (congrArg some (by kernel_rfl))
  f330 := Tryz.func172.trans (congrArg some (by kernel_rfl))
  f331 := Tryz.func173.trans (congrArg some (by kernel_rfl))
  f332 := Tryz.func174.trans (congrArg some (by kernel_rfl))
  f343 := Tryz.func184.trans (congrArg some (by kernel_rfl))
  t0 := Tryz.underlying0
  a0 := Tryz.isAgg0
  z0 := Tryz.sizeOf0
  v0 := Tryz.zeroValue0
  t3 := Tryz.underlying3
  a3 := Tryz.isAgg3
  z3 := Tryz.sizeOf3
  v3 := Tryz.zeroValue3
  t4 := Tryz.underlying4
  a4 := Tryz.isAgg4
  z4 := Tryz.sizeOf4
  v4 := Tryz.zeroValue4
  t5 := Tryz.underlying5
  a5 := Tryz.isAgg5
  z5 := Tryz.sizeOf5
  v5 := Tryz.zeroValue5
  t9 := Tryz.underlying9
  a9 := Tryz.isAgg9
  z9 := Tryz.sizeOf9
  v9 := Tryz.zeroValue9
  t28 := Tryz.underlying86
  a28 := Tryz.isAgg86
  z28 := Tryz.sizeOf86
  v28 := Tryz.zeroValue86
  t46 := Tryz.underlying104
  a46 := Tryz.isAgg104
  z46 := Tryz.sizeOf104
  v46 := Tryz.zeroValue104
  t51 := Tryz.underlying180
  a51 := Tryz.isAgg180
  z51 := Tryz.sizeOf180
  v51 := Tryz.zeroValue180
  t53 := Tryz.underlying36
  a53 := Tryz.isAgg36
  z53 := Tryz.sizeOf36
  v53 := Tryz.zeroValue36
  t131 := Tryz.underlying114
  a131 := Tryz.isAgg114
  z131 := Tryz.sizeOf114
  v131 := Tryz.zeroValue114
  t182 := Tryz.underlying172
  a182 := Tryz.isAgg172
  z182 := Tryz.sizeOf172
  v182 := Tryz.zeroValue172
  t183 := Tryz.underlying173
  a183 := Tryz.isAgg173
  z183 := Tryz.sizeOf173
  v183 := Tryz.zeroValue173
  t218 := Tryz.underlying187
  a218 := Tryz.isAgg187
  z218 := Tryz.sizeOf187
  v218 := Tryz.zeroValue187
  t222 := Tryz.underlying190
  a222 := Tryz.isAgg190
  z222 := Tryz.sizeOf190
  v222 := Tryz.zeroValue190
  t228 := Tryz.underlying201
  a228 := Tryz.isAgg201
  z228 := Tryz.sizeOf201
  v228 := Tryz.zeroValue201
  t229 := Tryz.underlying202
  a229 := Tryz.isAgg202
  z229 := Tryz.sizeOf202
  v229 := Tryz.zeroValue202 }
end Go.Proofs

namespace Go.Proofs.YtaoimkjcaienbaaGreatDoor.nb
open Go.RowKit Go.Shelf Go.Proofs.YtaoimkjcaienbaaGreatDoor.rt Go.Proofs.YtaoimkjcaienbaaGreatDoor.tt Go.Maps Go.Sort
attribute [local go_sem] Oper.semAt_some
set_option linter.unusedVariables false
set_option linter.unusedSimpArgs false

/-! ### slices.AppendSeq, Collect, Sort, Sorted of ints -/

theorem infoI : (Tryz.prog.info? 3).map (fun i => (i.zero, i.size, i.bytes)) = some (some (.int .i64 0), 1, 8) := by kernel_rfl
def iVs (xs : List Int) : List Value := xs.map (Value.int .i64)
theorem iVs_snoc (xs : List Int) (x : Int) : iVs (xs ++ [x]) = iVs xs ++ [.int .i64 x] := by simp [iVs]

theorem kq_app {n0 C base B k : Nat} {W w1 : World} {tmp : Obj} {v v' : Value} {xs : List Value} (hv : Boxed W B 86 v) (hrow : W.ownsRow base 3 1 v k xs) (hgrow : (W.alloc tmp).grownBy w1 v.ownBlock)
    (hk : KeepsOthers W (w1.setCell ⟨B, 0, none⟩ v')) (hb : Below n0 W (w1.setCell ⟨B, 0, none⟩ v')) : Kq n0 C W (w1.setCell ⟨B, 0, none⟩ v') := by
  refine ⟨hb, fun i o hi ho => ?_, fun i o _ hi ho => hk.same i o hi ho⟩
  rcases ho with ho | ⟨u, t, rfl, ht⟩
  · exact hk.same i o hi (by cases o <;> first | rfl | simp [Obj.isWalk] at ho)
  · have hiB : i ≠ B := by
      rintro rfl
      rw [show W.heap[i]? = _ from hv] at hi
      have := (Obj.cells.inj (Option.some.inj hi)).2.1
      rcases ht with rfl | rfl <;> revert this <;> decide
    refine (Below.heap_setCell w1 _ _ i hiB).trans ?_
    have hlt := (Array.getElem?_eq_some_iff.1 hi).1
    have h1 : (W.alloc tmp).heap[i]? = some (.cells #[u] t (0, 0)) := (Below.heap_alloc W tmp i hlt).trans hi
    refine (hgrow.block i (by simp; omega) (fun e => ?_)).trans h1
    rcases hrow.2 with ⟨rfl, _⟩ | ⟨g, cap, cur, rfl, _, hgb, _⟩
    · simp [Value.ownBlock] at e
    · obtain rfl : i = g := by simpa [Value.ownBlock] using e
      rw [hgb] at hi
      have := (Obj.cells.inj (Option.some.inj hi)).2.1
      rcases ht with rfl | rfl <;> revert this <;> decide

set_option maxRecDepth 100000 in
set_option maxHeartbeats 4000000 in
theorem appseq_any {gf : Nat} {lb : Array Value} {n0 : Nat} {S : List Int → Prop} {N : Nat} (eg : ∀ args w, (callFunc gf args).run Tryz.prog w = .ok (.enter gf args) w) (w : World) (hn0 : n0 ≤ w.heap.size) (hN : N ≤ 1048576)
    (hseq : ∀ v, SeqO Tryz.prog gf lb n0 S N (w.alloc (.cells #[v] 86))) :
    Calls Tryz.prog 118 #[.slice none 0 0, .func (.func gf) #[] lb] w fun e w' => ∃ v xs, e = .returned v ∧ S xs ∧ w'.ownsRow w.heap.size 3 1 v xs.length (iVs xs) ∧ Below w.heap.size w w' := by
  obtain ⟨i0, hi, hz0, hz1, hz2⟩ := sr.info_parts infoI
  have HSEQ : Hid (SeqO Tryz.prog gf lb n0 S N (w.alloc (.cells #[.slice none 0 0] 86))) := hseq _
  clear hseq
  refine (callsIn_wide (n := 3)).1 ?_
  refine callsIn_of_wp_marks Tryz.func118 rfl trivial ?_ rfl
  simp only [Tryz.ntmps118, List.size_toArray, List.length_cons, List.length_nil, Nat.reduceAdd, Nat.reduceSub, Array.replicate_succ, Array.replicate_zero, List.push_toArray, List.append_toArray, List.nil_append, List.cons_append]
  gi_wp2
  have bB := Boxed.new w 86 (.slice none 0 0)
  have hB0 : Below w.heap.size w (w.alloc (.cells #[.slice none 0 0] 86)) := (Below.refl _ w).alloc (Nat.le_refl _) _
  have hs1 : (w.alloc (.cells #[.slice none 0 0] 86)).heap.size = w.heap.size + 1 := by simp
  obtain ⟨w1, hw1⟩ : ∃ w1, w.alloc (.cells #[.slice none 0 0] 86) = w1 := ⟨_, rfl⟩
  rw [hw1] at HSEQ bB hB0 hs1 ⊢
  clear hw1
  refine range_o (by decide) (gf := gf) (lb := lb) rfl eg HSEQ.out (by omega) (Kq.refl _ _ _) (Nat.le_refl _) rfl
    (fun pre W => (∃ v, Boxed W w.heap.size 86 v ∧ W.ownsRow w.heap.size 3 1 v pre.length (iVs pre) ∧ True) ∧ Below w.heap.size w W)
    (OwnFrom.and (Own.from (holdsRow_own w.heap.size w.heap.size 86 3 1 (fun pre : List Int => pre.length) (fun pre => iVs pre) (fun pre v => True)) _) (ownFrom_below (Nat.le_refl _) (by omega)))
    ⟨⟨_, bB, ⟨rfl, .inl ⟨rfl, rfl⟩⟩, trivial⟩, hB0⟩
    (fun y => { tmps := #[.slice none 0 0, .func (.func gf) #[] lb, .pointer (some ⟨w.heap.size, 0, none⟩), undef, .slice none 0 0, .int .i64 y, .func (.func gf) #[] lb, .int .i64 y, undef, undef, undef, undef, undef], defers := [] }) ?assign ?body ?done
  case assign =>
    intro l2 y W7 K hK
    gi_wp2
    exact hK
  case body =>
    rintro l2 pre x W ⟨⟨v, hv, hrow, _⟩, hB1⟩ hlt hn
    have hc := hv.cell
    have HFR := hv.frozen
    have HLT : Hid (pre.length < N) := hlt
    clear hlt
    gi_wp2_with (gi_at_builtin; refine wpListIn_append_own _ rfl _ _ 86 rfl w.heap.size 3 i0 (.int .i64 0) 1 8 Tryz.underlying86 hi hz0 hz1 hz2 rfl (by decide) _ _ _ rfl (hrow.alloc _) ⟨W.heap.size, 0, none⟩ 1 1 [.int .i64 x] rfl rfl (by intro j u hu; cases j with | zero => (cases hu; simp [go_sem]) | succ j => cases hu) (by simp [Value.oneCell']) (by have := HLT.out; unfold maxLen; omega) (by have := HLT.out; omega) (by have := hB1.size; simp; omega) ?_; intro v' w1 hown' hgrow _; obtain ⟨g', cap', rfl⟩ := ownsRow_succ hown'; obtain ⟨hv1, hv2, hr2, hk2, hb2⟩ := hv.appended (by decide) hrow hB1.size (by omega) hown' hgrow; have hc1 := hv1.cell; have hf1 := hv1.frozen)
    exact ⟨hk2.from _, kq_app hv hrow hgrow hk2 (hb2.mono (by omega)), by have := hb2.size; simp at this; omega, ⟨_, hv2, by rw [iVs_snoc]; exact hr2⟩, hB1.trans hb2⟩
  case done =>
    rintro D xs W hD hS ⟨⟨v, hv, hrow, _⟩, hB1⟩ hK
    have hc := hv.cell
    gi_wp2
    refine ⟨by simp, .inl ⟨_, _, rfl, run_takeDeferred hK, v, by simp [results, Tryz.f118, go_sem], v, xs, rfl, hS, hrow.kept (grownBy_putObj' W D _) ?_, hB1.grown (grownBy_putObj' W D _) hB1.size (fun k e => by cases e; omega)⟩⟩
    rcases hrow.2 with ⟨rfl, _⟩ | ⟨g, cap, cur, rfl, _, hgb, _⟩
    · exact .inl rfl
    · refine .inr fun e => ?_
      have : g = D := by simpa [Value.ownBlock] using e
      rw [this, hK] at hgb
      cases hgb

set_option maxRecDepth 100000 in
theorem collect_any {gf : Nat} {lb : Array Value} {n0 : Nat} {S : List Int → Prop} {N : Nat} (eg : ∀ args w, (callFunc gf args).run Tryz.prog w = .ok (.enter gf args) w) (w : World) (hn0 : n0 ≤ w.heap.size) (hN : N ≤ 1048576)
    (hseq : ∀ v, SeqO Tryz.prog gf lb n0 S N (w.alloc (.cells #[v] 86))) :
    Calls Tryz.prog 87 #[.func (.func gf) #[] lb] w fun e w' => ∃ v xs, e = .returned v ∧ S xs ∧ w'.ownsRow w.heap.size 3 1 v xs.length (iVs xs) ∧ Below w.heap.size w w' := by
  have HA : Hid (Calls Tryz.prog 118 #[.slice none 0 0, .func (.func gf) #[] lb] w fun e w' => ∃ v xs, e = .returned v ∧ S xs ∧ w'.ownsRow w.heap.size 3 1 v xs.length (iVs xs) ∧ Below w.heap.size w w') := appseq_any eg w hn0 hN hseq
  clear hseq
  go_enter Tryz.func87, Tryz.ntmps87
  go_wp2_with (go_at_call 118; refine HA.out.mono ?_; rintro e w1 ⟨v, xs, rfl, hS, hrow, hb⟩)
  go_ret
  exact ⟨v, xs, rfl, hS, hrow, hb⟩

/-! Ints in a block, to the sort and back. -/
theorem holdsI {w : World} {g : Nat} {cur : Array Value} {e : TypeId} {xs : List Int} (hb : w.heap[g]? = some (.cells cur e (0, 0))) (ht : cur.toList.take xs.length = iVs xs) : Holds (Value.int .i64) w g 0 xs.toArray := by
  intro j hj
  have hj' : j < xs.length := by simpa using hj
  refine ⟨?_, by simp [World.frozen?, hb]⟩
  have h1 : (cur.toList.take xs.length)[j]? = (iVs xs)[j]? := by rw [ht]
  rw [List.getElem?_take_of_lt hj', Array.getElem?_toList] at h1
  simp [World.cell?, hb, h1, iVs, hj']
theorem heapI {w : World} {g n : Nat} {os : Array Obj} {cur : Array Value} {e : TypeId} {fr : Nat × Nat} (d : Array Int) (hb : w.heap[g]? = some (.cells cur e fr)) :
    (grow (putRow (Value.int .i64) (Sort.ahead w n) g 0 d) os).heap[g]? = some (.cells (putCells (Value.int .i64) 0 d cur) e fr) := by
  have hg : g < w.heap.size := (Array.getElem?_eq_some_iff.1 hb).1
  rw [heap_grow_old _ _ (by simpa using hg)]
  simp [putRow, mapBlock, Sort.ahead, Array.getElem?_modify, hb, onCells]
theorem grownI {w : World} {g n : Nat} {os : Array Obj} (d : Array Int) : w.grownBy (grow (putRow (Value.int .i64) (Sort.ahead w n) g 0 d) os) (some g) := by
  refine ⟨rfl, rfl, rfl, by simp, fun k hk hne => ?_⟩
  rw [heap_grow_old _ _ (by simpa using hk)]
  have : g ≠ k := fun e => hne (by rw [e])
  simp [putRow, mapBlock, Sort.ahead, Array.getElem?_modify, this]
theorem takeI (cur : Array Value) (ts : List Int) (h : ts.length ≤ cur.size) : (putCells (Value.int .i64) 0 ts.toArray cur).toList.take ts.length = iVs ts := by
  apply List.ext_getElem?
  intro j
  by_cases hj : j < ts.length
  · rw [List.getElem?_take_of_lt hj, Array.getElem?_toList]
    simp [putCells, iVs, hj, show j < cur.size by omega]
  · rw [List.getElem?_take_eq_none (by omega), List.getElem?_eq_none (by simp [iVs]; omega)]

/-- Ascending numbers, out of any order of theirs. -/
theorem sort_asc {l : List Nat} (hl : l.Pairwise (· < ·)) {xs : List Int} (h : xs.Perm (ints l)) : (xs.mergeSort fun x y => decide (x ≤ y)) = ints l := by
  have tr : ∀ a b c : Int, decide (a ≤ b) = true → decide (b ≤ c) = true → decide (a ≤ c) = true := fun a b c h1 h2 => by simp only [decide_eq_true_eq] at *; omega
  have tot : ∀ a b : Int, (decide (a ≤ b) || decide (b ≤ a)) = true := fun a b => by simp only [Bool.or_eq_true, decide_eq_true_eq]; omega
  refine List.Perm.eq_of_pairwise (le := fun a b => decide (a ≤ b) = true) (fun a b _ _ h1 h2 => by simp only [decide_eq_true_eq] at h1 h2; omega) (List.pairwise_mergeSort tr tot xs) ?_ ((List.mergeSort_perm xs _).trans h)
  unfold ints
  rw [List.pairwise_map]
  exact hl.imp fun h => by simp; omega

set_option maxRecDepth 100000 in
theorem sort_any (base : Nat) (v : Value) (xs : List Int) (w : World) (hrow : w.ownsRow base 3 1 v xs.length (iVs xs)) (hpos : 0 < xs.length) (hn : xs.length ≤ 1048576) :
    Calls Tryz.prog 88 #[v] w fun e w' => e = .returned (.tuple #[]) ∧ w'.ownsRow base 3 1 v xs.length (iVs (xs.mergeSort fun x y => decide (x ≤ y))) ∧ w.grownBy w' v.ownBlock := by
  obtain ⟨hl, ⟨rfl, h0⟩ | ⟨g, cap, cur, rfl, hg, hgb, hc, hcm, hcs, htk⟩⟩ := hrow
  · omega
  refine (Any.slices_Sort_int Tryz.laysSortI g 0 cap xs w (holdsI hgb (by rw [Nat.mul_one] at htk; exact htk)) (Array.getElem?_eq_some_iff.1 hgb).1 (by omega)).mono ?_
  rintro e w' ⟨rfl, q, os, rfl⟩
  refine ⟨rfl, ⟨by simp [iVs], .inr ⟨g, cap, _, rfl, hg, heapI _ hgb, hc, hcm, by simp [putCells, hcs], ?_⟩⟩, grownI _⟩
  have := takeI cur (xs.mergeSort fun x y => decide (x ≤ y)) (by simp; omega)
  simpa [iVs] using this

set_option maxRecDepth 100000 in
theorem sorted_any {gf : Nat} {lb : Array Value} {n0 : Nat} {l : List Nat} (hl : l.Pairwise (· < ·)) (hpos : 0 < l.length) (eg : ∀ args w, (callFunc gf args).run Tryz.prog w = .ok (.enter gf args) w) (w : World) (hn0 : n0 ≤ w.heap.size) (hN : l.length ≤ 1048576)
    (hseq : ∀ v, SeqO Tryz.prog gf lb n0 (fun xs => xs.Perm (ints l)) l.length (w.alloc (.cells #[v] 86))) :
    Calls Tryz.prog 54 #[.func (.func gf) #[] lb] w fun e w' => ∃ v, e = .returned v ∧ w'.ownsRow w.heap.size 3 1 v l.length (iVs (ints l)) ∧ Below w.heap.size w w' := by
  have HC : Hid (Calls Tryz.prog 87 #[.func (.func gf) #[] lb] w fun e w' => ∃ v xs, e = .returned v ∧ xs.Perm (ints l) ∧ w'.ownsRow w.heap.size 3 1 v xs.length (iVs xs) ∧ Below w.heap.size w w') := collect_any eg w hn0 hN hseq
  clear hseq
  go_enter Tryz.func54, Tryz.ntmps54
  go_wp2_with (go_at_call 87; refine HC.out.mono ?_; rintro e w1 ⟨v, xs, rfl, hS, hrow, hb⟩)
  have hlx : xs.length = l.length := by rw [hS.length_eq, ints_len]
  have HS : Hid (Calls Tryz.prog 88 #[v] w1 fun e w' => e = .returned (.tuple #[]) ∧ w'.ownsRow w.heap.size 3 1 v xs.length (iVs (xs.mergeSort fun x y => decide (x ≤ y))) ∧ w1.grownBy w' v.ownBlock) := sort_any _ v xs w1 hrow (by omega) (by omega)
  have HLX : Hid (xs.length = l.length) := hlx
  clear hlx
  go_wp2_with (go_at_call 88; refine HS.out.mono ?_; rintro e w2 ⟨rfl, hrow2, hg⟩)
  go_ret
  refine ⟨v, rfl, ?_, ?_⟩
  · rw [sort_asc hl hS, HLX.out] at hrow2
    exact hrow2
  · refine hb.grown hg hb.size (fun k e => ?_)
    rcases hrow.2 with ⟨rfl, _⟩ | ⟨g, cap, cur, rfl, hgg, _⟩
    · simp [Value.ownBlock] at e
    · obtain rfl : g = k := by simpa [Value.ownBlock] using e
      exact hgg

end Go.Proofs.YtaoimkjcaienbaaGreatDoor.nb

namespace Go.Proofs.YtaoimkjcaienbaaGreatDoor.tt
open Go.ChangeShapes Go.WideShapes Go.ChangeAt Go.RowKit Go.Deep
set_option linter.unusedVariables false
set_option linter.unusedSimpArgs false

/-! ### CutEntry: the specification -/


/-- Entries by their numbers. -/
def selE (E : Nat → En) (ks : List Nat) : Nat → En := fun k => E (ks.getD k 0)
theorem sel_snoc (E : Nat → En) (ks : List Nat) (i : Nat) : enC (selE E (ks ++ [i])) (ks.length + 1) = enC (selE E ks) ks.length ++ [.string (E i).path, .int .i64 (E i).kind, .string (E i).data, .bool (E i).exec] := by
  rw [enC_succ]
  have h1 : selE E (ks ++ [i]) ks.length = E i := by unfold selE; simp
  have h2 : enC (selE E (ks ++ [i])) ks.length = enC (selE E ks) ks.length := enC_congr fun k hk => by unfold selE; simp only [List.getD_eq_getElem?_getD]; rw [List.getElem?_append_left hk]
  rw [h1, h2]
/-- What stays. -/
def stayB (E : Nat → En) (q : List UInt8) (i : Nat) : Bool := !decide (pth E i = q) && !decide (Und (pth E i) q)
def stL (E : Nat → En) (q : List UInt8) (i : Nat) : List Nat := (List.range i).filter (stayB E q)
theorem stL_succ (E : Nat → En) (q : List UInt8) (i : Nat) : stL E q (i + 1) = if stayB E q i = true then stL E q i ++ [i] else stL E q i := by
  unfold stL
  rw [List.range_succ, List.filter_append]
  by_cases h : stayB E q i = true
  · rw [if_pos h, List.filter_cons_of_pos h, List.filter_nil]
  · rw [if_neg h, List.filter_cons_of_neg h, List.filter_nil, List.append_nil]
theorem stL_le (E : Nat → En) (q : List UInt8) (i : Nat) : (stL E q i).length ≤ i := by
  have := List.length_filter_le (stayB E q) (List.range i)
  rwa [List.length_range] at this
theorem stL_lt {E : Nat → En} {q : List UInt8} {n j : Nat} (hj : j < n) (h : pth E j = q) : (stL E q n).length < n := by
  induction n with
  | zero => omega
  | succ n ih =>
    rw [stL_succ]
    by_cases hn : j = n
    · subst hn
      rw [if_neg (by unfold stayB; rw [decide_eq_true h]; simp)]
      have := stL_le E q j
      omega
    · have h1 := ih (by omega)
      split
      · rw [List.length_append, List.length_singleton]; omega
      · omega

set_option maxHeartbeats 4000000 in
set_option maxRecDepth 100000 in
theorem sl10cut_any (E : Nat → En) (b n cap j : Nat) (P : ByteArray) (w : World) (hR : EnR w b 0 n E) (hS : SmE n E) (hn : n ≤ 500) (hPs : P.size ≤ 1048576) (hj : j < n) (hjp : pth E j = P.data.toList) :
    Calls Tryz.prog 60 #[.slice (some ⟨b, 0, none⟩) n cap, .string P] w fun r w' => (∃ v, r = .returned (.tuple #[v, .bool true]) ∧ RowE w.heap.size w' v (stL E P.data.toList n).length (selE E (stL E P.data.toList n))) ∧ Below w.heap.size w w' := by
  have HR : Hid (∀ W, Below w.heap.size w W → EnR W b 0 n E) := fun W hW => hR.below hW
  have HC : Hid (∀ p W, p.size ≤ 1048576 → Calls Tryz.prog 94 #[.string p, .string P] W fun e w' => e = .returned (.bool (decide (Und p.data.toList P.data.toList))) ∧ w' = W) := fun p W hp => under_any p P hp hPs W
  have HS : Hid (SmE n E) := hS
  have HLT : Hid ((stL E P.data.toList n).length < n) := stL_lt hj hjp
  clear hR hS hj hjp
  go_enter Tryz.func60, Tryz.ntmps60
  go_wp2
  go_loopw [6, 7] (fun v x wr => ∃ i : Nat, i ≤ n ∧ x = .int .i64 (i : Int) ∧ wr.ownsRow w.heap.size 29 4 v (stL E P.data.toList i).length (enC (selE E (stL E P.data.toList i)) (stL E P.data.toList i).length) ∧ v ≠ .slice none 0 0 ∧ Below w.heap.size w wr) (fun _ x _ => n - (intOf x).toNat)
  case atStart => exact ⟨0, Nat.zero_le _, rfl, made_own w 0 (by omega) #[] rfl, (by intro e; cases e), (Below.refl _ _).alloc (Nat.le_refl _) _⟩
  case round =>
    obtain ⟨i, hi, rfl, hown, hvn, hbel⟩ := hrel
    obtain ⟨L, hL⟩ : ∃ L, stL E P.data.toList i = L := ⟨_, rfl⟩
    have HL : Hid (stL E P.data.toList i = L) := hL
    have hLl : L.length ≤ 1000 := by have := stL_le E P.data.toList i; rw [hL] at this; omega
    rw [hL] at hown
    obtain ⟨at7, cp7, hv7⟩ := own_shape hown
    subst hv7
    have HOW : Hid (wr.ownsRow w.heap.size 29 4 (.slice at7 L.length cp7) L.length (enC (selE E L) L.length)) := hown
    have HNN : Hid (Value.slice at7 L.length cp7 ≠ .slice none 0 0) := hvn
    have HBE : Hid (Below w.heap.size w wr) := hbel
    clear hown hvn hbel hL
    by_cases hin : i < n
    · have hin' : (i : Int) < (n : Int) := by omega
      have hi0 : (0 : Int) ≤ (i : Int) := by omega
      obtain ⟨c0, c1, c2, c3⟩ := HR.out _ HBE.out i hin
      rw [Nat.zero_add] at c0 c1 c2 c3
      have HPM : Hid (pth E i = (E i).path.data.toList) := rfl
      have hsm := (HS.out i hin).1
      have HST := stL_succ E P.data.toList i
      have HSTH : Hid (stL E P.data.toList (i + 1) = if stayB E P.data.toList i = true then L ++ [i] else L) := by rw [← HL.out]; exact HST
      have HSN : Hid (enC (selE E (L ++ [i])) (L.length + 1) = enC (selE E L) L.length ++ [.string (E i).path, .int .i64 (E i).kind, .string (E i).data, .bool (E i).exec]) := sel_snoc E L i
      clear HST
      obtain ⟨e1, he1⟩ : ∃ e1, E i = e1 := ⟨_, rfl⟩
      rw [he1] at c0 c1 c2 c3 HPM HSN hsm
      clear he1
      obtain ⟨M, kM, dM, xM⟩ := e1
      simp only at c0 c1 c2 c3 HPM HSN hsm
      have HCM : Hid (∀ W, Calls Tryz.prog 94 #[.string M, .string P] W fun e w' => e = .returned (.bool (decide (Und M.data.toList P.data.toList))) ∧ w' = W) := fun W => HC.out M W hsm
      by_cases heq : M.data.toList = P.data.toList
      · have hbe : (M.toList == P.toList) = true := by rw [ByteArray.toList_eq, ByteArray.toList_eq, beq_iff_eq]; exact heq
        have HLN : Hid (stL E P.data.toList (i + 1) = L) := by show _ = _; rw [HSTH.out, if_neg (by unfold stayB; rw [HPM.out, decide_eq_true heq]; simp)]
        clear heq hsm
        go_wp2
        go_roundw
        case rel => exact ⟨i + 1, by omega, by go_num, by rw [HLN.out]; exact HOW.out, HNN.out, HBE.out⟩
        case measure => simp [intOf] <;> omega
      · have hbe : (M.toList == P.toList) = false := by rw [ByteArray.toList_eq, ByteArray.toList_eq, beq_eq_false_iff_ne]; exact heq
        by_cases hu : Und M.data.toList P.data.toList
        · rw [decide_eq_true hu] at HCM
          have HLN : Hid (stL E P.data.toList (i + 1) = L) := by show _ = _; rw [HSTH.out, if_neg (by unfold stayB; rw [HPM.out, decide_eq_true hu]; simp)]
          clear heq hsm hu
          go_wp2_with (go_at_call 94; refine (HCM.out _).mono ?_; rintro e w1 ⟨rfl, hw⟩; have hw2 := hw.symm; subst hw2; clear hw)
          go_roundw
          case rel => exact ⟨i + 1, by omega, by go_num, by rw [HLN.out]; exact HOW.out, HNN.out, HBE.out⟩
          case measure => simp [intOf] <;> omega
        · rw [decide_eq_false hu] at HCM
          have HLN : Hid (stL E P.data.toList (i + 1) = L ++ [i]) := by show _ = _; rw [HSTH.out, if_pos (by unfold stayB; rw [HPM.out, decide_eq_false heq, decide_eq_false hu]; rfl)]
          have HOA : Hid (∀ ob, (wr.alloc ob).ownsRow w.heap.size 29 4 (.slice at7 L.length cp7) L.length (enC (selE E L) L.length)) := fun ob => own_below HOW.out ((Below.refl _ _).alloc (Nat.le_refl _) _)
          have HBA : Hid (∀ ob, Below w.heap.size w (wr.alloc ob)) := fun ob => HBE.out.alloc HBE.out.size _
          have HSA : Hid (∀ ob, w.heap.size ≤ (wr.alloc ob).heap.size) := fun ob => (HBA.out ob).size
          have HCW : Hid (L.length ≤ 2000000) := by show _ ≤ _; omega
          clear heq hsm hu
          go_wp2_with (first
            | (go_at_call 94; refine (HCM.out _).mono ?_; rintro e w1 ⟨rfl, hw⟩; have hw2 := hw.symm; subst hw2; clear hw)
            | (at_builtin; refine app_ent _ rfl _ _ rfl w.heap.size _ _ _ rfl (HOA.out _) HNN.out ⟨wr.heap.size, 0, none⟩ 1 (.string M) (.int .i64 kM) (.string dM) (.bool xM) rfl (four_at _ _ rfl _ _ _ _ _) (four_one M kM dM xM) HCW.out (HSA.out _) ?_; intro v6 w6 hownw6 hvw6 hgw6; refine Hid.out ?_)
            | go_in)
          refine Lib.hid ?_
          have HB6 : Hid (Below w.heap.size w w6) := (HBA.out _).grown hgw6 (HBA.out _).size (fun q hq => ((HOA.out (.cells #[.string M, .int .i64 kM, .string dM, .bool xM] 29)).lt q hq).1)
          have HO6 : Hid (w6.ownsRow w.heap.size 29 4 v6 (L.length + 1) (enC (selE E (L ++ [i])) (L.length + 1))) := by rw [HSN.out]; exact hownw6
          have HV6 : Hid (v6 ≠ .slice none 0 0) := hvw6
          clear hownw6 hvw6 hgw6 c0 c1 c2 c3
          go_wp2
          go_roundw
          case rel => exact ⟨i + 1, by omega, by go_num, by rw [HLN.out, List.length_append]; exact HO6.out, HV6.out, HB6.out⟩
          case measure => simp [intOf] <;> omega
    · have hin' : ¬ (i : Int) < (n : Int) := by omega
      obtain rfl : i = n := by omega
      have hlt : (L.length : Int) < (i : Int) := by have := HLT.out; rw [HL.out] at this; omega
      go_wp2
      go_ret2
      rw [HL.out]
      exact ⟨⟨_, rfl, own_rowE HOW.out HNN.out⟩, HBE.out⟩

end Go.Proofs.YtaoimkjcaienbaaGreatDoor.tt

namespace Go.Proofs.YtaoimkjcaienbaaGreatDoor.tt
open Go.ChangeShapes Go.WideShapes Go.ChangeAt Go.RowKit Go.Deep
set_option linter.unusedVariables false
set_option linter.unusedSimpArgs false

/-! ### CutEntry: what both answer; the specification whole -/

/-- Whether something goes. -/
noncomputable def cuB (E : Nat → En) (n : Nat) (q : List UInt8) : Bool := treeB E n && decide (0 ≤ fnd E n q)
noncomputable def cuN (E : Nat → En) (n : Nat) (q : List UInt8) : Nat := if treeB E n = true then (if 0 ≤ fnd E n q then (stL E q n).length else n) else 0
noncomputable def cuF (E : Nat → En) (n : Nat) (q : List UInt8) : Nat → En := if 0 ≤ fnd E n q then selE E (stL E q n) else E
theorem fnd_at {E : Nat → En} {n : Nat} {q : List UInt8} (h : 0 ≤ fnd E n q) : ∃ j, j < n ∧ pth E j = q ∧ fnd E n q = (j : Int) := by
  unfold fnd at h ⊢
  rcases chd_cases E (fun j => j) n q with ⟨j, hj, hp, e⟩ | ⟨_, e⟩
  · exact ⟨j, hj, hp, by rw [e]; omega⟩
  · rw [e] at h; omega
theorem cuN_le (E : Nat → En) (n : Nat) (q : List UInt8) : cuN E n q ≤ n := by
  have := stL_le E q n
  unfold cuN
  split
  · split <;> omega
  · omega
theorem row0 (E : Nat → En) (w : World) : RowE w.heap.size (w.alloc (.cells #[] 29)) (.slice (some ⟨w.heap.size, 0, none⟩) 0 0) 0 E := own_rowE (made_own w 0 (by omega) #[] rfl) (by intro e; cases e)

set_option maxRecDepth 100000 in
theorem scut_any (E : Nat → En) (b n cap : Nat) (q : ByteArray) (w : World) (hR : EnR w b 0 n E) (hS : SmE n E) (hn : n ≤ 1048576) (hq : q.size ≤ 1048576) (hcap : n ≤ cap) (hcl : cap ≤ maxLen) :
    Calls Tryz.prog 23 #[.slice (some ⟨b, 0, none⟩) n cap, .string q] w fun r w' => (∃ v, r = .returned (.tuple #[v, .bool (cuB E n q.data.toList)]) ∧ RowE w.heap.size w' v (cuN E n q.data.toList) (cuF E n q.data.toList)) ∧ Below w.heap.size w w' := by
  have HT : Hid (∀ W, Below w.heap.size w W → Calls Tryz.prog 9 #[.slice (some ⟨b, 0, none⟩) n cap] W fun e w' => e = .returned (.bool (treeB E n)) ∧ Below W.heap.size W w') := fun W hb => stree_any E b 0 n cap W (hR.below hb) hS hn hcap hcl
  have HF : Hid (∀ W, Below w.heap.size w W → Asc E n → Calls Tryz.prog 58 #[.slice (some ⟨b, 0, none⟩) n cap, .string q] W fun e w' => (∃ r : Int, e = .returned (.int .i64 r) ∧ Fnd E n q.data.toList r) ∧ Below W.heap.size W w') := fun W hb hA => find_any E b 0 n cap q W (hR.below hb) hA hn hcap
  have HCC : Hid (∀ W, Below w.heap.size w W → Calls Tryz.prog 59 #[.slice (some ⟨b, 0, none⟩) n cap] W fun e w' => (∃ v, e = .returned v ∧ w'.ownsRow W.heap.size 29 4 v n (enC E n) ∧ v ≠ .slice none 0 0) ∧ Below W.heap.size W w') := fun W hW => copy_any E b 0 n cap W (hR.below hW) hn
  have HCU : Hid (∀ W j, Below w.heap.size w W → n ≤ 500 → j < n → pth E j = q.data.toList → Calls Tryz.prog 60 #[.slice (some ⟨b, 0, none⟩) n cap, .string q] W fun r w' => (∃ v, r = .returned (.tuple #[v, .bool true]) ∧ RowE W.heap.size w' v (stL E q.data.toList n).length (selE E (stL E q.data.toList n))) ∧ Below W.heap.size W w') := fun W j hW h5 hj hp => sl10cut_any E b n cap j q W (hR.below hW) hS h5 hq hj hp
  clear hR hS
  cases ht : treeB E n with
  | false =>
    rw [ht] at HT
    have HE : Hid (cuB E n q.data.toList = false ∧ cuN E n q.data.toList = 0) := ⟨by unfold cuB; rw [ht]; rfl, by unfold cuN; rw [if_neg (by rw [ht]; simp)]⟩
    clear ht
    go_enter Tryz.func23, Tryz.ntmps23
    go_wp2_with (go_at_call 9; refine (HT.out _ (Below.refl _ _)).mono ?_; rintro e w1 ⟨rfl, hl1⟩)
    go_ret2
    rw [HE.out.1, HE.out.2]
    exact ⟨⟨_, rfl, rowE_mono (row0 _ w1) hl1.size⟩, hl1.alloc hl1.size _⟩
  | true =>
    rw [ht] at HT
    obtain ⟨hn5, hTr⟩ := treeB_is ht
    have HA : Hid (Asc E n) := hTr.asc
    by_cases h0 : 0 ≤ fnd E n q.data.toList
    · obtain ⟨j, hj, hjp, hfj⟩ := fnd_at h0
      have HE : Hid (cuB E n q.data.toList = true ∧ cuN E n q.data.toList = (stL E q.data.toList n).length ∧ cuF E n q.data.toList = selE E (stL E q.data.toList n)) := ⟨by unfold cuB; rw [ht, decide_eq_true h0]; rfl, by unfold cuN; rw [if_pos ht, if_pos h0], by unfold cuF; rw [if_pos h0]⟩
      have HCU2 : Hid (∀ W, Below w.heap.size w W → Calls Tryz.prog 60 #[.slice (some ⟨b, 0, none⟩) n cap, .string q] W fun r w' => (∃ v, r = .returned (.tuple #[v, .bool true]) ∧ RowE W.heap.size w' v (stL E q.data.toList n).length (selE E (stL E q.data.toList n))) ∧ Below W.heap.size W w') := fun W hW => HCU.out W j hW hn5 hj hjp
      have hjn : ¬ (j : Int) < 0 := by omega
      clear ht hTr HCU h0 hjp
      go_enter Tryz.func23, Tryz.ntmps23
      go_wp2_with (first
        | (go_at_call 9; refine (HT.out _ (Below.refl _ _)).mono ?_; rintro e w1 ⟨rfl, hl1⟩)
        | (go_at_call 58; refine (HF.out _ hl1 HA.out).mono ?_; rintro e w2 ⟨⟨r, rfl, hr⟩, hl2⟩; obtain rfl := (fnd_of HA.out hr).trans hfj; have hb2 := hl1.trans (hl2.mono hl1.size))
        | (go_at_call 60; refine (HCU2.out _ hb2).mono ?_; rintro e w3 ⟨⟨v, rfl, hv⟩, hl3⟩))
      go_ret2
      rw [HE.out.1, HE.out.2.1, HE.out.2.2]
      exact ⟨⟨_, rfl, rowE_mono hv hb2.size⟩, hb2.trans (hl3.mono hb2.size)⟩
    · have HE : Hid (cuB E n q.data.toList = false ∧ cuN E n q.data.toList = n ∧ cuF E n q.data.toList = E) := ⟨by unfold cuB; rw [ht, decide_eq_false h0]; rfl, by unfold cuN; rw [if_pos ht, if_neg h0], by unfold cuF; rw [if_neg h0]⟩
      have hfn : fnd E n q.data.toList < 0 := by omega
      clear ht hTr HCU h0
      obtain ⟨F, hF⟩ : ∃ F, fnd E n q.data.toList = F := ⟨_, rfl⟩
      have HFE : Hid (fnd E n q.data.toList = F) := hF
      rw [hF] at hfn
      clear hF
      go_enter Tryz.func23, Tryz.ntmps23
      go_wp2_with (first
        | (go_at_call 9; refine (HT.out _ (Below.refl _ _)).mono ?_; rintro e w1 ⟨rfl, hl1⟩)
        | (go_at_call 58; refine (HF.out _ hl1 HA.out).mono ?_; rintro e w2 ⟨⟨r, rfl, hr⟩, hl2⟩; have hrF := (fnd_of HA.out hr).trans HFE.out; subst hrF; have hb2 := hl1.trans (hl2.mono hl1.size))
        | (go_at_call 59; refine (HCC.out _ hb2).mono ?_; rintro e w9 ⟨⟨v9, rfl, hown9, hv9⟩, hl9⟩; have HR9 : Hid (RowE w2.heap.size w9 v9 n E) := own_rowE hown9 hv9; clear hown9 hv9))
      go_ret2
      rw [HE.out.1, HE.out.2.1, HE.out.2.2]
      exact ⟨⟨_, rfl, rowE_mono HR9.out hb2.size⟩, hb2.trans (hl9.mono hb2.size)⟩

end Go.Proofs.YtaoimkjcaienbaaGreatDoor.tt

namespace Go.Proofs.YtaoimkjcaienbaaGreatDoor.up
open Go.ChangeShapes Go.WideShapes Go.ChangeAt Go.RowKit Go.Deep
set_option linter.unusedVariables false
set_option linter.unusedSimpArgs false

/-! ### Bytes that are unpacked: the specification's reader -/

/-- The reader's three fields. -/
structure Sr (C : Nat) (w : World) (p b N i : Nat) (bad : Bool) : Prop where
  c0 : w.cell? ⟨p, 0, none⟩ = some (.slice (some ⟨b, 0, none⟩) N C)
  c1 : w.cell? ⟨p, 1, none⟩ = some (.int .i64 (i : Int))
  c2 : w.cell? ⟨p, 2, none⟩ = some (.bool bad)
  fz : ∀ j, w.frozen? ⟨p, j, none⟩ = false
  le : i ≤ N

variable {C : Nat}

theorem Sr.setBad {w : World} {p b N i : Nat} {bad : Bool} (h : Sr C w p b N i bad) : Sr C (w.setCell ⟨p, 2, none⟩ (.bool true)) p b N i true :=
  ⟨by rw [World.cell?_setCell_other _ _ _ _ (fun e => by cases e)]; exact h.c0, by rw [World.cell?_setCell_other _ _ _ _ (fun e => by cases e)]; exact h.c1, World.cell?_setCell_same _ _ _ h.c2, fun j => by rw [← h.fz j]; simp [go_sem], h.le⟩
theorem Sr.setI {w : World} {p b N i j : Nat} {bad : Bool} (h : Sr C w p b N i bad) (hj : j ≤ N) : Sr C (w.setCell ⟨p, 1, none⟩ (.int .i64 (j : Int))) p b N j bad :=
  ⟨by rw [World.cell?_setCell_other _ _ _ _ (fun e => by cases e)]; exact h.c0, World.cell?_setCell_same _ _ _ h.c1, by rw [World.cell?_setCell_other _ _ _ _ (fun e => by cases e)]; exact h.c2, fun j => by rw [← h.fz j]; simp [go_sem], hj⟩

theorem and127N : ∀ n, n < 256 → bits BinOp.and IntKind.u8 ((n : Nat) : Int) 127 = ((n % 128 : Nat) : Int) := by decide +kernel
theorem and127 (y : UInt8) : bits BinOp.and IntKind.u8 (y.toNat : Int) 127 = ((y.toNat % 128 : Nat) : Int) := and127N _ y.toNat_lt
theorem sx_of {a sh v : Nat} (h : sh = 0 ∨ sh = 7 ∨ sh = 14 ∨ sh = 21) (ha : a < 2 ^ sh) (y : UInt8) (hv : v = y.toNat % 128) : wrap64 ((a : Int) + wrap64 (wrap64 (bits BinOp.and IntKind.u8 (y.toNat : Int) 127) * 2 ^ sh)) = ((a + v * 2 ^ sh : Nat) : Int) ∧ a + v * 2 ^ sh < 2 ^ (sh + 7) := by
  rw [and127, ← hv]
  have hv2 : v < 128 := by omega
  rcases h with rfl | rfl | rfl | rfl
  all_goals
    simp only [wrap64, Nat.reducePow, Int.reducePow, Nat.reduceAdd] at ha ⊢
    constructor <;> omega
theorem Sr.drew {w : World} {p b N i : Nat} {bad : Bool} (h : Sr C w p b N i bad) : Sr C w.drew p b N i bad := ⟨h.c0, h.c1, h.c2, h.fz, h.le⟩
theorem grown_drew {w w' : World} {r : Option Nat} (h : w.grownBy w' r) : w.grownBy w'.drew r := ⟨h.os, h.tape, h.output, h.size, h.block⟩

/-- What a number leaves. -/
def SnR (C : Nat) (w w' : World) (p b : Nat) (l : List UInt8) (i : Nat) (bad : Bool) (e : Ending) : Prop := ∃ (m i' : Nat) (bad' : Bool), e = .returned (.int .i64 (m : Int)) ∧ m < 268435456 ∧ i ≤ i' ∧ Sr C w' p b l.length i' bad' ∧ (bad = true → bad' = true) ∧ w.grownBy w' (some p) ∧ ∀ x tail, l.drop i = bf.num x ++ tail → x ≤ 1048576 → m = x ∧ l.drop i' = tail ∧ bad' = bad

structure SnI (C : Nat) (w wr : World) (p b : Nat) (l : List UInt8) (i : Nat) (bad : Bool) (a sh i' : Nat) : Prop where
  sh7 : sh = 0 ∨ sh = 7 ∨ sh = 14 ∨ sh = 21 ∨ sh = 28
  ab : a < 2 ^ sh
  le : i ≤ i'
  sr : Sr C wr p b l.length i' bad
  gr : w.grownBy wr (some p)
  pr : ∀ x tail, l.drop i = bf.num x ++ tail → x ≤ 1048576 → ∃ y, l.drop i' = bf.num y ++ tail ∧ x = a + y * 2 ^ sh ∧ (sh = 0 ∨ 1 ≤ y)

set_option maxRecDepth 100000 in
set_option maxHeartbeats 2000000 in
theorem read_any (b p i : Nat) (bad : Bool) (l : List UInt8) (hbp : b ≠ p) (hN : l.length ≤ 1048576) (w : World) (h : Sr C w p b l.length i bad) (hB : By w b l) :
    Calls Tryz.prog 46 #[.pointer (some ⟨p, 0, none⟩)] w fun e w' => SnR C w w' p b l i bad e := by
  have HBY : Hid (∀ W, w.grownBy W (some p) → By W b l) := fun W hW => hB.grown hW hbp
  have HI0 : Hid (SnI C w w p b l i bad 0 0 i) := ⟨.inl rfl, by simp, Nat.le_refl _, h, grown_refl _ _, fun x tail hx _ => ⟨x, hx, by simp, .inl rfl⟩⟩
  clear h hB
  go_enter Tryz.func46, Tryz.ntmps46
  go_wp2
  go_loopw [3, 4, 5] (fun v s _ wr => ∃ (a sh i' : Nat), v = .int .i64 (a : Int) ∧ s = .int .u64 (sh : Int) ∧ SnI C w wr p b l i bad a sh i') (fun _ s _ _ => 28 - (intOf s).toNat)
  case atStart => exact ⟨0, 0, i, rfl, rfl, HI0.out⟩
  case round =>
    obtain ⟨a, sh, i', rfl, rfl, hI⟩ := hrel
    have HII : Hid (SnI C w wr p b l i bad a sh i') := hI
    obtain ⟨c0, c1, c2, fz, hle⟩ := hI.sr
    have fz1 := fz 1
    have fz2 := fz 2
    have hsh := hI.sh7
    clear hI fz
    by_cases hs : sh < 28
    · have hs' : (sh : Int) < 28 := by omega
      obtain ⟨N, hNN⟩ : ∃ N, N = l.length := ⟨_, rfl⟩
      rw [← hNN] at c0
      have HNN : Hid (N = l.length) := hNN
      clear hNN
      by_cases hil : i' < N
      · have hil' : ¬ (N : Int) ≤ (i' : Int) := by omega
        have hil2 : ¬ N ≤ i' := by omega
        have hi0 : (0 : Int) ≤ (i' : Int) := by omega
        have hiN : (i' : Int) < (N : Int) := by omega
        have hil3 : i' < l.length := by rw [← HNN.out]; exact hil
        obtain ⟨y, hy⟩ : ∃ y, y = l[i'] := ⟨_, rfl⟩
        have hyc : wr.cell? ⟨b, i', none⟩ = some (.int .u8 (y.toNat : Int)) := by rw [hy]; exact HBY.out wr HII.out.gr i' hil3
        have HDR : Hid (l.drop i' = y :: l.drop (i' + 1)) := by show _ = _; rw [hy]; exact List.drop_eq_getElem_cons hil3
        have hyb : (y.toNat : Int) < 256 := by have := y.toNat_lt; omega
        clear hy
        go_wp2_with fail
        go_region_held3 (fun w' => w'.cell? ⟨p, 0, none⟩ = some (.slice (some ⟨b, 0, none⟩) N C) ∧ w'.cell? ⟨p, 1, none⟩ = some (.int .i64 (i' : Int))) (first | go_keep) (fail)
        go_wp2_with fail
        go_region_held3 (fun w' => w'.cell? ⟨p, 0, none⟩ = some (.slice (some ⟨b, 0, none⟩) N C) ∧ w'.cell? ⟨p, 1, none⟩ = some (.int .i64 (i' : Int)) ∧ w'.cell? ⟨b, i', none⟩ = some (.int .u8 (y.toNat : Int))) (first | go_keep) (fail)
        have h4 : sh = 0 ∨ sh = 7 ∨ sh = 14 ∨ sh = 21 := by omega
        have hsx := sx_of h4 HII.out.ab y rfl
        obtain ⟨A, hA⟩ : ∃ A, A = a + y.toNat % 128 * 2 ^ sh := ⟨_, rfl⟩
        rw [← hA] at hsx
        have HA : Hid (A = a + y.toNat % 128 * 2 ^ sh) := hA
        obtain ⟨hsx1, hsx2⟩ := hsx
        have HA2 : Hid (A < 2 ^ (sh + 7)) := hsx2
        have HSR : Hid (Sr C (wr.setCell ⟨p, 1, none⟩ (.int .i64 ((i' : Int) + 1))).drew.drew p b l.length (i' + 1) bad) := by
          have := HII.out.sr.setI (j := i' + 1) (by omega)
          rw [show ((i' + 1 : Nat) : Int) = (i' : Int) + 1 by omega] at this
          exact this.drew.drew
        have HGR : Hid (w.grownBy (wr.setCell ⟨p, 1, none⟩ (.int .i64 ((i' : Int) + 1))).drew.drew (some p)) := grown_drew (grown_drew (grown_set HII.out.gr _ _))
        clear hA hsx2
        by_cases hlow : y.toNat < 128
        · have hlow' : (y.toNat : Int) < 128 := by omega
          have HR : Hid (SnR C w (wr.setCell ⟨p, 1, none⟩ (.int .i64 ((i' : Int) + 1))).drew.drew p b l i bad (.returned (.int .i64 (A : Int)))) := by
            refine ⟨A, i' + 1, bad, rfl, ?_, by have := HII.out.le; omega, HSR.out, fun h => h, HGR.out, fun x tail hx hxb => ?_⟩
            · have h1 := HA2.out
              have h2 : 2 ^ (sh + 7) ≤ 2 ^ 28 := Nat.pow_le_pow_right (by omega) (by omega)
              have h3 : (2 : Nat) ^ 28 = 268435456 := rfl
              omega
            · obtain ⟨z, hz, hxe, _⟩ := HII.out.pr x tail hx hxb
              rw [HDR.out] at hz
              by_cases hz1 : z < 128
              · rw [bf.num_low hz1, List.singleton_append, List.cons.injEq] at hz
                have hyz : y.toNat = z := by rw [hz.1, UInt8.toNat_ofNat']; omega
                refine ⟨?_, hz.2, rfl⟩
                rw [HA.out, hyz, Nat.mod_eq_of_lt hz1, hxe]
              · rw [bf.num_high hz1, List.cons_append, List.cons.injEq] at hz
                have hyz : y.toNat = z % 128 + 128 := by rw [hz.1, UInt8.toNat_ofNat']; omega
                omega
          rw [← hsx1] at HR
          go_wp2_with fail
          go_ret
          exact HR.out
        · have hlow' : ¬ (y.toNat : Int) < 128 := by omega
          have HNI : Hid (SnI C w (wr.setCell ⟨p, 1, none⟩ (.int .i64 ((i' : Int) + 1))).drew.drew p b l i bad A (sh + 7) (i' + 1)) := by
            refine ⟨by omega, HA2.out, by have := HII.out.le; omega, HSR.out, HGR.out, fun x tail hx hxb => ?_⟩
            obtain ⟨z, hz, hxe, _⟩ := HII.out.pr x tail hx hxb
            rw [HDR.out] at hz
            by_cases hz1 : z < 128
            · rw [bf.num_low hz1, List.singleton_append, List.cons.injEq] at hz
              have hyz : y.toNat = z := by rw [hz.1, UInt8.toNat_ofNat']; omega
              omega
            · rw [bf.num_high hz1, List.cons_append, List.cons.injEq] at hz
              have hyz : y.toNat = z % 128 + 128 := by rw [hz.1, UInt8.toNat_ofNat']; omega
              have hm : y.toNat % 128 = z % 128 := by omega
              have hsplit : z * 2 ^ sh = z % 128 * 2 ^ sh + z / 128 * (128 * 2 ^ sh) := by
                rw [← Nat.mul_assoc, ← Nat.add_mul]
                congr 1
                omega
              have hpow : 2 ^ (sh + 7) = 128 * 2 ^ sh := by rw [Nat.pow_add]; omega
              exact ⟨z / 128, hz.2, by rw [HA.out, hm, hpow]; omega, .inr (by omega)⟩
          go_wp2_with fail
          exact ⟨⟨A, sh + 7, i' + 1, by rw [hsx1], by go_num, HNI.out⟩, by simp [intOf]; omega⟩
      · have hil' : (N : Int) ≤ (i' : Int) := by omega
        have hil2 : N ≤ i' := by omega
        have HR : Hid (SnR C w (wr.drew.setCell ⟨p, 2, none⟩ (.bool true)) p b l i bad (.returned (.int .i64 0))) := by
          have hsr : Sr C wr.drew p b l.length i' bad := ⟨HII.out.sr.c0, HII.out.sr.c1, HII.out.sr.c2, HII.out.sr.fz, HII.out.sr.le⟩
          have hgr : w.grownBy wr.drew (some p) := ⟨HII.out.gr.os, HII.out.gr.tape, HII.out.gr.output, HII.out.gr.size, HII.out.gr.block⟩
          refine ⟨0, i', true, rfl, by omega, HII.out.le, hsr.setBad, fun _ => rfl, grown_set hgr _ _, fun x tail hx hxb => ?_⟩
          obtain ⟨z, hz, _, _⟩ := HII.out.pr x tail hx hxb
          rw [List.drop_eq_nil_of_le (by rw [← HNN.out]; exact hil2)] at hz
          exact absurd (List.append_eq_nil_iff.1 hz.symm).1 (num_ne z)
        go_wp2_with fail
        go_region_held3 (fun w' => w'.cell? ⟨p, 0, none⟩ = some (.slice (some ⟨b, 0, none⟩) N C) ∧ w'.cell? ⟨p, 1, none⟩ = some (.int .i64 (i' : Int))) (first | go_keep) (fail)
        go_wp2
        go_ret
        exact HR.out
    · have hs' : ¬ (sh : Int) < 28 := by omega
      have HR : Hid (SnR C w (wr.setCell ⟨p, 2, none⟩ (.bool true)) p b l i bad (.returned (.int .i64 0))) := by
        refine ⟨0, i', true, rfl, by omega, HII.out.le, HII.out.sr.setBad, fun _ => rfl, grown_set HII.out.gr _ _, fun x tail hx hxb => ?_⟩
        obtain ⟨z, hz, hxe, hz1⟩ := HII.out.pr x tail hx hxb
        have h28 : sh = 28 := by omega
        subst h28
        exfalso
        have h5 : (2 : Nat) ^ 28 = 268435456 := rfl
        rw [h5] at hxe
        omega
      go_wp2
      go_ret
      exact HR.out

end Go.Proofs.YtaoimkjcaienbaaGreatDoor.up
