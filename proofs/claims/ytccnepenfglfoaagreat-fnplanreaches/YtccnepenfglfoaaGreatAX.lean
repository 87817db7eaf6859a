import Derived.Test.YtccnepenfglfoaaGreatRA
import Derived.Test.YtccnepenfglfoaaGreatKC
import Derived.Deep.DeepAppendRoom
import Derived.Test.YtccnepenfglfoaaGreatYA
import Derived.Test.YtccnepenfglfoaaGreatAD
import Derived.Deep.QuietTactic
import Derived.BigQuiet
import Derived.Test.YtccnepenfglfoaaGreatIT
import Derived.Maps.Own
import Derived.Maps.OwnOps
import Derived.Maps.OwnSet
import Derived.Maps.Views
import Derived.Sort.KeysCollected
import Derived.Sort.OwnSorted
import Derived.Handy
namespace Go.Proofs.YtccnepenfglfoaaGreat.sr
open Go.ChangeShapes Go.WideShapes Go.ChangeAt Go.RowKit Go.Deep
set_option linter.unusedVariables false
set_option linter.unusedSimpArgs false

/-! ### clonedTexts of any row of texts, the nil one too -/

/-- A row of texts that can be read, nil perhaps where it is empty. -/
def RdS (w : World) (v : Value) (xs : List (List UInt8)) : Prop := ∃ ad cap, v = .slice ad xs.length cap ∧ ∀ i x, xs[i]? = some x → ∃ bb off, ad = some ⟨bb, off, none⟩ ∧ w.cell? ⟨bb, off + i, none⟩ = some (strL x)
theorem RdS.row {w : World} {v : Value} {xs : List (List UInt8)} (h : StrR w v xs) : RdS w v xs := by
  obtain ⟨bb, off, cap, rfl, _, _, hc⟩ := h
  exact ⟨_, cap, rfl, fun i x hx => ⟨bb, off, rfl, hc i x hx⟩⟩
theorem RdS.own {w : World} {B : Nat} {v : Value} {xs : List (List UInt8)} (h : w.ownsRow B 9 1 v xs.length (xs.map strL)) : RdS w v xs := by
  by_cases hv : v = .slice none 0 0
  · subst hv
    obtain ⟨_, h'⟩ := h
    rcases h' with ⟨_, h0⟩ | ⟨g, c, cur, e, _⟩
    · have : xs = [] := by
        have h1 := congrArg List.length (show xs.map strL = [] by simpa using h0)
        simpa using h1
      subst this
      exact ⟨none, 0, rfl, fun i x hx => by simp at hx⟩
    · cases e
  · exact RdS.row (StrR.own' h hv)
theorem bel_grownR {B g : Nat} {w w1 w2 : World} (h : Below B w w1) (hg : w1.grownBy w2 (some g)) (hB : B ≤ w1.heap.size) (hb : B ≤ g) : Below B w w2 := h.grown hg hB (fun k hk => by cases hk; exact hb)

theorem made_rowR (w : World) (cap : Nat) (hc : cap ≤ 2000000) : (w.alloc (.cells (madeCells (Value.string ⟨#[]⟩).cells cap) 9)).ownsRow w.heap.size 9 1 (.slice (some ⟨w.heap.size, 0, none⟩) 0 cap) ([] : List (List UInt8)).length (([] : List (List UInt8)).map strL) :=
  World.ownsRow_made w _ cap (Nat.le_refl _) (by unfold maxLen; omega) (by rw [size_madeCells]; simp)

theorem make_runR (n : Nat) (hn : n ≤ 2000000) (w : World) : (Instr.makeSlice 25 (.int .i64 0) (.int .i64 (n : Int))).run Tryz.prog w = .ok (.slice (some ⟨w.heap.size, 0, none⟩) 0 n) (w.alloc (.cells (madeCells (Value.string ⟨#[]⟩).cells n) 9)) := by
  obtain ⟨i, hi, hz, hs, hb⟩ := info_parts info9
  have hr := run_make (P := Tryz.prog) w 25 9 i _ Tryz.underlying25 hi hz .i64 .i64 0 n (by omega) (by omega) (by rw [hb]; omega) (by omega)
  simp only [Int.toNat_natCast, Int.toNat_zero, hs, Nat.mul_one] at hr
  exact hr

set_option maxRecDepth 100000 in
set_option maxHeartbeats 4000000 in
theorem clonedR_any (xs : List (List UInt8)) (hx : ∀ x ∈ xs, x.length ≤ 1048576) (v : Value) (w : World) (hR : RdS w v xs) (hn : xs.length ≤ 1048576) :
    Calls Tryz.prog 35 #[v] w fun e w' => e = .returned (.slice (some ⟨w.heap.size, 0, none⟩) xs.length xs.length) ∧ OwnS w.heap.size w' (.slice (some ⟨w.heap.size, 0, none⟩) xs.length xs.length) xs ∧ Below w.heap.size w w' := by
  obtain ⟨ad, cap, rfl, hc⟩ := hR
  have HC : Hid (∀ i x, xs[i]? = some x → ∃ bb off, ad = some ⟨bb, off, none⟩ ∧ w.cell? ⟨bb, off + i, none⟩ = some (strL x)) := hc
  have HXS : Hid (∀ x ∈ xs, x.length ≤ 1048576) := hx
  obtain ⟨n, hnn⟩ : ∃ n, xs.length = n := ⟨_, rfl⟩
  have HNN : Hid (xs.length = n) := hnn
  rw [hnn] at hn ⊢
  have hmk := make_runR n (by omega)
  have HO0 : Hid ((w.alloc (.cells (madeCells (Value.string ⟨#[]⟩).cells n) 9)).ownsRow w.heap.size 9 1 (.slice (some ⟨w.heap.size, 0, none⟩) 0 n) 0 ((xs.take 0).map strL)) := made_rowR w n (by omega)
  obtain ⟨i9, hi9, hz0, hz1, hz2⟩ := info_parts info9
  clear hnn hc hx
  go_enter Tryz.func35, Tryz.ntmps35
  go_wp2
  clear hmk
  go_loopw [3, 5, 11] (fun v _ x wr => ∃ i : Nat, i ≤ n ∧ x = .int .i64 (i : Int) ∧ v = .slice (some ⟨w.heap.size, 0, none⟩) i n ∧ wr.ownsRow w.heap.size 9 1 (.slice (some ⟨w.heap.size, 0, none⟩) i n) i ((xs.take i).map strL) ∧ Below w.heap.size w wr) (fun _ _ x _ => n - (intOf x).toNat)
  case atStart => exact ⟨0, Nat.zero_le _, rfl, rfl, HO0.out, (Below.refl _ _).alloc (Nat.le_refl _) _⟩
  case round =>
    obtain ⟨i, hi, rfl, rfl, hown, hbel⟩ := hrel
    have HBE : Hid (Below w.heap.size w wr) := hbel
    have HOW : Hid (wr.ownsRow w.heap.size 9 1 (.slice (some ⟨w.heap.size, 0, none⟩) i n) i ((xs.take i).map strL)) := hown
    by_cases hil : i < n
    · have hil' : (i : Int) < (n : Int) := by omega
      have hi0' : (0 : Int) ≤ (i : Int) := by omega
      obtain ⟨x, hx⟩ : ∃ x, xs[i]? = some x := ⟨_, List.getElem?_eq_getElem (by rw [HNN.out]; exact hil)⟩
      obtain ⟨bb, off, rfl, hcc⟩ := HC.out i x hx
      have c0 := (hbel.cell (p := ⟨bb, _, none⟩) (World.block_lt_of_cell? _ _ hcc)).trans hcc
      clear hcc
      have HNX : Hid ((xs.take (i + 1)).map strL = (xs.take i).map strL ++ [strL x]) := by show _ = _; rw [List.take_add_one, hx]; simp
      have hps := HXS.out x (List.mem_of_getElem? hx)
      have HCL0 : Hid (∀ W : World, Calls Tryz.prog 24 #[.string ⟨x.toArray⟩] W fun e w' => e = .returned (.string ⟨x.toArray⟩) ∧ Below W.heap.size W w') := fun W => cl.clone_any _ W (by show x.toArray.size ≤ _; simp; omega)
      have hst : strL x = .string ⟨x.toArray⟩ := rfl
      rw [hst] at c0 HNX
      obtain ⟨s, hs⟩ : ∃ s : ByteArray, (⟨x.toArray⟩ : ByteArray) = s := ⟨_, rfl⟩
      rw [hs] at c0 HNX HCL0
      clear hs hst hx hps hown hbel
      go_wp2_with (go_at_call 24; refine (HCL0.out _).mono ?_; rintro e w1 ⟨rfl, hb1⟩; refine Hid.out ?_)
      refine Lib.hid ?_
      have hB1 : Below w.heap.size w w1 := HBE.out.trans (hb1.mono HBE.out.size)
      have HO1 : Hid (∀ ob, (w1.alloc ob).ownsRow w.heap.size 9 1 (.slice (some ⟨w.heap.size, 0, none⟩) i n) i ((xs.take i).map strL)) := fun ob => own_below HOW.out (hb1.alloc hb1.size _)
      clear hb1
      go_wp2_with (first
        | (at_builtin; refine wpList_append_own_spare _ rfl _ _ 25 rfl w.heap.size 9 i9 1 Tryz.underlying25 hi9 hz1 w.heap.size i n ((xs.take i).map strL) rfl (HO1.out _) ⟨w1.heap.size, 0, none⟩ 1 1 [.string s] rfl rfl (one_new w1 _ _) (by intro u hu; simp only [List.mem_singleton] at hu; subst hu; rfl) (by omega) ?_; intro w4 hown4 hg4; refine Hid.out ?_)
        | go_in)
      refine Lib.hid ?_
      have HB4 : Hid (Below w.heap.size w w4) := bel_grownR (hB1.alloc hB1.size _) hg4 (Nat.le_trans hB1.size (by rw [World.size_alloc]; omega)) (Nat.le_refl _)
      have HO4 : Hid (w4.ownsRow w.heap.size 9 1 (.slice (some ⟨w.heap.size, 0, none⟩) (i + 1) n) (i + 1) ((xs.take (i + 1)).map strL)) := by show World.ownsRow _ _ _ _ _ _ _; rw [HNX.out]; exact hown4
      clear hown4 hg4
      go_wp2
      go_roundw
      case rel => exact ⟨i + 1, by omega, by go_num, rfl, HO4.out, HB4.out⟩
      case measure => simp [intOf]; omega
    · have hil' : ¬ (i : Int) < (n : Int) := by omega
      obtain rfl : i = n := by omega
      have HE : Hid (OwnS w.heap.size wr (.slice (some ⟨w.heap.size, 0, none⟩) i i) xs) := by
        have h := HOW.out
        rw [List.take_of_length_le (by rw [HNN.out]; exact Nat.le_refl _)] at h
        exact ⟨by rw [HNN.out]; exact h, by intro e; cases e⟩
      clear hown hbel
      go_wp2
      go_ret
      exact ⟨rfl, HE.out, HBE.out⟩

end Go.Proofs.YtccnepenfglfoaaGreat.sr

namespace Go.Proofs.YtccnepenfglfoaaGreat.ac
open Go.ChangeShapes Go.WideShapes Go.ChangeAt Go.RowKit Go.Deep
set_option linter.unusedVariables false
set_option linter.unusedSimpArgs false

/-! ### Acts: the plain model, and the specification -/

/-- One act. -/
def apS (o : List (List UInt8)) (a : ty.Ac) : List (List UInt8) := if a.fKind = 1 then o.filter (fun y => decide (y ≠ a.fName.data.toList)) else sr.fadd o a.fName.data.toList
def apX (l : List ByteArray) : List (List UInt8) := l.map fun x => x.data.toList
def apL (l : List ByteArray) (qs : List ty.Ac) : List (List UInt8) := qs.foldl apS ((apX l).foldl sr.fadd [])
/-- What both answer. -/
def apA (l : List ByteArray) (qs : List ty.Ac) : List (List UInt8) := if l.length ≤ 2000 ∧ qs.length ≤ 2000 then apL l qs else []

theorem apS_asc {o : List (List UInt8)} (h : sr.asc o) (a : ty.Ac) : sr.asc (apS o a) := by
  unfold apS
  split
  · exact List.Pairwise.filter _ h
  · exact sr.fadd_asc _ _ h
theorem apS_mem (o : List (List UInt8)) (a : ty.Ac) (y : List UInt8) : y ∈ apS o a ↔ if a.fKind = 1 then (y ∈ o ∧ y ≠ a.fName.data.toList) else (y ∈ o ∨ y = a.fName.data.toList) := by
  unfold apS
  split
  · rw [List.mem_filter, decide_eq_true_eq]
  · exact sr.fadd_mem _ _ _
theorem apS_len (o : List (List UInt8)) (a : ty.Ac) : (apS o a).length ≤ o.length + 1 := by
  unfold apS
  split
  · have := List.length_filter_le (fun y => decide (y ≠ a.fName.data.toList)) o; omega
  · exact (sr.fadd_len _ _).2
theorem fold_apS_asc : ∀ (qs : List ty.Ac) (o : List (List UInt8)), sr.asc o → sr.asc (qs.foldl apS o)
  | [], o, h => h
  | q :: qs, o, h => fold_apS_asc qs _ (apS_asc h q)
theorem fold_apS_len : ∀ (qs : List ty.Ac) (o : List (List UInt8)), (qs.foldl apS o).length ≤ o.length + qs.length
  | [], o => by simp
  | q :: qs, o => by
    have h1 := fold_apS_len qs (apS o q)
    have h2 := apS_len o q
    rw [List.foldl_cons, List.length_cons]
    omega
theorem apL_asc (l : List ByteArray) (qs : List ty.Ac) : sr.asc (apL l qs) := fold_apS_asc qs _ (sr.fold_asc _ [] List.Pairwise.nil)
theorem fold_take {α β : Type} (f : β → α → β) (o : β) {l : List α} {i : Nat} {x : α} (h : l[i]? = some x) : (l.take (i + 1)).foldl f o = f ((l.take i).foldl f o) x := by
  rw [List.take_add_one, h, List.foldl_append]
  rfl
theorem apX_some {l : List ByteArray} {i : Nat} {x : ByteArray} (h : l[i]? = some x) : (apX l)[i]? = some x.data.toList := by unfold apX; rw [List.getElem?_map, h]; rfl
theorem apX_len (l : List ByteArray) : (apX l).length = l.length := by unfold apX; simp
theorem beq_nel (a b : ByteArray) : (a.toList == b.toList) = decide (a.data.toList = b.data.toList) := by
  rw [ByteArray.toList_eq, ByteArray.toList_eq]
  rw [Bool.eq_iff_iff]
  simp

theorem emp_row (w : World) : sr.StrR (w.alloc (.cells #[] 9)) (.slice (some ⟨w.heap.size, 0, none⟩) 0 0) [] := sr.OwnS.row (base := w.heap.size) ⟨sr.own_zero w, sr.not_nil _ _ _⟩
theorem fold_len : ∀ (l o : List (List UInt8)), (l.foldl sr.fadd o).length ≤ o.length + l.length
  | [], o => by simp
  | y :: l, o => by
    have h1 := fold_len l (sr.fadd o y)
    have h2 := (sr.fadd_len y o).2
    rw [List.foldl_cons, List.length_cons]
    omega
theorem ownS_bel {B : Nat} {w w' : World} {v : Value} {xs : List (List UInt8)} (h : sr.OwnS B w v xs) (hb : Below w.heap.size w w') : sr.OwnS B w' v xs := ⟨own_below h.1 hb, h.2⟩

end Go.Proofs.YtccnepenfglfoaaGreat.ac

namespace Go.Proofs.YtccnepenfglfoaaGreat.ac
open Go.ChangeShapes Go.WideShapes Go.ChangeAt Go.RowKit Go.Deep Go.Shelf Go.Maps Go.Sort
set_option linter.unusedVariables false
set_option linter.unusedSimpArgs false

/-! ### Acts: the program's sets of texts -/

abbrev OwM (w : World) (b n : Nat) (D : DataW Unit) : Prop := w.ownsMap Tryz.prog 9 unitElem b n D
/-- A set of texts. -/
def StM (w : World) (b n : Nat) (L : List (List UInt8)) : Prop := ∃ D : DataW Unit, OwM w b n D ∧ ∀ y, Maps.has D (.string y) = true ↔ y ∈ L
theorem keyS (t : ByteArray) (ht : t.size ≤ 1048576) : keyOf Tryz.prog 9 (.string t) = some (.string t.data.toList) := WideMaps.keyOf_string_mk Tryz.underlying9 (by unfold maxLen; omega)
theorem keyedS : Keyed Tryz.prog 9 := string_keyed Tryz.underlying9
theorem mk_set (m : Nat) (W : World) : (Instr.makeMap 45 (some (.int .i64 (m : Int)))).run Tryz.prog W = .ok (.map (some W.heap.size)) (W.alloc (.map #[] 0)) := by
  simp [Instr.makeMap, go_sem]

theorem StM.below {w w' : World} {b n : Nat} {L : List (List UInt8)} (h : StM w b n L) (k : Below w.heap.size w w') : StM w' b n L := by
  obtain ⟨D, h1, h2⟩ := h
  exact ⟨D, h1.kept (row := none) ⟨k.os, k.tape, k.output, k.size, fun j hj _ => k.block j hj⟩ (by simp), h2⟩

set_option maxRecDepth 100000 in
theorem add_any (t : ByteArray) (ht : t.size ≤ 1048576) (b n : Nat) (hn : n ≤ 1048577) (L L' : List (List UInt8)) (hL : ∀ y, y ∈ L' ↔ y ∈ L ∨ y = t.data.toList) (w : World) (h : StM w b n L) :
    Calls Tryz.prog 34 #[.map (some b), .string t] w fun e w' => (∃ v, e = .returned v) ∧ StM w' b (n + 1) L' ∧ w.grownBy w' (some b) := by
  obtain ⟨D, h, hh⟩ := h
  have hkey := keyS t ht
  have HP : Hid (∀ y, Maps.has (D.put (.string t.data.toList) (.agg [])) (.string y) = true ↔ y ∈ L') := fun y => by
    rw [hL]
    by_cases e : y = t.data.toList
    · subst e
      rw [has_put_same h.isMap (show WideAt.IsKeyLit (.string t.data.toList) from trivial)]
      simp
    · rw [has_put_other (by simpa using e), hh y]
      simp [e]
  clear hh
  go_enter Tryz.func34, Tryz.ntmps34
  go_wp2_with (first
    | (at_mapUpdate; refine wpList_mapUpdate_own _ rfl _ _ _ 45 rfl 9 67 keyedS Tryz.underlying45 _ b n D rfl h (by unfold maxLen; omega) _ _ _ rfl rfl hkey _ [] unitElem_mk ?_; intro wu hownu hgu)
    | go_in)
  go_returns
  exact ⟨⟨_, rfl⟩, ⟨_, hownu, HP.out⟩, hgu⟩

theorem grown_tr {A B C : World} {b : Nat} (h : A.grownBy B (some b)) (k : B.grownBy C (some b)) : A.grownBy C (some b) :=
  ⟨k.os.trans h.os, k.tape.trans h.tape, k.output.trans h.output, Nat.le_trans h.size k.size, fun j hj hne => (k.block j (Nat.lt_of_lt_of_le hj h.size) hne).trans (h.block j hj hne)⟩
theorem grown_bl {A B C : World} {b : Nat} (h : A.grownBy B (some b)) (k : Below B.heap.size B C) : A.grownBy C (some b) :=
  ⟨k.os.trans h.os, k.tape.trans h.tape, k.output.trans h.output, Nat.le_trans h.size k.size, fun j hj hne => (k.block j (Nat.lt_of_lt_of_le hj h.size)).trans (h.block j hj hne)⟩
theorem grown_to {w w' : World} (hg : w.grownBy w' (some w.heap.size)) : Below w.heap.size w w' := ⟨hg.os, hg.tape, hg.output, hg.size, fun k hk => hg.block k hk (fun e => by have := Option.some.inj e; omega)⟩

set_option maxRecDepth 100000 in
set_option maxHeartbeats 4000000 in
theorem setOf_any (a : Option Addr) (cap : Nat) (l : List ByteArray) (w : World) (hb : ty.SrcS none w a l) (hn : l.length ≤ 1048576) (hs : ∀ x ∈ l, x.size ≤ 1048576) :
    Calls Tryz.prog 18 #[.slice a l.length cap] w fun e w' => e = .returned (.map (some w.heap.size)) ∧ StM w' w.heap.size l.length (apX l) ∧ Below w.heap.size w w' := by
  have HS : Hid (∀ x ∈ l, x.size ≤ 1048576) := hs
  have HB : Hid (ty.SrcS none w a l) := hb
  obtain ⟨n, hnn⟩ : ∃ n, l.length = n := ⟨_, rfl⟩
  have HN : Hid (l.length = n) := hnn
  rw [hnn] at hn ⊢
  have hmm : ∀ W : World, (Instr.makeMap 45 (some (.int .i64 (n : Int)))).run Tryz.prog W = .ok (.map (some W.heap.size)) (W.alloc (.map #[] 0)) := fun W => mk_set n W
  clear hs hb hnn
  go_enter Tryz.func18, Tryz.ntmps18
  go_wp2
  clear hmm
  go_loopw [5, 11] (fun _ x wr => ∃ j : Nat, j ≤ n ∧ x = .int .i64 (j : Int) ∧ StM wr w.heap.size j (apX (l.take j)) ∧ w.grownBy wr (some w.heap.size)) (fun _ x _ => n - (intOf x).toNat)
  case atStart => exact ⟨0, Nat.zero_le _, rfl, ⟨.map [], World.ownsMap_made w Tryz.prog 9 _, fun y => by simp [Maps.has, apX]⟩, World.grownBy_alloc w _ _⟩
  case round =>
    obtain ⟨j, hj, rfl, hst, hg⟩ := hrel
    have HST : Hid (StM wr w.heap.size j (apX (l.take j))) := hst
    have HG : Hid (w.grownBy wr (some w.heap.size)) := hg
    clear hst
    by_cases hjl : j < n
    · have hjl' : (j : Int) < (n : Int) := by omega
      obtain ⟨x, hx⟩ : ∃ x, l[j]? = some x := ⟨_, List.getElem?_eq_getElem (by rw [HN.out]; exact hjl)⟩
      rcases HB.out with ⟨_, h⟩ | ⟨b, o, rfl, _, hc⟩
      · rw [h] at hx; simp at hx
      have hc0 := hc j x hx
      have hblt : b < w.heap.size := World.block_lt_of_cell? _ _ hc0
      have c0 : wr.cell? ⟨b, o + j, none⟩ = some (.string x) := hg.cell hc0 (fun e => by have := Option.some.inj e; simp at this; omega)
      have HAD : Hid (Calls Tryz.prog 34 #[.map (some w.heap.size), .string x] wr fun e w' => (∃ v, e = .returned v) ∧ StM w' w.heap.size (j + 1) (apX (l.take (j + 1))) ∧ wr.grownBy w' (some w.heap.size)) :=
        add_any x (HS.out x (List.mem_of_getElem? hx)) w.heap.size j (by omega) _ _ (fun y => by rw [List.take_add_one, hx]; simp [apX]) wr HST.out
      clear hx hc0 hg hc
      go_wp2_with (go_at_call 34; refine HAD.out.mono ?_; rintro e w2 ⟨⟨v, rfl⟩, ho2, hg2⟩)
      go_roundw
      case rel => exact ⟨j + 1, by omega, by go_num, ho2, grown_tr HG.out hg2⟩
      case measure => simp [intOf]; omega
    · have hjl' : ¬ (j : Int) < (n : Int) := by omega
      obtain rfl : j = n := by omega
      have HE : Hid (StM wr w.heap.size j (apX l)) := by
        have h := HST.out
        rwa [List.take_of_length_le (by rw [HN.out]; exact Nat.le_refl _)] at h
      clear hg
      go_wp2
      go_ret
      exact ⟨rfl, HE.out, grown_to HG.out⟩

/-- The keys, sorted, are the ascending list of the same members. -/
theorem keys_sorted {w : World} {b N : Nat} {D : DataW Unit} (hown : OwM w b N D) {ss L : List (List UInt8)} (hp : ss.Perm (strKeys D)) (hL : sr.asc L) (hm : ∀ x, Maps.has D (.string x) = true ↔ x ∈ L) : ss.mergeSort (fun x y => decide (x ≤ y)) = L := by
  have hp2 : L.Perm (strKeys D) := by
    obtain ⟨es, hD, hpw, _⟩ := hown.entries keyedS
    obtain ⟨es', hD', hko⟩ := hown.keysOf
    obtain rfl : es = es' := by rw [hD] at hD'; simpa using hD'
    subst hD
    exact perm_strKeys hpw (fun p hp => by obtain ⟨v, hv⟩ := hko p hp; obtain ⟨x, _, hx, _⟩ := Maps.keyOf_str Tryz.underlying9 hv; exact ⟨x, hx⟩) (sr.asc_nodup hL) (fun x => (hm x).symm)
  have e1 := mergeSort_of_perm (hp.trans hp2.symm)
  have e2 : L.mergeSort leB = L := List.mergeSort_of_pairwise (hL.imp fun hab => by simp only [leB, decide_eq_true_eq]; exact List.le_of_lt hab)
  exact e1.trans e2

theorem enc_str (l : List (List UInt8)) : l.map encStr = l.map sr.strL := by
  apply List.map_congr_left
  intro x _
  rfl

/-- slices.Sorted(maps.Keys(set)): the members, ascending; nil where there are none. -/
theorem sorted_any (b n : Nat) (L : List (List UInt8)) (w : World) (h : StM w b n L) (hL : sr.asc L) (hn : n ≤ 1048577) :
    Calls Tryz.prog 36 #[.func (.func 59) #[] #[.pointer (some ⟨w.heap.size, 0, none⟩)]] (w.alloc (.cells #[.map (some b)] 45)) fun e w' => (∃ v, e = .returned v ∧ w'.ownsRow (w.heap.size + 1) 9 1 v L.length (L.map sr.strL)) ∧ Below (w.heap.size + 1) (w.alloc (.cells #[.map (some b)] 45)) w' := by
  obtain ⟨D, h1, h2⟩ := h
  have hsz := h1.size_le
  refine (callsIn_wide.1 (Tryz.slices_Sorted_keys_36_37 b n D _ w h1 (by unfold maxLen; omega) (by omega))).mono ?_
  rintro e w' ⟨v, ss, rfl, hS, hrow, _, hb⟩
  have e1 := keys_sorted h1 hS hL h2
  have hlen : ss.length = L.length := by rw [← e1, List.length_mergeSort]
  rw [e1, enc_str, hlen, World.size_alloc] at hrow
  rw [World.size_alloc] at hb
  exact ⟨⟨v, rfl, hrow⟩, hb⟩

end Go.Proofs.YtccnepenfglfoaaGreat.ac

namespace Go.Proofs.YtccnepenfglfoaaGreat.ac
open Go.ChangeShapes Go.WideShapes Go.ChangeAt Go.RowKit Go.Deep Go.Shelf Go.Maps Go.Sort
set_option linter.unusedVariables false
set_option linter.unusedSimpArgs false

/-! ### Acts: the program -/

theorem StM.congr {w : World} {b n : Nat} {L L' : List (List UInt8)} (h : StM w b n L) (e : ∀ y, y ∈ L ↔ y ∈ L') : StM w b n L' := by
  obtain ⟨D, h1, h2⟩ := h
  exact ⟨D, h1, fun y => (h2 y).trans (e y)⟩
theorem apS_small {B : Nat} : ∀ {o : List (List UInt8)} {q : ty.Ac}, (∀ x ∈ o, x.length ≤ B) → q.fName.size ≤ B → ∀ x ∈ apS o q, x.length ≤ B := by
  intro o q h1 h2 x hx
  rw [apS_mem] at hx
  have e : q.fName.data.toList.length = q.fName.size := Array.length_toList
  split at hx
  · exact h1 x hx.1
  · rcases hx with hx | rfl
    · exact h1 x hx
    · omega
theorem fold_small {B : Nat} : ∀ (qs : List ty.Ac) (o : List (List UInt8)), (∀ x ∈ o, x.length ≤ B) → (∀ q ∈ qs, q.fName.size ≤ B) → ∀ x ∈ qs.foldl apS o, x.length ≤ B
  | [], o, h1, _ => h1
  | q :: qs, o, h1, h2 => fold_small qs _ (apS_small h1 (h2 q (by simp))) (fun q' hq' => h2 q' (by simp [hq']))

theorem apA_len (l : List ByteArray) (qs : List ty.Ac) : (apA l qs).length ≤ 1000000 := by
  unfold apA
  split
  · next h =>
    have h1 := fold_apS_len qs ((apX l).foldl sr.fadd [])
    have h2 := fold_len (apX l) []
    rw [apX_len] at h2
    simp only [List.length_nil] at h2
    unfold apL
    omega
  · simp

set_option maxHeartbeats 4000000 in
set_option maxRecDepth 100000 in
theorem iapp_any (a0 : Option Addr) (c0 : Nat) (l : List ByteArray) (a1 : Option Addr) (c1 : Nat) (qs : List ty.Ac) (w : World) (h0 : ty.SrcS none w a0 l) (h1 : ty.SrcAc none w a1 qs) (hl : ty.wtS l ≤ 1048576) (hq : ty.wtAc qs ≤ 1048576) :
    Calls Tryz.prog 9 #[.slice a0 l.length c0, .slice a1 qs.length c1] w fun e w' => (∃ v, e = .returned v ∧ sr.OwnS w.heap.size w' v (apA l qs)) ∧ Below w.heap.size w w' := by
  have hll := ty.wtS_len l
  have hql := ty.wtAc_len qs
  have HSL : Hid (∀ x ∈ l, x.size ≤ 1048576) := fun x hx => by have := ty.wtS_mem hx; omega
  have HSQ : Hid (∀ q ∈ qs, q.fName.size ≤ 1048576) := fun q hx => by have := ty.wtAc_mem hx; unfold ty.wt1Ac at this; omega
  by_cases hb : l.length ≤ 2000 ∧ qs.length ≤ 2000
  rotate_left
  · have HA : Hid (apA l qs = []) := by show _ = _; unfold apA; rw [if_neg hb]
    rw [HA.out]
    have HN0 : Hid (sr.OwnS w.heap.size (w.alloc (.cells #[] 9)) (.slice (some ⟨w.heap.size, 0, none⟩) 0 0) []) := ⟨sr.own_zero w, sr.not_nil _ _ _⟩
    clear h0 h1
    by_cases hl2 : l.length ≤ 2000
    · have g1 : ¬ (2000 : Int) < (l.length : Int) := by omega
      have g2 : (2000 : Int) < (qs.length : Int) := by omega
      go_enter Tryz.func9, Tryz.ntmps9
      go_wp2
      go_ret
      exact ⟨⟨_, rfl, HN0.out⟩, (Below.refl _ _).alloc (Nat.le_refl _) _⟩
    · have g1 : (2000 : Int) < (l.length : Int) := by omega
      go_enter Tryz.func9, Tryz.ntmps9
      go_wp2
      go_ret
      exact ⟨⟨_, rfl, HN0.out⟩, (Below.refl _ _).alloc (Nat.le_refl _) _⟩
  have HA : Hid (apA l qs = apL l qs) := by show _ = _; unfold apA; rw [if_pos hb]
  rw [HA.out]
  obtain ⟨hl2, hq2⟩ := hb
  have g1 : ¬ (2000 : Int) < (l.length : Int) := by omega
  have g2 : ¬ (2000 : Int) < (qs.length : Int) := by omega
  have HQ : Hid (ty.SrcAc none w a1 qs) := h1
  have HSO : Hid (∀ W : World, W = w → Calls Tryz.prog 18 #[.slice a0 l.length c0] W fun e w' => e = .returned (.map (some w.heap.size)) ∧ StM w' w.heap.size l.length (apX l) ∧ Below w.heap.size w w') := fun W hW => by subst hW; exact setOf_any a0 c0 l W h0 (by omega) HSL.out
  have HAS : Hid (sr.asc (apL l qs)) := apL_asc l qs
  have HSM : Hid (∀ x ∈ apL l qs, x.length ≤ 1048576) := fold_small qs _ (fun x hx => by
    rw [sr.fold_mem] at hx
    rcases hx with hx | hx
    · cases hx
    · unfold apX at hx
      obtain ⟨y, hy, rfl⟩ := List.mem_map.1 hx
      have := HSL.out y hy
      have e : y.data.toList.length = y.size := Array.length_toList
      omega) HSQ.out
  have HLN : Hid ((apL l qs).length ≤ 4000) := by
    show _ ≤ _
    have h1 := fold_apS_len qs ((apX l).foldl sr.fadd [])
    have h2 := fold_len (apX l) []
    rw [apX_len] at h2
    simp only [List.length_nil] at h2
    unfold apL
    omega
  obtain ⟨O, hO⟩ : ∃ O, (apX l).foldl sr.fadd [] = O := ⟨_, rfl⟩
  have HO : Hid (∀ y, y ∈ apX l ↔ y ∈ O) := fun y => by rw [← hO, sr.fold_mem]; simp
  have HE : Hid (apL l qs = qs.foldl apS O) := by show _ = _; rw [← hO]; rfl
  obtain ⟨n, hn⟩ : ∃ n, l.length = n := ⟨_, rfl⟩
  obtain ⟨m, hm⟩ : ∃ n, qs.length = n := ⟨_, rfl⟩
  have HM : Hid (qs.length = m) := hm
  rw [hn] at g1 hl2 HSO
  rw [hm] at g2 hq2
  rw [hn, hm]
  clear h0 h1 hn hm hO HA hll hql hl hq HSL
  go_enter Tryz.func9, Tryz.ntmps9
  go_wp2_with (go_at_call 18; refine (HSO.out _ rfl).mono ?_; rintro e w1 ⟨rfl, hst, hl1⟩; refine Hid.out ?_)
  refine Lib.hid ?_
  have HST : Hid (StM w1 w.heap.size n O) := hst.congr HO.out
  have HB1 : Hid (Below w.heap.size w w1) := hl1
  clear hst hl1 HSO
  go_wp2
  go_loopw [21] (fun y wr => ∃ k : Nat, k ≤ m ∧ y = .int .i64 (k : Int) ∧ (∃ z, z ≤ n + k ∧ StM wr w.heap.size z ((qs.take k).foldl apS O)) ∧ Below w.heap.size w wr) (fun y _ => m - (intOf y).toNat)
  case atStart => exact ⟨0, Nat.zero_le _, rfl, ⟨n, Nat.le_refl _, HST.out⟩, HB1.out⟩
  case round =>
    obtain ⟨k, hk, rfl, ⟨z, hz, hst⟩, hbel⟩ := hrel
    have HBK : Hid (Below w.heap.size w wr) := hbel
    have HSK : Hid (StM wr w.heap.size z ((qs.take k).foldl apS O)) := hst
    clear hst
    by_cases hkm : k < m
    · have hkm' : (k : Int) < (m : Int) := by omega
      have hk0 : (0 : Int) ≤ (k : Int) := by omega
      obtain ⟨q, hq⟩ : ∃ q, qs[k]? = some q := ⟨_, List.getElem?_eq_getElem (by rw [HM.out]; exact hkm)⟩
      rcases HQ.out with ⟨_, h⟩ | ⟨b, o, rfl, _, hc⟩
      · rw [h] at hq; simp at hq
      obtain ⟨c0', c1'⟩ := (hc k q hq).below hbel
      have HXK : Hid ((qs.take (k + 1)).foldl apS O = apS ((qs.take k).foldl apS O) q) := fold_take _ _ hq
      have hqs := HSQ.out q (List.mem_of_getElem? hq)
      have HAP : Hid (∀ y, y ∈ apS ((qs.take k).foldl apS O) q ↔ if q.fKind = 1 then (y ∈ (qs.take k).foldl apS O ∧ y ≠ q.fName.data.toList) else (y ∈ (qs.take k).foldl apS O ∨ y = q.fName.data.toList)) := fun y => apS_mem _ _ _
      obtain ⟨zs, hzs⟩ : ∃ zs, (qs.take k).foldl apS O = zs := ⟨_, rfl⟩
      rw [hzs] at HSK HXK HAP
      obtain ⟨L', hL'⟩ : ∃ L', apS zs q = L' := ⟨_, rfl⟩
      rw [hL'] at HXK HAP
      obtain ⟨kd, hkd⟩ : ∃ z, q.fKind = z := ⟨_, rfl⟩
      obtain ⟨nm, hnm⟩ : ∃ z, q.fName = z := ⟨_, rfl⟩
      rw [hkd] at c0' HAP
      rw [hnm] at c1' HAP hqs
      have HB4 : Hid (∀ ob, Below wr.heap.size wr (wr.alloc ob)) := fun ob => (Below.refl _ _).alloc (Nat.le_refl _) _
      have HW4 : Hid (∀ ob, Below w.heap.size w (wr.alloc ob)) := fun ob => HBK.out.trans ((HB4.out ob).mono HBK.out.size)
      clear hkd hnm hzs hq hc hbel hL'
      by_cases h1 : kd = 1
      · subst h1
        have HAQ : Hid (∀ y, y ∈ L' ↔ (y ∈ zs ∧ y ≠ nm.data.toList)) := fun y => by have := HAP.out y; rwa [if_pos rfl] at this
        have hkey := keyS nm hqs
        obtain ⟨D, hown, hD⟩ := HSK.out.below (HB4.out (.cells #[.int .i64 1, .string nm] 38))
        have HDD : Hid (∀ y, Maps.has (D.del (.string nm.data.toList)) (.string y) = true ↔ y ∈ L') := fun y => by
          rw [HAQ.out]
          by_cases e : y = nm.data.toList
          · subst e
            rw [has_del_same]
            simp
          · rw [has_del_other (by simpa using e), hD y]
            simp [e]
        clear hD HAP HSK
        go_wp2_with (first
          | (at_delete; refine wpList_delete_own _ rfl _ _ 45 9 rfl 67 keyedS Tryz.underlying45 _ w.heap.size z D rfl hown _ _ rfl hkey ?_; intro w5 hown5 hturn5; refine Hid.out ?_)
          | go_in)
        refine Lib.hid ?_
        have HN5 : Hid (StM w5 w.heap.size z ((qs.take (k + 1)).foldl apS O)) := by
          show StM _ _ _ _
          rw [HXK.out]
          exact ⟨_, hown5, HDD.out⟩
        have HW5 : Hid (Below w.heap.size w w5) := (HW4.out _).grown hturn5.grown (HW4.out _).size (fun k hk => by have := Option.some.inj hk; omega)
        clear hown5 hturn5 hown HDD
        go_wp2
        go_roundw
        case rel => exact ⟨k + 1, by omega, by go_num, ⟨z, by omega, HN5.out⟩, HW5.out⟩
        case measure => simp [intOf]; omega
      · have HAQ : Hid (∀ y, y ∈ L' ↔ (y ∈ zs ∨ y = nm.data.toList)) := fun y => by have := HAP.out y; rwa [if_neg h1] at this
        have HAD : Hid (∀ W, Below wr.heap.size wr W → Calls Tryz.prog 34 #[.map (some w.heap.size), .string nm] W fun e w' => (∃ v, e = .returned v) ∧ StM w' w.heap.size (z + 1) L' ∧ W.grownBy w' (some w.heap.size)) := fun W h => add_any nm hqs w.heap.size z (by omega) zs L' HAQ.out W (HSK.out.below h)
        clear HAP HSK
        go_wp2_with (go_at_call 34; refine (HAD.out _ (HB4.out _)).mono ?_; rintro e w5 ⟨⟨v, rfl⟩, ho5, hg5⟩; refine Hid.out ?_)
        refine Lib.hid ?_
        have HN5 : Hid (StM w5 w.heap.size (z + 1) ((qs.take (k + 1)).foldl apS O)) := by
          show StM _ _ _ _
          rw [HXK.out]
          exact ho5
        have HW5 : Hid (Below w.heap.size w w5) := (HW4.out _).grown hg5 (HW4.out _).size (fun k hk => by have := Option.some.inj hk; omega)
        clear ho5 hg5
        go_wp2
        go_roundw
        case rel => exact ⟨k + 1, by omega, by go_num, ⟨z + 1, by omega, HN5.out⟩, HW5.out⟩
        case measure => simp [intOf]; omega
    · have hkm' : ¬ (k : Int) < (m : Int) := by omega
      have HO7 : Hid (StM wr w.heap.size z (apL l qs)) := by
        have h := HSK.out
        rw [List.take_of_length_le (by rw [HM.out]; omega), ← HE.out] at h
        exact h
      have HKY : Hid (∀ W : World, Calls Tryz.prog 37 #[.map (some w.heap.size)] W fun e w' => e = .returned (.func (.func 59) #[] #[.pointer (some ⟨W.heap.size, 0, none⟩)]) ∧ w' = W.alloc (.cells #[.map (some w.heap.size)] 45)) := fun W => callsIn_wide.1 (Tryz.maps_Keys_37 (some w.heap.size) W)
      have HSD := Lib.hid (sorted_any w.heap.size z (apL l qs) wr HO7.out HAS.out (by omega))
      have HCL : Hid (∀ (W : World) (v : Value), sr.RdS W v (apL l qs) → Calls Tryz.prog 35 #[v] W fun e w' => e = .returned (.slice (some ⟨W.heap.size, 0, none⟩) (apL l qs).length (apL l qs).length) ∧ sr.OwnS W.heap.size w' (.slice (some ⟨W.heap.size, 0, none⟩) (apL l qs).length (apL l qs).length) (apL l qs) ∧ Below W.heap.size W w') := fun W v h => sr.clonedR_any _ HSM.out v W h (by have := HLN.out; omega)
      obtain ⟨L, hL⟩ : ∃ L, apL l qs = L := ⟨_, rfl⟩
      rw [hL] at HSD HCL
      have HLE : Hid (apL l qs = L) := hL
      clear hbel hL HSK HO7 HE HAS HSM HLN
      go_wp2_with (go_at_call 37; refine (HKY.out _).mono ?_; rintro e w5 ⟨rfl, rfl⟩; refine Hid.out ?_)
      refine Lib.hid ?_
      go_wp2_with (go_at_call 36; refine HSD.out.mono ?_; rintro e w6 ⟨⟨v6, rfl, hv6⟩, hl6⟩; refine Hid.out ?_)
      refine Lib.hid ?_
      have HV6 : Hid (sr.RdS w6 v6 L) := sr.RdS.own hv6
      have HW6 : Hid (Below w.heap.size w w6) := (HBK.out.alloc HBK.out.size _).trans (hl6.mono (by have := HBK.out.size; omega))
      clear hv6 hl6 HSD
      go_wp2_with (go_at_call 35; refine (HCL.out _ _ HV6.out).mono ?_; rintro e w7 ⟨rfl, ho7, hl7⟩)
      go_ret
      exact ⟨⟨_, rfl, by rw [HLE.out]; exact ho7.mono HW6.out.size⟩, HW6.out.trans (hl7.mono HW6.out.size)⟩

end Go.Proofs.YtccnepenfglfoaaGreat.ac

