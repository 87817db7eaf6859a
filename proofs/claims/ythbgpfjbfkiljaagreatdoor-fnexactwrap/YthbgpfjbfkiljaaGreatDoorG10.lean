import Derived.Test.YthbgpfjbfkiljaaGreatDoorG09
import Derived.Maps.Own
import Derived.Maps.OwnOps
import Derived.Maps.OwnSet
import Derived.Handy
import Derived.RangeFuncCalls
import Derived.RangeFuncLeaves
import Derived.Shelf.Abstract
import Derived.Shelf.RegionOpen
import Derived.WalkKit
import Derived.OwnWalkIn
import Derived.TacticsInMore
import Derived.LoopNIn
import Derived.LoopIn
import Derived.Deep.RegionHeld3
set_option linter.unusedVariables false
set_option linter.unusedSimpArgs false
set_option maxRecDepth 100000
set_option maxHeartbeats 16000000
namespace Go.Proofs.YthbgpfjbfkiljaaGreatDoor.rf
open Go.RowKit Go.Shelf Go.Proofs.YthbgpfjbfkiljaaGreatDoor.rt Go.Maps
attribute [local go_sem] Oper.semAt_some
def pcs (d : ByteArray) : List ByteArray := (List.range (d.size - 12)).map fun i => d.extract i (i + 13)
def PW (E : Nat → tt.En) : Nat → List ByteArray
 | 0 => []
 | k + 1 => PW E k ++ pcs (E k).data
theorem pcs_len (d : ByteArray) : (pcs d).length = d.size - 12 := by simp [pcs]
theorem pcs_take {d : ByteArray} {m : Nat} (h : m < d.size - 12) : (pcs d).take (m + 1) = (pcs d).take m ++ [d.extract m (m + 13)] := by
 unfold pcs
 rw [List.take_add_one]
 simp [h]
theorem PW_split {E : Nat → tt.En} {i : Nat} : ∀ {N : Nat}, i < N → ∃ R, PW E N = PW E i ++ (pcs (E i).data ++ R)
 | N + 1, h => by
  rcases Nat.lt_or_ge i N with h' | h'
  ·obtain ⟨R, hR⟩ := PW_split (E := E) h'
   exact ⟨R ++ pcs (E N).data, by rw [PW, hR]; simp⟩
  ·obtain rfl : i = N := by omega
   exact ⟨[], by simp [PW]⟩
theorem mem_pcs {d x : ByteArray} : x ∈ pcs d ↔ ∃ i, i + 13 ≤ d.size ∧ x = d.extract i (i + 13) := by
 unfold pcs
 simp only [List.mem_map, List.mem_range]
 constructor
 ·rintro ⟨i, hi, rfl⟩
  exact ⟨i, by omega, rfl⟩
 ·rintro ⟨i, hi, rfl⟩
  exact ⟨i, by omega, rfl⟩
theorem mem_PW {E : Nat → tt.En} {x : ByteArray} : ∀ {N : Nat}, x ∈ PW E N ↔ ∃ k, k < N ∧ x ∈ pcs (E k).data
 | 0 => by simp [PW]
 | N + 1 => by
  rw [PW, List.mem_append, mem_PW]
  constructor
  ·rintro (⟨k, hk, h⟩ | h)
   ·exact ⟨k, by omega, h⟩
   ·exact ⟨N, by omega, h⟩
  ·rintro ⟨k, hk, h⟩
   rcases Nat.lt_or_ge k N with h' | h'
   ·exact .inl ⟨k, h', h⟩
   ·obtain rfl : k = N := by omega
    exact .inr h
theorem inE_PW {E : Nat → tt.En} {N : Nat} {p : List UInt8} (hp : p.length = 13) : InE E N p ↔ ∃ x ∈ PW E N, x.data.toList = p := by
 constructor
 ·rintro ⟨k, hk, i, hi, e⟩
  rw [hp] at hi e
  refine ⟨(E k).data.extract i (i + 13), mem_PW.2 ⟨k, hk, mem_pcs.2 ⟨i, by simpa using hi, rfl⟩⟩, by rw [ext_at]; exact e⟩
 ·rintro ⟨x, hx, e⟩
  obtain ⟨k, hk, h⟩ := mem_PW.1 hx
  obtain ⟨i, hi, rfl⟩ := mem_pcs.1 h
  rw [ext_at] at e
  exact ⟨k, hk, i, by rw [hp]; simpa using hi, by rw [hp]; exact e⟩
def KC (W W' : World) : Prop := W.heap.size ≤ W'.heap.size ∧ ∀ (j : Nat) cs t f, W.heap[j]? = some (.cells cs t f) → W'.heap[j]? = some (.cells cs t f)
theorem KC.cell {W W' : World} {b o : Nat} {v : Value} (h : KC W W') (hc : W.cell? ⟨b, o, none⟩ = some v) : W'.cell? ⟨b, o, none⟩ = some v := by
 obtain ⟨cs, t, f, hb⟩ : ∃ cs t f, W.heap[b]? = some (.cells cs t f) := by
  unfold World.cell? at hc
  simp only at hc
  split at hc
  ·next cs t f e => exact ⟨_, _, _, e⟩
  all_goals simp at hc
 exact (World.cell?_of_block (a := ⟨b, o, none⟩) ((h.2 b cs t f hb).trans hb.symm)).trans hc
theorem KC.trans {A B C : World} (h : KC A B) (k : KC B C) : KC A C := ⟨Nat.le_trans h.1 k.1, fun j cs t f e => k.2 j cs t f (h.2 j cs t f e)⟩
theorem KC.en {W W' : World} {b o n : Nat} {E : Nat → tt.En} (h : KC W W') (hE : tt.EnR W b o n E) : tt.EnR W' b o n E := fun i hi => by
 obtain ⟨h0, h1, h2, h3⟩ := hE i hi
 exact ⟨h.cell h0, h.cell h1, h.cell h2, h.cell h3⟩
theorem words_hands (n tb : Nat) (E : Nat → tt.En) (b o N cap : Nat) (w : World) (hn : 1 ≤ n) (ht : w.cell? ⟨tb, 0, none⟩ = some (.slice (some ⟨b, o, none⟩) N cap)) (hE : tt.EnR w b o N E) (hS : tt.SmE N E) (hN : N ≤ 1048576) :
  Hands n Tryz.prog 193 #[.pointer (some ⟨tb, 0, none⟩)] KC (fun _ => False) (PW E N) w := by
 intro l J Jx W hW hJ hJx hY h0
 have hc0 : W.cell? ⟨tb, 0, none⟩ = some (.slice (some ⟨b, o, none⟩) N cap) := (hW.cell (p := ⟨tb, 0, none⟩) (World.block_lt_of_cell? _ _ ht)).trans ht
 have hE0 := hE.below hW
 have HS : Hid (tt.SmE N E) := hS
 clear hS
 refine callsIn_of_wp Tryz.func193 rfl trivial ?_ rfl
 simp only [Tryz.ntmps193, List.size_toArray, List.length_cons, List.length_nil, Nat.reduceAdd, Nat.reduceSub, Array.replicate_succ, Array.replicate_zero, List.push_toArray, List.append_toArray, List.nil_append, List.cons_append]
 gi_wp2
 gi_loopw [8] (fun y wr => ∃ i : Nat, i ≤ N ∧ y = .int .i64 (i : Int) ∧ tt.EnR wr b o N E ∧ J (PW E i) wr) (fun y _ => N - (intOf y).toNat)
 case atStart => exact ⟨0, Nat.zero_le _, rfl, hE0, h0⟩
 case round =>
  obtain ⟨i, hi, rfl, hEw, hJw⟩ := hrel
  have HEW : Hid (tt.EnR wr b o N E) := hEw
  have HJW : Hid (J (PW E i) wr) := hJw
  clear hJw
  by_cases hil : i < N
  ·have hil' : (i : Int) < (N : Int) := by omega
   have hi0 : (0 : Int) ≤ (i : Int) := by omega
   obtain ⟨e0, e1, e2, e3⟩ := hEw i hil
   have hds := (HS.out i hil).2
   obtain ⟨R, hR⟩ := PW_split (E := E) hil
   have HPW := Lib.hid hR
   have HPX : Hid (PW E (i + 1) = PW E i ++ pcs (E i).data) := rfl
   obtain ⟨d, hd⟩ : ∃ d, (E i).data = d := ⟨_, rfl⟩
   obtain ⟨d0, hd0⟩ : ∃ d, (E i).path = d := ⟨_, rfl⟩
   obtain ⟨d1, hd1⟩ : ∃ d, (E i).kind = d := ⟨_, rfl⟩
   obtain ⟨d3, hd3⟩ : ∃ d, (E i).exec = d := ⟨_, rfl⟩
   rw [hd] at e2 hds HPW HPX
   rw [hd0] at e0
   rw [hd1] at e1
   rw [hd3] at e3
   clear hR hd hd0 hd1 hd3 hEw
   obtain ⟨wo, rfl⟩ : ∃ wo, wo = wr := ⟨_, rfl⟩
   gi_wp2
   gi_loopw [5] (fun y wr => ∃ m : Nat, m ≤ d.size - 12 ∧ y = .int .i64 ((m + 13 : Nat) : Int) ∧ tt.EnR wr b o N E ∧ wr.cell? ⟨wo.heap.size, 2, none⟩ = some (.string d) ∧ J (PW E i ++ (pcs d).take m) wr) (fun y _ => d.size + 14 - (intOf y).toNat)
   case atStart =>
    refine ⟨0, Nat.zero_le _, rfl, HEW.out.below ((Below.refl _ _).alloc (Nat.le_refl _) _), by simp [go_sem], ?_⟩
    rw [List.take_zero, List.append_nil]
    exact hJ _ _ _ none HJW.out (World.grownBy_alloc _ _ _) (fun r e => by cases e)
   case round =>
    obtain ⟨m, hm, rfl, hEr, hbx, hJr⟩ := hrel
    have HER : Hid (tt.EnR wr b o N E) := hEr
    clear hEr
    by_cases hml : m < d.size - 12
    ·have hml' : (m : Int) + 13 ≤ (d.size : Int) := by omega
     have hm0 : (0 : Int) ≤ (m : Int) := by omega
     have hm1 : (m : Int) ≤ (m : Int) + 13 := by omega
     have hw1 : IntKind.i64.wrap (m : Int) = (m : Int) := by rw [IntKind.wrap_i64]; omega
     have HTK := Lib.hid (pcs_take hml)
     obtain ⟨fn, tmps, assign, body, hy, hR⟩ := hY (PW E i ++ (pcs d).take m) (d.extract m (m + 13)) wr hJr ⟨(pcs d).drop (m + 1) ++ R, by rw [HPW.out, List.append_assoc (PW E i), ← HTK.out, List.append_assoc, ← List.append_assoc ((pcs d).take (m + 1)), List.take_append_drop]⟩
     gi_wp2
     refine hR.mono ?_
     rintro e W3 (⟨rfl, hJ3, hk3⟩ | ⟨rfl, hJx3⟩)
     ·have hE3 := hk3.en HER.out
      have hb3 := hk3.cell hbx
      gi_wp2
      go_roundw
      case rel => exact ⟨m + 1, by omega, by go_num, hE3, hb3, by rw [HTK.out, ← List.append_assoc]; exact hJ3⟩
      case measure => simp [intOf]; omega
     ·gi_wp2
      refine bodyPost_ret (results_none rfl _ _ _) rfl ?_
      exact ⟨⟨_, rfl⟩, .inr ⟨_, ⟨(pcs d).drop (m + 1) ++ R, by rw [HPW.out, List.append_assoc (PW E i), ← HTK.out, List.append_assoc, ← List.append_assoc ((pcs d).take (m + 1)), List.take_append_drop]⟩, hJx3⟩⟩
    ·have hml' : ¬ (m : Int) + 13 ≤ (d.size : Int) := by omega
     have HJN : Hid (J (PW E (i + 1)) wr) := by
      have h := hJr
      rw [List.take_of_length_le (by rw [pcs_len]; omega), ← HPX.out] at h
      exact h
     clear hJr
     gi_wp2
     go_roundw
     case rel => exact ⟨i + 1, by omega, by go_num, HER.out, HJN.out⟩
     case measure => simp [intOf]; omega
  ·have hil' : ¬ (i : Int) < (N : Int) := by omega
   obtain rfl : i = N := by omega
   gi_wp2
   go_end0
   exact ⟨⟨_, rfl⟩, .inl HJW.out⟩
end Go.Proofs.YthbgpfjbfkiljaaGreatDoor.rf

set_option linter.unusedVariables false
set_option linter.unusedSimpArgs false
set_option maxRecDepth 100000
set_option maxHeartbeats 16000000
namespace Go.Proofs.YthbgpfjbfkiljaaGreatDoor.rf
open Go.ChangeShapes Go.WideShapes Go.ChangeAt Go.RowKit Go.Deep Go.Shelf Go.Sort Go.Maps
theorem keyS (t : ByteArray) (ht : t.size ≤ 1048576) : keyOf Tryz.prog 9 (.string t) = some (.string t.data.toList) := WideMaps.keyOf_string_mk Tryz.underlying9 (by unfold maxLen; omega)
theorem keyedS : Keyed Tryz.prog 9 := string_keyed Tryz.underlying9
abbrev OwM (w : World) (b n : Nat) (D : DataW Unit) : Prop := w.ownsMap Tryz.prog 9 unitElem b n D
theorem add_any (t : ByteArray) (ht : t.size ≤ 1048576) (b n : Nat) (hn : n ≤ 100000000) (D : DataW Unit) (w : World) (h : OwM w b n D) :
  Calls Tryz.prog 124 #[.map (some b), .string t] w fun e w' => (∃ v, e = .returned v) ∧ OwM w' b (n + 1) (D.put (.string t.data.toList) (.agg [])) ∧ w.grownBy w' (some b) := by
 have hkey := keyS t ht
 go_enter Tryz.func124, Tryz.ntmps124
 go_wp2_with (first
  | (at_mapUpdate; refine wpList_mapUpdate_own _ rfl _ _ _ 171 rfl 9 197 keyedS Tryz.underlying171 _ b n D rfl h (by unfold maxLen; omega) _ _ _ rfl rfl hkey _ [] unitElem_mk ?_; intro wu hownu hgu)
  | go_in)
 go_returns
 exact ⟨⟨_, rfl⟩, hownu, hgu⟩
theorem has_any (t : ByteArray) (ht : t.size ≤ 1048576) (b n : Nat) (D : DataW Unit) (w : World) (h : OwM w b n D) :
  Calls Tryz.prog 122 #[.map (some b), .string t] w fun e w' => e = .returned (.bool (Maps.has D (.string t.data.toList))) ∧ Below w.heap.size w w' := by
 have hkey := keyS t ht
 go_enter Tryz.func122, Tryz.ntmps122
 go_wp2_with (first
  | (at_lookup; refine wpList_lookup_own_unit _ rfl _ _ 171 rfl 9 197 keyedS Tryz.underlying171 (Tryz.zeroValue197 _) b n D rfl h _ _ rfl hkey ?_)
  | go_in)
 go_ret
 exact ⟨rfl, (Below.refl _ _).alloc (Nat.le_refl _) _⟩
theorem clear_own {w : World} {b n : Nat} {D : DataW Unit} (h : OwM w b n D) : ∃ w1, (∀ ty : TypeId, (Builtin.clear_ #[171] ty #[.map (some b)]).run Tryz.prog w = .ok (.tuple #[]) w1) ∧ OwM w1 b 0 (.map []) ∧ w.grownBy w1 (some b) := by
 obtain ⟨es, clock, hb, F, hs, hD⟩ := h
 have hlt := (Array.getElem?_eq_some_iff.1 hb).1
 refine ⟨ChangeMaps.setBlock w b (.map #[] clock), fun ty => ?_, ⟨#[], clock, ?_, ⟨by simp, MapKept.stamped_empty clock, by simp⟩, Nat.le_refl _, rfl⟩, ⟨rfl, rfl, rfl, by simp [ChangeMaps.setBlock], fun k hk hne => ?_⟩⟩
 ·have hset : (setObj b (.map #[] clock)).run Tryz.prog w = .ok () (ChangeMaps.setBlock w b (.map #[] clock)) := by
   simp [setObj, Sem.run, ChangeMaps.setBlock, hb]
  simp [Builtin.clear_, go_sem, MapKept.run_getObj_map hb, hset, Result.andThen, Tryz.underlying171]
 ·simp [ChangeMaps.setBlock, hlt]
 ·have : k ≠ b := fun e => hne (by rw [e])
  simp only [ChangeMaps.setBlock]
  rw [Array.getElem?_setIfInBounds_ne (fun e => this e.symm)]
def WM (w : World) (b : Nat) (l : List (List UInt8)) : Prop := ∃ n D, OwM w b n D ∧ ∀ y, Maps.has D (.string y) = true ↔ ∃ a ∈ l, a.take 13 = y
theorem has_put {D : DataW Unit} (hm : IsMap D) (t y : List UInt8) : Maps.has (D.put (.string t) (.agg [])) (.string y) = true ↔ (Maps.has D (.string y) = true ∨ y = t) := by
 by_cases e : y = t
 ·subst e
  rw [has_put_same hm (show WideAt.IsKeyLit (.string y) from trivial)]
  simp
 ·rw [has_put_other (by simpa using e)]
  simp [e]
theorem mk_map (W : World) : (Instr.makeMap 171 none).run Tryz.prog W = .ok (.map (some W.heap.size)) (W.alloc (.map #[] 0)) := by
 simp [Instr.makeMap, go_sem]
def LkR (w w' : World) (e : Ending) (l : List (List UInt8)) : Prop := ∃ g c b1 b2, e = .returned (.agg #[.slice (some ⟨g, 0, none⟩) l.length c, .map (some b1), .map (some b2)]) ∧ w.heap.size ≤ g ∧ w.heap.size ≤ b1 ∧ w.heap.size ≤ b2 ∧ b1 ≠ b2 ∧ c ≤ maxLen ∧ sr.Blk w' g c l ∧ WM w' b1 l ∧ OwM w' b2 0 (.map [])
theorem ret3 {fn : Func} {i : Tmp} (hf : fn.results = #[.cell i 173]) {tmps : Array Value} {W : World} {b : Nat} {v0 v1 v2 : Value} {R : Ending → World → Prop} (h4 : tmps.getD i undef = .pointer (some ⟨b, 0, none⟩))
  (k0 : W.cell? ⟨b, 0, none⟩ = some v0) (k1 : W.cell? ⟨b, 1, none⟩ = some v1) (k2 : W.cell? ⟨b, 2, none⟩ = some v2) (hR : R (.returned (.agg #[v0, v1, v2])) W) :
  bodyPost Tryz.prog fn R Exit.ret { tmps := tmps, defers := [] } W := by
 have h4' : tmps[i]?.getD undef = .pointer (some ⟨b, 0, none⟩) := by simpa using h4
 exact bodyPost_ret (v := .agg #[v0, v1, v2]) (by simp [results, hf, go_sem, h4', k0, k1, k2]) rfl hR
theorem blk_oth {w : World} {b c i : Nat} {v : Value} (h : c ≠ b) : (w.setCell ⟨b, i, none⟩ v).heap[c]? = w.heap[c]? := by
 simp only [World.setCell]
 rw [Array.getElem?_modify, if_neg (fun e => h e.symm)]
theorem set_oth {w : World} {b i j : Nat} {v : Value} (h : i ≠ j) : (w.setCell ⟨b, i, none⟩ v).cell? ⟨b, j, none⟩ = w.cell? ⟨b, j, none⟩ := World.cell?_setCell_other w ⟨b, i, none⟩ ⟨b, j, none⟩ v (by simp [h])
theorem lookoutFor_any (xs : List (List UInt8)) (hx : ∀ x ∈ xs, x.length ≤ 1048576) (v : Value) (w : World) (hR : sr.StrR w v xs) (hn : xs.length ≤ 4000) (hT : wd.TabB w) :
  Calls Tryz.prog 120 #[v] w fun e w' => LkR w w' e (sr.adr xs) ∧ Below w.heap.size w w' := by
 have HAM := Lib.hid fun (W : World) (h : Below w.heap.size w W) => sr.among_any xs hx v W (hR.below h) hn (hT.below h)
 have HAL : Hid (∀ a ∈ sr.adr xs, 15 ≤ a.length ∧ a.length ≤ 1048576) := fun a ha => by
  unfold sr.adr at ha
  rw [sr.fold_mem, List.mem_filter] at ha
  rcases ha with h | ⟨h1, h2⟩
  ·cases h
  ·exact ⟨adr_long h2, hx a h1⟩
 have hal := sr.adr_len xs
 obtain ⟨l, hl⟩ : ∃ l, sr.adr xs = l := ⟨_, rfl⟩
 rw [hl] at HAM HAL hal ⊢
 obtain ⟨N, hNN⟩ : ∃ t, l.length = t := ⟨_, rfl⟩
 have HXN : Hid (l.length = N) := hNN
 have hN4 : N ≤ 4000 := by omega
 clear hl hR hT hx hn hal
 have hmm : ∀ W : World, (Instr.makeMap 171 none).run Tryz.prog W = .ok (.map (some W.heap.size)) (W.alloc (.map #[] 0)) := mk_map
 go_enter Tryz.func120, Tryz.ntmps120
 rw [hNN] at HAM
 clear hNN
 go_wp2_with (go_at_call 149; refine (HAM.out _ ((Below.refl _ _).alloc (Nat.le_refl _) _)).mono ?_; rintro e w1 ⟨⟨g, c, rfl, hg, hcm, hbk⟩, hl1⟩; refine Hid.out ?_)
 refine Lib.hid ?_
 rw [World.size_alloc] at hg
 have hs1 : w.heap.size + 1 ≤ w1.heap.size := by have := hl1.size; rwa [World.size_alloc] at this
 have HB1 : Hid (Below w.heap.size w w1) := ((Below.refl _ _).alloc (Nat.le_refl _) _).trans (hl1.mono (by rw [World.size_alloc]; omega))
 obtain ⟨kk1, kk2⟩ := bcell hl1
 have HZ : Hid (w1.cell? ⟨w.heap.size, 0, none⟩ = some (.slice none 0 0) ∧ w1.cell? ⟨w.heap.size, 1, none⟩ = some (.map none) ∧ w1.cell? ⟨w.heap.size, 2, none⟩ = some (.map none)) := ⟨(kk1 _ _ (by simp)).trans (by simp [go_sem]), (kk1 _ _ (by simp)).trans (by simp [go_sem]), (kk1 _ _ (by simp)).trans (by simp [go_sem])⟩
 have HZF : Hid (∀ o, w1.frozen? ⟨w.heap.size, o, none⟩ = false) := fun o => (kk2 _ _ (by simp)).trans (by simp [go_sem])
 have HBK : Hid (sr.Blk w1 g c l) := hbk
 have hglt : g < w1.heap.size := hbk.lt
 clear hbk hl1 kk1 kk2
 obtain ⟨W3, hW3⟩ : ∃ W3, W3 = ((w1.alloc (.map #[] 0)).alloc (.map #[] 0)).alloc (.cells #[.slice (some ⟨g, 0, none⟩) N c, .map (some w1.heap.size), .map (some (w1.heap.size + 1))] 173) := ⟨_, rfl⟩
 have HB3 : Hid (Below w1.heap.size w1 W3) := by show Below _ _ _; rw [hW3]; exact (((Below.refl _ _).alloc (Nat.le_refl _) _).alloc (by simp) _).alloc (by simp; omega) _
 have HS3 : Hid (W3.heap.size = w1.heap.size + 3) := by show _ = _; rw [hW3]; simp
 have HBX : Hid (∀ W, W3.grownBy W (some w1.heap.size) → W.cell? ⟨w1.heap.size + 1 + 1, 0, none⟩ = some (.slice (some ⟨g, 0, none⟩) N c) ∧ W.cell? ⟨w1.heap.size + 1 + 1, 1, none⟩ = some (.map (some w1.heap.size)) ∧ W.cell? ⟨w1.heap.size + 1 + 1, 2, none⟩ = some (.map (some (w1.heap.size + 1)))) := fun W h => by
  have hk : ∀ o v, W3.cell? ⟨w1.heap.size + 1 + 1, o, none⟩ = some v → W.cell? ⟨w1.heap.size + 1 + 1, o, none⟩ = some v := fun o v hc => h.cell hc (fun e => by have := Option.some.inj e; simp at this; omega)
  exact ⟨hk _ _ (by rw [hW3]; simp [go_sem]), hk _ _ (by rw [hW3]; simp [go_sem]), hk _ _ (by rw [hW3]; simp [go_sem])⟩
 have HM1 : Hid (OwM W3 w1.heap.size 0 (.map [])) := by
  show OwM _ _ _ _
  rw [hW3]
  exact ((World.ownsMap_made w1 Tryz.prog 9 _).alloc _).alloc _
 have HM2 : Hid (OwM W3 (w1.heap.size + 1) 0 (.map [])) := by
  show OwM _ _ _ _
  rw [hW3]
  have := (World.ownsMap_made (w1.alloc (.map #[] 0)) Tryz.prog 9 (unitElem (H := Unit))).alloc (.cells #[.slice (some ⟨g, 0, none⟩) N c, .map (some w1.heap.size), .map (some (w1.heap.size + 1))] 173)
  rwa [World.size_alloc] at this
 have HW3 := Lib.hid hW3
 clear hW3
 go_wp2
 clear hmm
 go_loopw [5, 14] (fun _ x wr => ∃ i : Nat, i ≤ N ∧ x = .int .i64 (i : Int) ∧ (∃ D, OwM wr w1.heap.size i D ∧ ∀ y, Maps.has D (.string y) = true ↔ ∃ a ∈ l.take i, a.take 13 = y) ∧ W3.grownBy wr (some w1.heap.size)) (fun _ x _ => N - (intOf x).toNat)
 case atStart => exact ⟨0, Nat.zero_le _, rfl, ⟨_, by rw [← HW3.out]; exact HM1.out, fun y => by simp [Maps.has]⟩, by rw [← HW3.out]; exact ⟨rfl, rfl, rfl, Nat.le_refl _, fun _ _ _ => rfl⟩⟩
 case round =>
  obtain ⟨i, hi, rfl, ⟨D, d1, d2⟩, hgr⟩ := hrel
  have HD1 : Hid (OwM wr w1.heap.size i D) := d1
  have HD2 := Lib.hid d2
  have HG := Lib.hid hgr
  clear d1 d2
  by_cases hil : i < N
  ·have hil' : (i : Int) < (N : Int) := by omega
   have hi0 : (0 : Int) ≤ (i : Int) := by omega
   obtain ⟨x, hx⟩ : ∃ x, l[i]? = some x := ⟨_, List.getElem?_eq_getElem (by rw [HXN.out]; exact hil)⟩
   obtain ⟨hx15, hxl⟩ := HAL.out x (List.mem_of_getElem? hx)
   have c0 : wr.cell? ⟨g, i, none⟩ = some (.string ⟨x.toArray⟩) := by
    have hb3 := HBK.out.kept (HB3.out.block g hglt)
    have hb4 := hb3.kept (w' := wr) (HG.out.block g (by have := HS3.out; omega) (fun e => by have := Option.some.inj e; omega))
    obtain ⟨bb, off, cap, e, _, _, hcc⟩ := hb4.row' hcm
    cases e
    have := hcc i x hx
    rwa [Nat.zero_add] at this
   obtain ⟨q0, q1, q2⟩ := HBX.out _ hgr
   have hsz : (⟨x.toArray⟩ : ByteArray).size = x.length := by show x.toArray.size = _; simp
   have hext : ((⟨x.toArray⟩ : ByteArray).extract 0 13).data.toList = x.take 13 := by rw [tt.bytes_ext]; simp
   have HAD : Hid (∀ W, OwM W w1.heap.size i D → Calls Tryz.prog 124 #[.map (some w1.heap.size), .string ((⟨x.toArray⟩ : ByteArray).extract 0 13)] W fun e w' => (∃ v, e = .returned v) ∧ OwM w' w1.heap.size (i + 1) (D.put (.string (x.take 13)) (.agg [])) ∧ W.grownBy w' (some w1.heap.size)) := fun W h => by
    have := add_any ((⟨x.toArray⟩ : ByteArray).extract 0 13) (by simp; omega) w1.heap.size i (by omega) D W h
    rwa [hext] at this
   have HST : Hid (∀ y, Maps.has (D.put (.string (x.take 13)) (.agg [])) (.string y) = true ↔ ∃ a ∈ l.take (i + 1), a.take 13 = y) := fun y => by
    have htk : l.take (i + 1) = l.take i ++ [x] := by rw [List.take_add_one, hx]; rfl
    rw [has_put HD1.out.isMap, HD2.out y, htk]
    constructor
    ·rintro (⟨a, ha, e⟩ | e)
     ·exact ⟨a, List.mem_append.2 (.inl ha), e⟩
     ·exact ⟨x, by simp, e.symm⟩
    ·rintro ⟨a, ha, e⟩
     rcases List.mem_append.1 ha with h | h
     ·exact .inl ⟨a, h, e⟩
     ·have : a = x := by simpa using h
      subst this
      exact .inr e.symm
   have HQ1 : Hid (∀ W, W3.grownBy W (some w1.heap.size) → W.cell? ⟨w1.heap.size + 1 + 1, 1, none⟩ = some (.map (some w1.heap.size))) := fun W h => (HBX.out W h).2.1
   obtain ⟨s, hs⟩ : ∃ s : ByteArray, (⟨x.toArray⟩ : ByteArray) = s := ⟨_, rfl⟩
   rw [hs] at c0 HAD hsz
   have h13 : (13 : Int) ≤ (s.size : Int) := by omega
   clear hs hsz hext hx hx15 hxl hgr
   go_wp2_with fail
   go_region_held3 (fun W => W.cell? ⟨w1.heap.size + 1 + 1, 1, none⟩ = some (.map (some w1.heap.size)))
    (first | exact q1 | exact HQ1.out _ hg2 | go_keep)
    (((go_at_call 124; refine (HAD.out _ HD1.out.drew).mono ?_; rintro e w2 ⟨⟨vv, rfl⟩, ho2, hg2'⟩; have hg2 : W3.grownBy w2 (some w1.heap.size) := ⟨hg2'.os.trans HG.out.os, hg2'.tape.trans HG.out.tape, hg2'.output.trans HG.out.output, Nat.le_trans HG.out.size hg2'.size, fun k hk hne => (hg2'.block k (Nat.lt_of_lt_of_le hk HG.out.size) hne).trans (HG.out.block k hk hne)⟩)))
   go_wp2_with fail
   go_roundw
   case rel => exact ⟨i + 1, by omega, by go_num, ⟨_, ho2, HST.out⟩, hg2⟩
   case measure => simp [intOf]; omega
  ·have hil' : ¬ (i : Int) < (N : Int) := by omega
   obtain rfl : i = N := by omega
   obtain ⟨q0, q1, q2⟩ := HBX.out _ hgr
   have hs3 := HS3.out
   have hkz : ∀ o, wr.cell? ⟨w.heap.size, o, none⟩ = w1.cell? ⟨w.heap.size, o, none⟩ := fun o => World.cell?_of_block (a := ⟨w.heap.size, o, none⟩) ((hgr.block w.heap.size (by omega) (fun e => by have := Option.some.inj e; omega)).trans (HB3.out.block w.heap.size (by omega)))
   have hfz : ∀ o, wr.frozen? ⟨w.heap.size, o, none⟩ = false := fun o => (World.frozen?_of_block (a := ⟨w.heap.size, o, none⟩) ((hgr.block w.heap.size (by omega) (fun e => by have := Option.some.inj e; omega)).trans (HB3.out.block w.heap.size (by omega)))).trans (HZF.out o)
   have z0 := (hkz 0).trans HZ.out.1
   have z1 := (hkz 1).trans HZ.out.2.1
   have z2 := (hkz 2).trans HZ.out.2.2
   clear hgr hkz
   go_wp2
   have k0 : (((wr.setCell ⟨w.heap.size, 0, none⟩ (.slice (some ⟨g, 0, none⟩) i c)).setCell ⟨w.heap.size, 1, none⟩ (.map (some w1.heap.size))).setCell ⟨w.heap.size, 2, none⟩ (.map (some (w1.heap.size + 1)))).cell? ⟨w.heap.size, 0, none⟩ = some (.slice (some ⟨g, 0, none⟩) i c) := (set_oth (by omega)).trans ((set_oth (by omega)).trans (World.cell?_setCell_same _ _ _ z0))
   have k1 : (((wr.setCell ⟨w.heap.size, 0, none⟩ (.slice (some ⟨g, 0, none⟩) i c)).setCell ⟨w.heap.size, 1, none⟩ (.map (some w1.heap.size))).setCell ⟨w.heap.size, 2, none⟩ (.map (some (w1.heap.size + 1)))).cell? ⟨w.heap.size, 1, none⟩ = some (.map (some w1.heap.size)) := (set_oth (by omega)).trans (World.cell?_setCell_same _ _ _ ((set_oth (by omega)).trans z1))
   have k2 : (((wr.setCell ⟨w.heap.size, 0, none⟩ (.slice (some ⟨g, 0, none⟩) i c)).setCell ⟨w.heap.size, 1, none⟩ (.map (some w1.heap.size))).setCell ⟨w.heap.size, 2, none⟩ (.map (some (w1.heap.size + 1)))).cell? ⟨w.heap.size, 2, none⟩ = some (.map (some (w1.heap.size + 1))) := World.cell?_setCell_same _ _ _ ((set_oth (by omega)).trans ((set_oth (by omega)).trans z2))
   have hbk : ∀ j, j ≠ w.heap.size → (((wr.setCell ⟨w.heap.size, 0, none⟩ (.slice (some ⟨g, 0, none⟩) i c)).setCell ⟨w.heap.size, 1, none⟩ (.map (some w1.heap.size))).setCell ⟨w.heap.size, 2, none⟩ (.map (some (w1.heap.size + 1)))).heap[j]? = wr.heap[j]? := fun j h => by rw [blk_oth h, blk_oth h, blk_oth h]
   have mk : ∀ {b n : Nat} {D : DataW Unit}, b ≠ w.heap.size → OwM wr b n D → OwM (((wr.setCell ⟨w.heap.size, 0, none⟩ (.slice (some ⟨g, 0, none⟩) i c)).setCell ⟨w.heap.size, 1, none⟩ (.map (some w1.heap.size))).setCell ⟨w.heap.size, 2, none⟩ (.map (some (w1.heap.size + 1)))) b n D := fun {b n D} hne h => ((h.setCell hne _).setCell hne _).setCell hne _
   have hgk : ∀ k, k < W3.heap.size → k ≠ w1.heap.size → wr.heap[k]? = W3.heap[k]? := fun k h1 h2 => HG.out.block k h1 (fun e => h2 (Option.some.inj e))
   refine ret3 Tryz.results120 rfl k0 k1 k2 ⟨⟨g, c, w1.heap.size, w1.heap.size + 1, by rw [HXN.out], by omega, by omega, by omega, by omega, hcm, ?_, ⟨i, D, mk (by omega) HD1.out, fun y => ?_⟩, mk (by omega) (HM2.out.kept HG.out (by simp))⟩, ?_⟩
   ·exact (HBK.out.kept (HB3.out.block g hglt)).kept ((hbk g (by omega)).trans (hgk g (by omega) (by omega)))
   ·have := HD2.out y
    rwa [List.take_of_length_le (by rw [HXN.out]; exact Nat.le_refl _)] at this
   ·have hb : Below w.heap.size w wr := ⟨HG.out.os.trans (HB3.out.os.trans HB1.out.os), HG.out.tape.trans (HB3.out.tape.trans HB1.out.tape), HG.out.output.trans (HB3.out.output.trans HB1.out.output), by have := HG.out.size; omega, fun k hk => (hgk k (by omega) (by omega)).trans ((HB3.out.block k (by omega)).trans (HB1.out.block k hk))⟩
    exact ((hb.setCell (Nat.le_refl _) _).setCell (Nat.le_refl _) _).setCell (Nat.le_refl _) _
end Go.Proofs.YthbgpfjbfkiljaaGreatDoor.rf

set_option linter.unusedVariables false
set_option linter.unusedSimpArgs false
set_option maxRecDepth 100000
set_option maxHeartbeats 16000000
namespace Go.Proofs.YthbgpfjbfkiljaaGreatDoor.rf
open Go.RowKit Go.Shelf Go.Proofs.YthbgpfjbfkiljaaGreatDoor.rt Go.Maps
attribute [local go_sem] Oper.semAt_some
theorem wordsIn_any (b o N cap : Nat) (w : World) :
  Calls Tryz.prog 177 #[.slice (some ⟨b, o, none⟩) N cap] w fun e w' => e = .returned (.func (.func 193) #[] #[.pointer (some ⟨w.heap.size, 0, none⟩)]) ∧ w' = w.alloc (.cells #[.slice (some ⟨b, o, none⟩) N cap] 31) := by
 go_enter Tryz.func177, Tryz.ntmps177
 go_wp2
 go_ret
 exact ⟨rfl, rfl⟩
def RI (W0 : World) (b2 : Nat) (l : List (List UInt8)) (pre : List ByteArray) (W : World) : Prop :=
 (∃ m D, OwM W b2 m D ∧ m ≤ pre.length ∧ ∀ y, Maps.has D (.string y) = true ↔ ((∃ a ∈ l, a.take 13 = y) ∧ ∃ x ∈ pre, x.data.toList = y)) ∧ W0.grownBy W (some b2)
theorem grown_tr {A B C : World} {r : Option Nat} {b : Nat} (h : A.grownBy B (some b)) (k : B.grownBy C r) (hr : ∀ j, r = some j → A.heap.size ≤ j ∨ j = b) : A.grownBy C (some b) :=
 ⟨k.os.trans h.os, k.tape.trans h.tape, k.output.trans h.output, Nat.le_trans h.size k.size, fun j hj hne => (k.block j (Nat.lt_of_lt_of_le hj h.size) (fun e => by
  rcases hr j e.symm with h1 | h1
  ·omega
  ·exact hne (by rw [h1]))).trans (h.block j hj hne)⟩
theorem RI.grow {W0 : World} {b2 : Nat} {l : List (List UInt8)} {pre : List ByteArray} {W W' : World} {row : Option Nat} (h : RI W0 b2 l pre W) (hb2 : b2 < W0.heap.size) (hg : W.grownBy W' row) (hr : ∀ j, row = some j → W0.heap.size ≤ j) : RI W0 b2 l pre W' := by
 obtain ⟨⟨m, D, h1, h2, h3⟩, h4⟩ := h
 exact ⟨⟨m, D, h1.kept hg (fun e => by have := hr b2 e.symm; omega), h2, h3⟩, grown_tr h4 hg (fun j e => .inl (hr j e))⟩
theorem kc_below {W W' : World} (h : Below W.heap.size W W') : KC W W' := ⟨h.size, fun j cs t f e => (h.block j (Array.getElem?_eq_some_iff.1 e).1).trans e⟩
theorem kc_grown {W W' : World} {b n : Nat} {D : DataW Unit} (hm : OwM W b n D) (h : W.grownBy W' (some b)) : KC W W' := ⟨h.size, fun j cs t f e => (h.block j (Array.getElem?_eq_some_iff.1 e).1 (fun e' => by
 obtain ⟨es, ck, hb, _⟩ := hm
 rw [Option.some.inj e', hb] at e
 cases e)).trans e⟩
theorem kf_grown {W W' : World} {B b : Nat} (h : W.grownBy W' (some b)) (hb : b < B) : KeepsFrom B W W' := ⟨h.size, fun k o hk e _ => (h.block k (Array.getElem?_eq_some_iff.1 e).1 (fun e' => by have := Option.some.inj e'; omega)).trans e⟩
theorem kf_below {W W' : World} (B : Nat) (h : Below W.heap.size W W') : KeepsFrom B W W' := ⟨h.size, fun k o hk e _ => (h.block k (Array.getElem?_eq_some_iff.1 e).1).trans e⟩
theorem grown_bel {A B C : World} {b : Nat} (h : A.grownBy B (some b)) (k : Below B.heap.size B C) : A.grownBy C (some b) := ⟨k.os.trans h.os, k.tape.trans h.tape, k.output.trans h.output, Nat.le_trans h.size k.size, fun j hj hne => (k.block j (Nat.lt_of_lt_of_le hj h.size)).trans (h.block j hj hne)⟩
theorem OwM.bel {W W' : World} {b n : Nat} {D : DataW Unit} (h : OwM W b n D) (k : Below W.heap.size W W') : OwM W' b n D := h.kept (row := none) ⟨k.os, k.tape, k.output, k.size, fun j hj _ => k.block j hj⟩ (by simp)
theorem PW_size {E : Nat → tt.En} {N : Nat} {x : ByteArray} (h : x ∈ PW E N) : x.size = 13 := by
 obtain ⟨k, hk, h⟩ := mem_PW.1 h
 obtain ⟨i, hi, rfl⟩ := mem_pcs.1 h
 simp
 omega
theorem RI.no {W0 : World} {b2 : Nat} {l : List (List UInt8)} {pre : List ByteArray} {x : ByteArray} {W W' : World} (h : RI W0 b2 l pre W) (k : Below W.heap.size W W') (hx : ¬ ∃ a ∈ l, a.take 13 = x.data.toList) : RI W0 b2 l (pre ++ [x]) W' := by
 obtain ⟨⟨m, D, h1, h2, h3⟩, h4⟩ := h
 refine ⟨⟨m, D, h1.bel k, by rw [List.length_append]; omega, fun y => (h3 y).trans ⟨fun ⟨p, z, hz, e⟩ => ⟨p, z, List.mem_append.2 (.inl hz), e⟩, fun ⟨p, z, hz, e⟩ => ⟨p, ?_⟩⟩⟩, grown_bel h4 k⟩
 rcases List.mem_append.1 hz with h | h
 ·exact ⟨z, h, e⟩
 ·rw [List.mem_singleton] at h
  subst h
  rw [e] at hx
  exact absurd p hx
theorem RI.yes {W0 : World} {b2 m : Nat} {D : DataW Unit} {l : List (List UInt8)} {pre : List ByteArray} {x : ByteArray} {W W1 W2 : World} (h1 : OwM W b2 m D) (h2 : m ≤ pre.length) (h3 : ∀ y, Maps.has D (.string y) = true ↔ ((∃ a ∈ l, a.take 13 = y) ∧ ∃ x ∈ pre, x.data.toList = y)) (h4 : W0.grownBy W (some b2)) (k : Below W.heap.size W W1) (ho : OwM W2 b2 (m + 1) (D.put (.string x.data.toList) (.agg []))) (hg : W1.grownBy W2 (some b2)) (hx : ∃ a ∈ l, a.take 13 = x.data.toList) : RI W0 b2 l (pre ++ [x]) W2 := by
 refine ⟨⟨m + 1, _, ho, by simp; omega, fun y => ?_⟩, grown_tr (grown_bel h4 k) hg (fun j e => .inr (Option.some.inj e).symm)⟩
 rw [has_put h1.isMap, h3 y]
 constructor
 ·rintro (⟨p, z, hz, e⟩ | rfl)
  ·exact ⟨p, z, List.mem_append.2 (.inl hz), e⟩
  ·exact ⟨hx, x, by simp, rfl⟩
 ·rintro ⟨p, z, hz, e⟩
  rcases List.mem_append.1 hz with h | h
  ·exact .inl ⟨p, z, h, e⟩
  ·rw [List.mem_singleton] at h
   subst h
   exact .inr e.symm
theorem refs_any (l : List (List UInt8)) (g c b1 b2 n2 : Nat) (D2 : DataW Unit) (E : Nat → tt.En) (b o N cap : Nat) (w : World) (hbk : sr.Blk w g c l) (hcm : c ≤ maxLen) (hl : l.length ≤ 4000) (hla : ∀ a ∈ l, 15 ≤ a.length ∧ a.length ≤ 1048576) (hW : WM w b1 l) (hM : OwM w b2 n2 D2) (hne : b1 ≠ b2) (hE : tt.EnR w b o N E) (hS : tt.SmE N E) (hN : N ≤ 1048576) (hP : (PW E N).length ≤ 10000000) :
  Calls Tryz.prog 155 #[.agg #[.slice (some ⟨g, 0, none⟩) l.length c, .map (some b1), .map (some b2)], .slice (some ⟨b, o, none⟩) N cap] w fun e w' => (∃ v, e = .returned v ∧ sr.OwnS w.heap.size w' v (l.filter fun a => inB E N (a.take 13))) ∧ w.grownBy w' (some b2) ∧ ∃ n' D', OwM w' b2 n' D' := by
 obtain ⟨n1, D1, hW1, hW2⟩ := hW
 have hb1 := hW1.lt
 have hb2 := hM.lt
 have hgl := hbk.lt
 obtain ⟨Wc, hclr, hMc, hgc⟩ := clear_own (hM.alloc (.cells #[.slice (some ⟨g, 0, none⟩) l.length c, .map (some b1), .map (some b2)] 173))
 have hWcs : w.heap.size + 1 ≤ Wc.heap.size := by have := hgc.size; rwa [World.size_alloc] at this
 have hbx : ∀ j v, (#[.slice (some ⟨g, 0, none⟩) l.length c, .map (some b1), .map (some b2)] : Array Value)[j]? = some v → Wc.cell? ⟨w.heap.size, j, none⟩ = some v := fun j v hv => hgc.cell (a := ⟨w.heap.size, j, none⟩) (by simp [go_sem, hv]) (fun e => by have := Option.some.inj e; simp at this; omega)
 refine (callsIn_wide (n := 3)).1 ?_
 refine callsIn_of_wp_marks Tryz.func155 rfl trivial ?_ rfl
 simp only [Tryz.ntmps155, List.size_toArray, List.length_cons, List.length_nil, Nat.reduceAdd, Nat.reduceSub, Array.replicate_succ, Array.replicate_zero, List.push_toArray, List.append_toArray, List.nil_append, List.cons_append]
 gi_wp2_with (refine ⟨trivial, ?_⟩; gi_at_call 177; refine (callsIn_wide.2 (wordsIn_any b o N cap _)).mono ?_; rintro e w' ⟨rfl, rfl⟩)
 rename_i Q0 K0 hK0
 obtain ⟨W0, hW0⟩ : ∃ W0, Wc.alloc (.cells #[.slice (some ⟨b, o, none⟩) N cap] 31) = W0 := ⟨_, rfl⟩
 have hs0 : W0.heap.size = Wc.heap.size + 1 := by rw [← hW0, World.size_alloc]
 have hb0 : Below Wc.heap.size Wc W0 := by rw [← hW0]; exact (Below.refl _ _).alloc (Nat.le_refl _) _
 have hbw : W0.cell? ⟨Wc.heap.size, 0, none⟩ = some (.slice (some ⟨b, o, none⟩) N cap) := by rw [← hW0]; simp [go_sem]
 rw [hW0]
 clear hW0
 have hwg : w.grownBy W0 (some b2) := by
  refine grown_bel ?_ hb0
  exact ⟨hgc.os, hgc.tape, hgc.output, by have := hgc.size; rw [World.size_alloc] at this; omega, fun k hk hne => (hgc.block k (by rw [World.size_alloc]; omega) hne).trans (Below.heap_alloc _ _ _ hk)⟩
 have hE0 : tt.EnR W0 b o N E := fun i hi => by
  obtain ⟨e0, e1, e2, e3⟩ := hE i hi
  have hk : ∀ j v, w.cell? ⟨b, j, none⟩ = some v → W0.cell? ⟨b, j, none⟩ = some v := fun j v h => hwg.cell h (fun e => by
   have e := Option.some.inj e
   simp only at e
   obtain ⟨es, ck, hbb, _⟩ := hM
   rw [e] at h
   simp [World.cell?, hbb] at h)
  exact ⟨hk _ _ e0, hk _ _ e1, hk _ _ e2, hk _ _ e3⟩
 have hI0 : RI W0 b2 l [] W0 := ⟨⟨0, _, hMc.bel hb0, Nat.zero_le _, fun y => by simp [Maps.has]⟩, ⟨rfl, rfl, rfl, Nat.le_refl _, fun _ _ _ => rfl⟩⟩
 have HBX : Hid (∀ W, W0.grownBy W (some b2) → W.cell? ⟨w.heap.size, 0, none⟩ = some (.slice (some ⟨g, 0, none⟩) l.length c) ∧ W.cell? ⟨w.heap.size, 1, none⟩ = some (.map (some b1)) ∧ W.cell? ⟨w.heap.size, 2, none⟩ = some (.map (some b2))) := fun W h => by
  have hk : ∀ j v, (#[.slice (some ⟨g, 0, none⟩) l.length c, .map (some b1), .map (some b2)] : Array Value)[j]? = some v → W.cell? ⟨w.heap.size, j, none⟩ = some v := fun j v hv => h.cell ((hb0.cell (p := ⟨w.heap.size, j, none⟩) (World.block_lt_of_cell? _ _ (hbx j v hv))).trans (hbx j v hv)) (fun e => by have := Option.some.inj e; simp at this; omega)
  exact ⟨hk 0 _ rfl, hk 1 _ rfl, hk 2 _ rfl⟩
 have HW1 : Hid (∀ W, W0.grownBy W (some b2) → OwM W b1 n1 D1) := fun W h => (hW1.kept hwg (by simpa using hne)).kept h (by simpa using hne)
 have HPS : Hid (∀ x, x ∈ PW E N → x.size = 13) := fun x hx => PW_size hx
 have HPL := Lib.hid hP
 have HW2 := Lib.hid hW2
 clear hP hW2
 refine range_t (by decide) (gf := 193) (lb := #[.pointer (some ⟨Wc.heap.size, 0, none⟩)]) rfl (enters_of Tryz.func193 (by kernel_rfl) rfl)
  (words_hands 2 Wc.heap.size E b o N cap W0 (by decide) hbw hE0 hS hN) (fun r e => e.elim)
  (fun A X C h1 h2 => h1.trans h2)
  (fun W lk ob o' hl h1 h2 h3 => ⟨by simp, fun j cs t f e => (World.putObj_heap_other (fun e' => by
   subst e'
   rw [h1] at e
   cases e
   cases h2)).trans e⟩) rfl
  (RI W0 b2 l) (fun _ _ => False)
  (fun s W W' row h hg hr => h.grow (by omega) hg (fun j e => (hr j e).1)) (fun s W W' row h hg hr => h)
  (fun s W W' row h hg hr => h.grow (by omega) hg (fun j e => (hr j e).elim)) (fun s W W' row h hg hr => h)
  hI0
  (fun x => { tmps := #[.agg #[.slice (some ⟨g, 0, none⟩) l.length c, .map (some b1), .map (some b2)], .slice (some ⟨b, o, none⟩) N cap, .pointer (some ⟨w.heap.size, 0, none⟩), undef, .slice none 0 0, .string x, undef, undef, undef, .pointer (some ⟨w.heap.size, 2, none⟩), .map (some b2), .slice (some ⟨b, o, none⟩) N cap, .func (.func 193) #[] #[.pointer (some ⟨Wc.heap.size, 0, none⟩)], .string x, undef, undef, undef, undef, undef, undef, undef, undef, undef, undef, undef, undef, undef, undef, undef, undef, undef, undef, undef, undef, undef, undef, undef, undef, undef, undef, undef, undef], defers := [] })
  ?assign ?body ?done ?stop
 case assign =>
  intro lk x W K hK
  gi_wp2
  exact hK
 case stop =>
  intro D pre W hD hp hx hK
  exact hx.elim
 case body =>
  intro lk pre x W hi hp
  have hx13 := HPS.out x (hp.subset (by simp : x ∈ pre ++ [x]))
  have hpl : pre.length + 1 ≤ 10000000 := by
   have := hp.length_le
   rw [List.length_append] at this
   exact Nat.le_trans this HPL.out
  have HRI := Lib.hid hi
  obtain ⟨⟨m, D, d1, d2, d3⟩, hg0⟩ := hi
  obtain ⟨q0, q1, q2⟩ := HBX.out _ hg0
  have HHS : Hid (Calls Tryz.prog 122 #[.map (some b1), .string x] W fun e w' => e = .returned (.bool (Maps.has D1 (.string x.data.toList))) ∧ Below W.heap.size W w') := has_any x (by omega) b1 n1 D1 W (HW1.out W hg0)
  cases hh : Maps.has D1 (.string x.data.toList) with
  | false =>
   rw [hh] at HHS
   have HNX : Hid (∀ W', Below W.heap.size W W' → KeepsFrom W0.heap.size W W' ∧ KC W W' ∧ RI W0 b2 l (pre ++ [x]) W') := fun W' k => ⟨kf_below _ k, kc_below k, HRI.out.no k (fun h => by rw [(HW2.out _).2 h] at hh; cases hh)⟩
   clear hh d1 d2 d3 hg0
   gi_wp2_with (refine ⟨trivial, ?_⟩; gi_at_call 122; refine (CallsIn.inRound lk (callsIn_wide.2 HHS.out)).mono ?_; rintro e w1 ⟨rfl, hb1⟩; have HK1 := Lib.hid (HNX.out _ hb1); clear hb1)
   have hk1 := HK1.out
   rwa [hs0] at hk1
  | true =>
   rw [hh] at HHS
   have HAD := Lib.hid fun (W1 : World) (k : Below W.heap.size W W1) => add_any x (by omega) b2 m (by omega) D W1 (d1.bel k)
   have HNX : Hid (∀ W1 W2, Below W.heap.size W W1 → OwM W2 b2 (m + 1) (D.put (.string x.data.toList) (.agg [])) → W1.grownBy W2 (some b2) → KeepsFrom W0.heap.size W W2 ∧ KC W W2 ∧ RI W0 b2 l (pre ++ [x]) W2) := fun W1 W2 k ho hg => ⟨(kf_below _ k).trans (kf_grown hg (by omega)), (kc_below k).trans (kc_grown (d1.bel k) hg), RI.yes d1 d2 d3 hg0 k ho hg ((HW2.out _).1 hh)⟩
   have HQ : Hid (∀ W1, Below W.heap.size W W1 → W1.cell? ⟨w.heap.size, 2, none⟩ = some (.map (some b2))) := fun W1 k => (k.cell (p := ⟨w.heap.size, 2, none⟩) (World.block_lt_of_cell? _ _ q2)).trans q2
   clear hh d1 d2 d3 hg0 q2
   gi_wp2_with (first
    | (refine ⟨trivial, ?_⟩; gi_at_call 122; refine (CallsIn.inRound lk (callsIn_wide.2 HHS.out)).mono ?_; rintro e w1 ⟨rfl, hb1⟩; have HB1 := Lib.hid hb1; have q2 := HQ.out _ hb1; clear hb1)
    | (refine ⟨trivial, ?_⟩; gi_at_call 124; refine (CallsIn.inRound lk (callsIn_wide.2 (HAD.out _ HB1.out))).mono ?_; rintro e w2 ⟨⟨v, rfl⟩, ho2, hg2⟩; have HF2 := Lib.hid (HNX.out _ _ HB1.out ho2 hg2); clear ho2 hg2))
   have hk1 := HF2.out
   rwa [hs0] at hk1
 case done =>
  intro Dd W hD hi hK
  refine hK0 _ _ (wpIn_wide.2 ?_)
  clear hK0
  obtain ⟨⟨m, D, d1, d2, d3⟩, hg0⟩ := hi
  obtain ⟨q0, q1, q2⟩ := HBX.out _ hg0
  have HD1 : Hid (OwM W b2 m D) := d1
  have HQ2 : Hid (∀ W1, Below W.heap.size W W1 → W1.cell? ⟨w.heap.size, 2, none⟩ = some (.map (some b2))) := fun W1 k => (k.cell (p := ⟨w.heap.size, 2, none⟩) (World.block_lt_of_cell? _ _ q2)).trans q2
  have hgb : g ≠ b2 := fun e => by
   obtain ⟨cs, hb, _⟩ := hbk.row
   obtain ⟨es, ck, hb', _⟩ := hM
   rw [e, hb'] at hb
   cases hb
  have HBK : Hid (∀ W1, Below W.heap.size W W1 → ∀ i x, l[i]? = some x → W1.cell? ⟨g, i, none⟩ = some (.string ⟨x.toArray⟩)) := fun W1 k i x hx => by
   have h1 := hbk.kept (hwg.block g hgl (fun e => hgb (Option.some.inj e)))
   have h2 := h1.kept (w' := W) (hg0.block g h1.lt (fun e => hgb (Option.some.inj e)))
   have h3 := h2.kept (w' := W1) (k.block g h2.lt)
   obtain ⟨bb, off, cap, e, _, _, hcc⟩ := h3.row' hcm
   cases e
   have := hcc i x hx
   rwa [Nat.zero_add] at this
  have HHS0 : Hid (∀ a ∈ l, Maps.has D (.string (a.take 13)) = inB E N (a.take 13)) := fun a ha => by
   have hl13 : (a.take 13).length = 13 := by rw [List.length_take]; have := (hla a ha).1; omega
   have h1 := d3 (a.take 13)
   rw [← inE_PW hl13, ← inB_iff] at h1
   cases hq : inB E N (a.take 13) with
   | true => exact h1.2 ⟨⟨a, ha, rfl⟩, hq⟩
   | false =>
    cases hq' : Maps.has D (.string (a.take 13)) with
    | false => rfl
    | true => rw [(h1.1 hq').2] at hq; cases hq
  have HLA := Lib.hid hla
  have HEND : Hid (∀ (w' : World) (v : Value), Below W.heap.size W w' → sr.OwnS W.heap.size w' v (l.filter fun a => inB E N (a.take 13)) → w'.heap[Dd]? = some (.deferred (some [])) ∧ ((∃ v', Ending.returned v = .returned v' ∧ sr.OwnS w.heap.size (w'.putObj Dd (.deferred none)) v' (l.filter fun a => inB E N (a.take 13))) ∧ w.grownBy (w'.putObj Dd (.deferred none)) (some b2) ∧ ∃ n' D', OwM (w'.putObj Dd (.deferred none)) b2 n' D')) := fun w' v k ho => by
   have hh := (Array.getElem?_eq_some_iff.1 hK).1
   have hd := (k.block Dd hh).trans hK
   have hsz := hwg.size
   have hsz2 := hg0.size
   refine ⟨hd, ⟨v, rfl, ?_, ho.2⟩, grown_tr (grown_bel (grown_tr hwg hg0 (fun j e => .inr (Option.some.inj e).symm)) k) (grownBy_putObj' w' Dd (.deferred none)) (fun j e => .inl (by have := Option.some.inj e; omega)), m, D, (HD1.out.bel k).kept (grownBy_putObj' w' Dd (.deferred none)) (fun e => ?_)⟩
   rotate_left
   ·obtain ⟨es, ck, hb', _⟩ := HD1.out.bel k
    rw [Option.some.inj e, hd] at hb'
    cases hb'
   refine (ho.mono (by omega)).1.kept (grownBy_putObj' w' Dd (.deferred none)) (.inr fun e => ?_)
   rcases ho.1.2 with hn | ⟨g', cap', cur, rfl, hb', hgg, rest⟩
   ·exact ho.2 hn.1
   ·have e' : g' = Dd := Option.some.inj e
    rw [e', hd] at hgg
    cases hgg
  obtain ⟨F, hF⟩ : ∃ F : List UInt8 → Bool, (fun a => inB E N (a.take 13)) = F := ⟨_, rfl⟩
  have HFF := Lib.hid hF
  have hFa : ∀ a, inB E N (a.take 13) = F a := fun a => by rw [← hF]
  have HHS1 : Hid (∀ a ∈ l, Maps.has D (.string (a.take 13)) = F a) := fun a ha => by rw [← hFa]; exact HHS0.out a ha
  obtain ⟨M, hMM⟩ : ∃ t, l.length = t := ⟨_, rfl⟩
  have HXN : Hid (l.length = M) := hMM
  have hM4 : M ≤ 4000 := by omega
  rw [hMM] at q0
  have HFL : Hid (∀ i, ((l.take i).filter F).length ≤ 4000) := fun i => by
   have h1 := List.length_filter_le F (l.take i)
   rw [List.length_take] at h1
   omega
  clear d1 d2 d3 hg0 hla hbk hM hE hS hN hW1 hclr hMc hgc hbx hwg hE0 hI0 hMM hFa hF HHS0 HPS HPL HW2 HW1 HBX hbw hb0 hl hcm hgb q1
  have hlt : w.heap.size < W.heap.size := World.block_lt_of_cell? _ _ q0
  have hln : ¬ W.heap.size = w.heap.size := by omega
  have hln' : ¬ w.heap.size = W.heap.size := by omega
  have qa : (W.alloc (.cells #[] 9)).cell? ⟨w.heap.size, 0, none⟩ = some (.slice (some ⟨g, 0, none⟩) M c) := (World.cell?_of_block (a := ⟨w.heap.size, 0, none⟩) (Below.heap_alloc _ _ _ hlt)).trans q0
  go_wp2
  go_loopw [6, 26] (fun v y wr => ∃ i : Nat, i ≤ M ∧ y = .int .i64 (i : Int) ∧ sr.OwnS W.heap.size wr v ((l.take i).filter F) ∧ Below W.heap.size W wr) (fun _ y _ => M - (intOf y).toNat)
  case atStart => exact ⟨0, Nat.zero_le _, rfl, ⟨by rw [List.take_zero, List.filter_nil]; exact sr.own_zero W, sr.not_nil _ _ _⟩, (Below.refl _ _).alloc (Nat.le_refl _) _⟩
  case round =>
   obtain ⟨i, hi, rfl, hrow, hbel⟩ := hrel
   have HBE : Hid (Below W.heap.size W wr) := hbel
   have HRW := Lib.hid hrow
   clear hrow
   by_cases hil : i < M
   ·have hil' : (i : Int) < (M : Int) := by omega
    have hi0 : (0 : Int) ≤ (i : Int) := by omega
    obtain ⟨x, hx⟩ : ∃ x, l[i]? = some x := ⟨_, List.getElem?_eq_getElem (by rw [HXN.out]; exact hil)⟩
    obtain ⟨hx15, hxl⟩ := HLA.out x (List.mem_of_getElem? hx)
    have c0 := HBK.out _ hbel i x hx
    have p2 := HQ2.out _ hbel
    have hsz : (⟨x.toArray⟩ : ByteArray).size = x.length := by show x.toArray.size = _; simp
    have hext : ((⟨x.toArray⟩ : ByteArray).extract 0 13).data.toList = x.take 13 := by rw [tt.bytes_ext]; simp
    have HHS : Hid (∀ W', Below W.heap.size W W' → Calls Tryz.prog 122 #[.map (some b2), .string ((⟨x.toArray⟩ : ByteArray).extract 0 13)] W' fun e w' => e = .returned (.bool (F x)) ∧ Below W'.heap.size W' w') := fun W' k => by
     have := has_any ((⟨x.toArray⟩ : ByteArray).extract 0 13) (by simp; omega) b2 m D W' (HD1.out.bel k)
     rwa [hext, HHS1.out x (List.mem_of_getElem? hx)] at this
    have HCL : Hid (∀ W' : World, Calls Tryz.prog 67 #[.string ⟨x.toArray⟩] W' fun e w' => e = .returned (.string ⟨x.toArray⟩) ∧ Below W'.heap.size W' w') := fun W' => cl.clone_any _ W' (by omega)
    have htk : l.take (i + 1) = l.take i ++ [x] := by rw [List.take_add_one, hx]; rfl
    have HNX : Hid ((l.take (i + 1)).filter F = (l.take i).filter F ++ [x].filter F) := by show _ = _; rw [htk, List.filter_append]
    obtain ⟨q, hq⟩ : ∃ q, F x = q := ⟨_, rfl⟩
    have HFX : Hid (F x = q) := hq
    rw [hq] at HHS
    obtain ⟨s, hs⟩ : ∃ s : ByteArray, (⟨x.toArray⟩ : ByteArray) = s := ⟨_, rfl⟩
    have HSX : Hid (sr.strL x = .string s) := by show _ = _; rw [← hs]; rfl
    rw [hs] at c0 HHS HCL hsz
    have h13 : (13 : Int) ≤ (s.size : Int) := by omega
    clear hs hsz hext hx hx15 hxl htk hq hbel
    go_wp2_with fail
    go_region_held3 (fun W => W.cell? ⟨w.heap.size, 2, none⟩ = some (.map (some b2)))
     (first | exact p2 | exact HQ2.out _ HB2.out | go_keep)
     (((go_at_call 122; refine (HHS.out _ HBE.out.drew).mono ?_; rintro e w2 ⟨rfl, hb2'⟩; have HB2 : Hid (Below W.heap.size W w2) := HBE.out.drew.trans (hb2'.mono HBE.out.drew.size); have HO2 : Hid (sr.OwnS W.heap.size w2 u6 ((l.take i).filter F)) := sv.OwnS.bel HRW.out ((Below.refl _ wr).drew.trans (hb2'.mono (by simp))); clear hb2')))
    cases q with
    | false =>
     go_wp2_with fail
     go_roundw
     case rel => exact ⟨i + 1, by omega, by go_num, by rw [HNX.out, List.filter_cons_of_neg (by rw [HFX.out]; simp), List.filter_nil, List.append_nil]; exact HO2.out, HB2.out⟩
     case measure => simp [intOf]; omega
    | true =>
     go_wp2_with (go_at_call 67; refine (HCL.out _).mono ?_; rintro e w3 ⟨rfl, hb3⟩; have HB3 : Hid (Below W.heap.size W w3) := HB2.out.trans (hb3.mono HB2.out.size); have HO3 : Hid (sr.OwnS W.heap.size w3 u6 ((l.take i).filter F)) := sv.OwnS.bel HO2.out hb3; clear hb3; refine Hid.out ?_)
     refine Lib.hid ?_
     have hfl := HFL.out i
     have HO3' : Hid (∀ ob, (w3.alloc ob).ownsRow W.heap.size 9 1 u6 ((l.take i).filter F).length (((l.take i).filter F).map sr.strL)) := fun ob => HO3.out.1.alloc _
     have HNE : Hid (∀ j u, ([x].map sr.strL)[j]? = some u → (w3.alloc (.cells #[.string s] 9)).cell? ((⟨w3.heap.size, 0, none⟩ : Addr).add j) = some u) := by
      have := sr.one_at w3 x
      rw [HSX.out] at this
      exact this
     have HS3 : Hid (∀ ob, W.heap.size ≤ (w3.alloc ob).heap.size) := fun ob => by rw [World.size_alloc]; exact Nat.le_trans HB3.out.size (by omega)
     obtain ⟨zs, hzs⟩ : ∃ zs, (l.take i).filter F = zs := ⟨_, rfl⟩
     rw [hzs] at hfl HO3' HNX
     have HOK : Hid (u6 ≠ .slice none 0 0) := HO3.out.2
     clear hzs HRW HO2 HO3
     go_wp2_with (first
      | (at_builtin; refine sr.app_str _ rfl _ _ rfl W.heap.size u6 zs rfl (HO3'.out _) HOK.out ⟨w3.heap.size, 0, none⟩ 1 1 [x] rfl rfl HNE.out (by omega) (HS3.out _) ?_; intro v4 w4 hown4 hv4 hg4; refine Hid.out ?_)
      | go_in)
     refine Lib.hid ?_
     have HB4 : Hid (Below W.heap.size W w4) := (HB3.out.alloc HB3.out.size _).grown hg4 (HS3.out _) (fun k hk => ((HO3'.out (.map #[] 0)).lt k hk).1)
     have HO4 : Hid (sr.OwnS W.heap.size w4 v4 ((l.take (i + 1)).filter F)) := by
      show sr.OwnS _ _ _ _
      rw [HNX.out, List.filter_cons_of_pos (by rw [HFX.out]), List.filter_nil]
      exact ⟨hown4, hv4⟩
     clear hown4 hv4 hg4
     go_wp2
     go_roundw
     case rel => exact ⟨i + 1, by omega, by go_num, HO4.out, HB4.out⟩
     case measure => simp [intOf]; omega
   ·have hil' : ¬ (i : Int) < (M : Int) := by omega
    obtain rfl : i = M := by omega
    clear hbel
    have hfin := HEND.out wr u6 HBE.out (by
     have := HRW.out
     rwa [List.take_of_length_le (by rw [HXN.out]; exact Nat.le_refl _), ← HFF.out] at this)
    have HFIN := Lib.hid hfin
    clear hfin HEND
    go_wp2
    refine ⟨by simp, .inl ⟨_, _, rfl, run_takeDeferred HFIN.out.1, ⟨u6, ?_, HFIN.out.2⟩⟩⟩
    simp [results, Tryz.results155, go_sem]
end Go.Proofs.YthbgpfjbfkiljaaGreatDoor.rf
