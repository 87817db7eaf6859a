import Derived.Test.YtcpmgellfaeejaaGreatDoorG24
import Derived.Test.YtcpmgellfaeejaaGreatDoorG20
import Derived.Test.YtcpmgellfaeejaaGreatDoorG08
import Derived.Test.YtcpmgellfaeejaaGreatDoorG10
import Derived.Maps.AppendAt
import Derived.Deep.RegionHeld3
import Derived.BigQuiet
import Derived.Test.YtcpmgellfaeejaaGreatDoorG13
import Derived.Test.YtcpmgellfaeejaaGreatDoorRows
import Derived.Test.YtcpmgellfaeejaaGreatDoorG01
import Derived.Deep.QuietTactic
import Derived.Deep.RegionWith
import Derived.Lib.Hide
import Derived.Laws.Bits128
import Derived.RangeFuncBox
namespace Go.Proofs.YtcpmgellfaeejaaGreatDoor.so
open Go.ChangeShapes Go.WideShapes Go.ChangeAt Go.RowKit Go.Deep Go.Shelf Go.Maps
set_option linter.unusedVariables false
set_option linter.unusedSimpArgs false
theorem asc_nil : sr.asc [] := by first | trivial | (unfold sr.asc; simp)
theorem adr_mem (xs : List (List UInt8)) (q : List UInt8) : q ∈ sr.adr xs ↔ q ∈ xs ∧ sr.aokL q = true := by
 unfold sr.adr
 rw [sr.fold_mem, List.mem_filter]
 simp
theorem adr_asc (xs : List (List UInt8)) : sr.asc (sr.adr xs) := sr.fold_asc _ _ asc_nil
theorem adr_same {xs ys : List (List UInt8)} (h : ∀ q, q ∈ xs ↔ q ∈ ys) : sr.adr xs = sr.adr ys := sr.asc_ext (adr_asc xs) (adr_asc ys) fun q => by rw [adr_mem, adr_mem, h]
theorem rfs_same {E : Nat → tt.En} {n : Nat} {xs ys : List (List UInt8)} (h : ∀ q, q ∈ xs ↔ q ∈ ys) : rf.rfs E n xs = rf.rfs E n ys := by unfold rf.rfs; rw [adr_same h]
theorem rfs_asc (E : Nat → tt.En) (n : Nat) (xs : List (List UInt8)) : sr.asc (rf.rfs E n xs) := by rw [rf.rfs_spec]; exact sr.fold_asc _ _ asc_nil
theorem rfs_mem (E : Nat → tt.En) (n : Nat) (xs : List (List UInt8)) (q : List UInt8) : q ∈ rf.rfs E n xs ↔ (q ∈ xs ∧ sr.aokL q = true) ∧ rf.inB E n (q.take 13) = true := by
 unfold rf.rfs
 rw [List.mem_filter, adr_mem]
theorem rfs_more {E : Nat → tt.En} {n : Nat} {xs ys : List (List UInt8)} {p : List UInt8} (h : rf.inB E n (p.take 13) = false) (hm : ∀ q, q ∈ ys ↔ q ∈ xs ∨ q = p) : rf.rfs E n ys = rf.rfs E n xs := sr.asc_ext (rfs_asc _ _ _) (rfs_asc _ _ _) fun q => by
 rw [rfs_mem, rfs_mem, hm]
 constructor
 ·rintro ⟨⟨h1 | rfl, h2⟩, h3⟩
  ·exact ⟨⟨h1, h2⟩, h3⟩
  ·rw [h] at h3; cases h3
 ·rintro ⟨⟨h1, h2⟩, h3⟩
  exact ⟨⟨.inl h1, h2⟩, h3⟩
def PLt (y x : ty.It) : Prop := y.fPath.data.toList < x.fPath.data.toList
theorem ascI_pw {ps : List ty.It} : AscI ps ↔ ps.Pairwise PLt := by
 rw [List.pairwise_iff_getElem]
 constructor
 ·intro h i j hi hj hij
  exact h j i _ _ hij (List.getElem?_eq_getElem hi) (List.getElem?_eq_getElem hj)
 ·intro h i j x y hij hy hx
  obtain ⟨hj, rfl⟩ := List.getElem?_eq_some_iff.1 hy
  obtain ⟨hi, rfl⟩ := List.getElem?_eq_some_iff.1 hx
  exact h j i hj hi hij
theorem asB_of {ps : List ty.It} (h : AscI ps) : ap.asB (ps.map fun y => y.fPath) = true := by
 unfold ap.asB ap.ascN
 rw [List.all_eq_true]
 intro i hi
 have hi2 : i < ps.length := by simpa using List.mem_range.1 hi
 rcases i with _ | K
 ·unfold ap.ltB; rw [decide_eq_true rfl]; rfl
 ·have hx : (ps.map fun y => y.fPath)[K + 1]? = some ps[K + 1].fPath := by rw [List.getElem?_map, List.getElem?_eq_getElem hi2]; rfl
  have hy : (ps.map fun y => y.fPath)[K]? = some ps[K].fPath := by rw [List.getElem?_map, List.getElem?_eq_getElem (by omega)]; rfl
  rw [ap.ltB_succ hx hy, blI]
  exact decide_eq_true (h (K + 1) K _ _ (by omega) (List.getElem?_eq_getElem (by omega)) (List.getElem?_eq_getElem hi2))
theorem ins_asc {ps : List ty.It} {x : ty.It} (h : AscI ps) (hno : ∀ y ∈ ps, y.fPath.data.toList ≠ x.fPath.data.toList) : AscI (insL ps x) := by
 have hr := rk_of h x.fPath.data.toList
 have hp := ascI_pw.1 h
 rw [ascI_pw]
 unfold insL
 rw [List.pairwise_append]
 have h1 : ps = ps.take (rkN ps x.fPath.data.toList) ++ ps.drop (rkN ps x.fPath.data.toList) := (List.take_append_drop _ _).symm
 have hp2 := hp
 rw [h1, List.pairwise_append] at hp2
 have hlo : ∀ a ∈ ps.take (rkN ps x.fPath.data.toList), PLt a x := fun a ha => by
  obtain ⟨j, hj⟩ := List.getElem?_of_mem ha
  have hlt := (List.getElem?_eq_some_iff.1 hj).1
  rw [List.length_take] at hlt
  rw [List.getElem?_take_of_lt (by omega)] at hj
  exact hr.lo j a (by omega) hj
 have hhi : ∀ b ∈ ps.drop (rkN ps x.fPath.data.toList), PLt x b := fun b hb => by
  obtain ⟨j, hj⟩ := List.getElem?_of_mem hb
  rw [List.getElem?_drop] at hj
  have h2 := hr.hi _ b (Nat.le_add_right _ _) hj
  have h3 := hno b (List.mem_of_getElem? hj)
  rcases lt_triI b.fPath.data.toList x.fPath.data.toList with h4 | h4 | h4
  ·exact absurd h4 h2
  ·exact absurd h4 h3
  ·exact h4
 refine ⟨hp2.1, ?_, ?_⟩
 ·rw [List.pairwise_cons]
  exact ⟨hhi, hp2.2.1⟩
 ·intro a ha b hb
  rcases List.mem_cons.1 hb with rfl | hb
  ·exact hlo a ha
  ·exact hp2.2.2 a ha b hb
theorem ins_mem {ps : List ty.It} {x y : ty.It} : y ∈ insL ps x ↔ y ∈ ps ∨ y = x := by
 unfold insL
 have h1 : y ∈ ps ↔ y ∈ ps.take (rkN ps x.fPath.data.toList) ∨ y ∈ ps.drop (rkN ps x.fPath.data.toList) := by
  rw [← List.mem_append, List.take_append_drop]
 rw [List.mem_append, List.mem_cons, h1]
 constructor
 ·rintro (h | h | h)
  ·exact .inl (.inl h)
  ·exact .inr h
  ·exact .inl (.inr h)
 ·rintro ((h | h) | h)
  ·exact .inl h
  ·exact .inr (.inr h)
  ·exact .inr (.inl h)
theorem ins_len (ps : List ty.It) (x : ty.It) : (insL ps x).length = ps.length + 1 := by
 unfold insL
 rw [List.length_append, List.length_cons, List.length_take, List.length_drop]
 omega
theorem ins_pths {ps : List ty.It} {x : ty.It} (q : List UInt8) : q ∈ pths (insL ps x) ↔ q ∈ pths ps ∨ q = x.fPath.data.toList := by
 unfold pths
 simp only [List.mem_map]
 constructor
 ·rintro ⟨y, hy, rfl⟩
  rcases ins_mem.1 hy with h | rfl
  ·exact .inl ⟨y, h, rfl⟩
  ·exact .inr rfl
 ·rintro (⟨y, hy, rfl⟩ | rfl)
  ·exact ⟨y, ins_mem.2 (.inl hy), rfl⟩
  ·exact ⟨x, ins_mem.2 (.inr rfl), rfl⟩
theorem add_zero {ps : List ty.It} {p : ByteArray} {t : List ty.Et} (h : addC ps p t = 0) : hasB ps p = false ∧ awB ps p = false ∧ ps.length ≠ 300 := by
 unfold addC at h
 cases h1 : hasB ps p with
 | true =>
  rw [if_pos h1] at h
  unfold hadC at h
  split at h <;> cases h
 | false =>
  rw [if_neg (by rw [h1]; decide)] at h
  cases h2 : awB ps p with
  | true => rw [if_pos h2] at h; cases h
  | false =>
   rw [if_neg (by rw [h2]; decide)] at h
   refine ⟨rfl, rfl, fun h3 => ?_⟩
   rw [if_pos h3] at h
   cases h
theorem eqT_self (l : List ByteArray) (L : List (List UInt8)) (h : l = L.map fun l => ⟨l.toArray⟩) : eqT l L = true := by
 subst h
 unfold eqT
 refine decide_eq_true ?_
 rw [List.map_map]
 exact List.map_id L
theorem st_add {ps : List ty.It} {p fr : ByteArray} {t : List ty.Et} (h : aitB ps p fr t = true) : stB (addL ps p fr t) = true := by
 unfold aitB at h
 simp only [Bool.and_eq_true] at h
 obtain ⟨hs, hp, hf, ht⟩ := h
 unfold addL
 by_cases h0 : addC ps p t = 0
 ·rw [if_pos h0]
  obtain ⟨h1, h2, h3⟩ := add_zero h0
  have ha : AscI ps := fun i j x y hji hy hx => asc_lt (st_facts hs).2 i j x y hji hy hx
  have hl := (st_facts hs).1
  have hno : ∀ y ∈ ps, y.fPath.data.toList ≠ (newI ps p fr t).fPath.data.toList := fun y hy e => by
   unfold hasB at h1
   have := of_decide_eq_false h1
   obtain ⟨i, hi⟩ := List.getElem?_of_mem hy
   exact this (mem_pths.2 ⟨i, y, hi, e⟩)
  have hm : ∀ q, q ∈ pths (insL ps (newI ps p fr t)) ↔ q ∈ pths ps ∨ q = p.data.toList := fun q => ins_pths q
  have hall : ps.all (itB (pths ps)) = true := by
   unfold stB at hs
   simp only [Bool.and_eq_true] at hs
   exact hs.2.2
  unfold stB
  rw [asB_of (ins_asc ha hno), decide_eq_true (by rw [ins_len]; omega)]
  show (insL ps (newI ps p fr t)).all _ = true
  rw [List.all_eq_true]
  intro y hy
  rcases ins_mem.1 hy with hy | rfl
  ·have hy1 := List.all_eq_true.1 hall y hy
   have hy2 : rf.inB (enT y.fTree) y.fTree.length (p.data.toList.take 13) = false := by
    unfold awB at h2
    rw [List.any_eq_false] at h2
    simpa using h2 y hy
   unfold itB itP at hy1 ⊢
   rw [rfs_more hy2 hm]
   exact hy1
  ·unfold itB itP
   have e : rf.rfs (enT t) t.length (pths (insL ps (newI ps p fr t))) = rf.rfs (enT t) t.length (pths ps ++ [p.data.toList]) := rfs_same fun q => by rw [hm, List.mem_append, List.mem_singleton]
   show (wd.aokB p && (tt.treeB (enT t) t.length && (decide (tt.tsB (enT t) t.length = tt.tsB (enT t) t.length) && (frB fr && eqT (newI ps p fr t).fRefs (rf.rfs (enT t) t.length (pths (insL ps (newI ps p fr t)))))))) = true
   rw [hp, ht, hf, decide_eq_true rfl, e, show eqT (newI ps p fr t).fRefs (rf.rfs (enT t) t.length (pths ps ++ [p.data.toList])) = true from eqT_self _ _ rfl]
   rfl
 ·rw [if_neg h0]
  exact hs
end Go.Proofs.YtcpmgellfaeejaaGreatDoor.so

namespace Go.Proofs.YtcpmgellfaeejaaGreatDoor.tt
open Go.ChangeShapes Go.WideShapes Go.ChangeAt Go.RowKit Go.Deep
set_option linter.unusedVariables false
set_option linter.unusedSimpArgs false
theorem lt_tri (p q : List UInt8) : p < q ∨ p = q ∨ q < p := by
 by_cases h : p < q
 ·exact .inl h
 ·by_cases h2 : q < p
  ·exact .inr (.inr h2)
  ·exact .inr (.inl (List.le_antisymm (List.not_lt.1 h2) (List.not_lt.1 h)))
theorem bl_yes {x y : ByteArray} (h : x.data.toList < y.data.toList) : Op.bytesLess x.toList y.toList = true := by rw [bl]; simpa using h
theorem bl_no {x y : ByteArray} (h : ¬ x.data.toList < y.data.toList) : Op.bytesLess x.toList y.toList = false := by rw [bl]; simpa using h
structure Rk (E : Nat → En) (n : Nat) (q : List UInt8) (a : Nat) : Prop where
 le : a ≤ n
 lo : ∀ j, j < a → pth E j < q
 hi : ∀ j, a ≤ j → j < n → ¬ pth E j < q
def Is (E : Nat → En) (n : Nat) (q : List UInt8) (a : Nat) : Prop := a < n ∧ pth E a = q
noncomputable def isB (E : Nat → En) (n : Nat) (q : List UInt8) (a : Nat) : Bool := @decide (Is E n q a) (Classical.propDecidable _)
theorem isB_yes {E : Nat → En} {n a : Nat} {q : List UInt8} (h : Is E n q a) : isB E n q a = true := by unfold isB; exact @decide_eq_true _ (Classical.propDecidable _) h
theorem isB_iff {E : Nat → En} {n a : Nat} {q : List UInt8} : isB E n q a = true ↔ Is E n q a := by unfold isB; exact @decide_eq_true_iff _ (Classical.propDecidable _)
def Und (x d : List UInt8) : Prop := (d ++ [47]) <+: x
instance (x d : List UInt8) : Decidable (Und x d) := inferInstanceAs (Decidable ((d ++ [47]) <+: x))
def Full (E : Nat → En) (n : Nat) (p : List UInt8) : Prop := ∃ j, j < n ∧ Und (pth E j) p
theorem und_at {x d : List UInt8} (h : Und x d) : x[d.length]? = some 47 ∧ x.take d.length = d ∧ d.length < x.length := by
 obtain ⟨t, rfl⟩ := h
 refine ⟨by simp, by simp, by simp⟩
def Tk (E : Nat → En) (n : Nat) (e : En) (a : Nat) : Prop := eOk e = true ∧ (up e.path.data.toList ≠ [] → Dir E n (up e.path.data.toList)) ∧ (e.kind = 1 ∨ ¬ Full E n e.path.data.toList) ∧ (Is E n e.path.data.toList a ∨ n < 500)
noncomputable def tkB (E : Nat → En) (n : Nat) (e : En) (a : Nat) : Bool := @decide (Tk E n e a) (Classical.propDecidable _)
theorem tkB_yes {E : Nat → En} {n a : Nat} {e : En} (h : Tk E n e a) : tkB E n e a = true := by unfold tkB; exact @decide_eq_true _ (Classical.propDecidable _) h
theorem tkB_no {E : Nat → En} {n a : Nat} {e : En} (h : ¬ Tk E n e a) : tkB E n e a = false := by unfold tkB; exact @decide_eq_false _ (Classical.propDecidable _) h
theorem tkB_iff {E : Nat → En} {n a : Nat} {e : En} : tkB E n e a = true ↔ Tk E n e a := by unfold tkB; exact @decide_eq_true_iff _ (Classical.propDecidable _)
noncomputable def ptN (E : Nat → En) (n : Nat) (e : En) (a : Nat) : Nat := if isB E n e.path.data.toList a = true then n else n + 1
noncomputable def ptF (E : Nat → En) (n : Nat) (e : En) (a : Nat) : Nat → En := fun k => if k < a then E k else if k = a then e else if isB E n e.path.data.toList a = true then E k else E (k - 1)
theorem pre_take {p s : List UInt8} : p <+: s ↔ p.length ≤ s.length ∧ s.take p.length = p := by
 constructor
 ·rintro ⟨t, rfl⟩
  exact ⟨by simp, by simp⟩
 ·rintro ⟨_, h⟩
  exact ⟨s.drop p.length, by have := List.take_append_drop p.length s; rwa [h] at this⟩
noncomputable def fullB (E : Nat → En) (n : Nat) (p : List UInt8) : Bool := @decide (Full E n p) (Classical.propDecidable _)
theorem fullB_yes {E : Nat → En} {n : Nat} {p : List UInt8} (h : Full E n p) : fullB E n p = true := by unfold fullB; exact @decide_eq_true _ (Classical.propDecidable _) h
theorem fullB_no {E : Nat → En} {n : Nat} {p : List UInt8} (h : ¬ Full E n p) : fullB E n p = false := by unfold fullB; exact @decide_eq_false _ (Classical.propDecidable _) h
theorem fullB_iff {E : Nat → En} {n : Nat} {p : List UInt8} : fullB E n p = true ↔ Full E n p := by unfold fullB; exact @decide_eq_true_iff _ (Classical.propDecidable _)
theorem treeB_is {E : Nat → En} {n : Nat} (h : treeB E n = true) : n ≤ 500 ∧ Tr E n := by unfold treeB at h; exact (@decide_eq_true_iff _ (Classical.propDecidable _)).1 h
def BxE (W : World) (eb : Nat) (P d : ByteArray) (k : Int) (x : Bool) : Prop := W.cell? ⟨eb, 0, none⟩ = some (.string P) ∧ W.cell? ⟨eb, 1, none⟩ = some (.int .i64 k) ∧ W.cell? ⟨eb, 2, none⟩ = some (.string d) ∧ W.cell? ⟨eb, 3, none⟩ = some (.bool x)
theorem BxE.below {W W' : World} {eb : Nat} {P d : ByteArray} {k : Int} {x : Bool} (h : BxE W eb P d k x) (hb : Below W.heap.size W W') : BxE W' eb P d k x := by
 have hl : eb < W.heap.size := World.block_lt_of_cell? W ⟨eb, 0, none⟩ h.1
 have c : ∀ j, W'.cell? ⟨eb, j, none⟩ = W.cell? ⟨eb, j, none⟩ := fun j => hb.cell (p := ⟨eb, j, none⟩) hl
 exact ⟨(c _).trans h.1, (c _).trans h.2.1, (c _).trans h.2.2.1, (c _).trans h.2.2.2⟩
theorem bxE_new (w : World) (T : Nat) (P d : ByteArray) (k : Int) (x : Bool) : BxE (w.alloc (.cells #[.string P, .int .i64 k, .string d, .bool x] T)) w.heap.size P d k x := by
 have h : ∀ j, (w.alloc (.cells #[.string P, .int .i64 k, .string d, .bool x] T)).cell? ⟨w.heap.size, j, none⟩ = (#[Value.string P, .int .i64 k, .string d, .bool x] : Array Value)[j]? := fun j => World.cell?_alloc_new w _ _ j
 refine ⟨?_, ?_, ?_, ?_⟩ <;> rw [h] <;> rfl
theorem rk_ex {E : Nat → En} {q : List UInt8} : ∀ (n : Nat), Asc E n → ∃ a, Rk E n q a
 | 0, _ => ⟨0, Nat.le_refl _, fun j h => by omega, fun j h h2 => by omega⟩
 | n + 1, hA => by
  obtain ⟨a, ha⟩ := rk_ex n (fun i j h h2 => hA i j h (by omega))
  by_cases h : pth E n < q
  ·refine ⟨n + 1, Nat.le_refl _, fun j hj => ?_, fun j h1 h2 => by omega⟩
   rcases Nat.lt_or_ge j n with h1 | h1
   ·exact List.lt_trans (hA j n h1 (by omega)) h
   ·obtain rfl : j = n := by omega
    exact h
  ·refine ⟨a, by have := ha.le; omega, ha.lo, fun j h1 h2 => ?_⟩
   rcases Nat.lt_or_ge j n with h3 | h3
   ·exact ha.hi j h1 h3
   ·obtain rfl : j = n := by omega
    exact h
noncomputable def puF (E : Nat → En) (n : Nat) (e : En) (a : Nat) : Nat → En := if tkB E n e a = true then ptF E n e a else E
theorem ptN_le (E : Nat → En) (n : Nat) (e : En) (a : Nat) : ptN E n e a ≤ n + 1 := by unfold ptN; split <;> omega
theorem rowE_mono {base base' : Nat} {w : World} {v : Value} {n : Nat} {E : Nat → En} (h : RowE base w v n E) (hb : base' ≤ base) : RowE base' w v n E := by
 obtain ⟨g, cap, f, rfl, h1, h2, h3, h4, h5⟩ := h
 exact ⟨g, cap, f, rfl, Nat.le_trans hb h1, h2, h3, h4, h5⟩
set_option maxRecDepth 100000 in
theorem under_any (s d : ByteArray) (hs : s.size ≤ 1048576) (hd : d.size ≤ 1048576) (w : World) :
  Calls Tryz.prog 129 #[.string s, .string d] w fun e w' => e = .returned (.bool (decide (Und s.data.toList d.data.toList))) ∧ w' = w := by
 obtain ⟨r, hr⟩ : ∃ r, decide (Und s.data.toList d.data.toList) = r := ⟨_, rfl⟩
 rw [hr]
 have hsl : s.data.toList.length = s.size := by simp
 have hdl : d.data.toList.length = d.size := by simp
 by_cases hle : d.size < s.size
 ·have hle' : (d.size : Int) < (s.size : Int) := by omega
  have hle2 : (d.size : Int) + 1 ≤ (s.size : Int) := by omega
  have heq : ((s.extract 0 (d.size + 1)).toList == (d.toList ++ [47])) = r := by
   rw [← hr, take_ext hle, ByteArray.toList_eq, ByteArray.toList_eq, Bool.eq_iff_iff, decide_eq_true_iff]
   unfold Und
   rw [pre_take, List.length_append, hdl, hsl]
   simp only [List.length_cons, List.length_nil, Nat.zero_add, beq_iff_eq]
   exact ⟨fun h => ⟨by omega, h⟩, fun h => h.2⟩
  have heq2 : ((s.extract 0 (d.size + 1)).toList == (d ++ ⟨#[47]⟩).toList) = r := by
   rw [← heq]
   congr 1
   rw [ByteArray.toList_eq, ByteArray.toList_eq]
   simp
  clear hr hsl hdl
  go_enter Tryz.func129, Tryz.ntmps129
  go_wp2
  go_ret
  first | exact ⟨rfl, rfl⟩ | exact ⟨by rw [heq], rfl⟩ | exact ⟨by rw [heq2], rfl⟩ | exact ⟨by simp [heq], rfl⟩ | exact ⟨by simp [heq2], rfl⟩
 ·have hle' : ¬ (d.size : Int) < (s.size : Int) := by omega
  have e : r = false := by
   rw [← hr, decide_eq_false_iff_not]
   intro h
   have := (und_at h).2.2
   omega
  subst e
  clear hr hsl hdl
  go_enter Tryz.func129, Tryz.ntmps129
  go_wp2
  go_ret
  exact ⟨rfl, rfl⟩
set_option maxHeartbeats 2000000 in
set_option maxRecDepth 100000 in
theorem full_any (E : Nat → En) (b o n cap : Nat) (P : ByteArray) (w : World) (hR : EnR w b o n E) (hS : SmE n E) (hn : n ≤ 1048576) (hPs : P.size ≤ 1048576) :
  Calls Tryz.prog 94 #[.slice (some ⟨b, o, none⟩) n cap, .string P] w fun e w' => e = .returned (.bool (fullB E n P.data.toList)) ∧ w' = w := by
 have HR : Hid (EnR w b o n E) := hR
 have HC : Hid (∀ p W, p.size ≤ 1048576 → Calls Tryz.prog 129 #[.string p, .string P] W fun e w' => e = .returned (.bool (decide (Und p.data.toList P.data.toList))) ∧ w' = W) := fun p W hp => under_any p P hp hPs W
 have HS : Hid (SmE n E) := hS
 clear hR hS
 go_enter Tryz.func94, Tryz.ntmps94
 go_wp2
 go_loopw [5] (fun x wr => ∃ i : Nat, i ≤ n ∧ x = .int .i64 (i : Int) ∧ (∀ j, j < i → ¬ Und (pth E j) P.data.toList) ∧ wr = w) (fun x _ => n - (intOf x).toNat)
 case atStart => exact ⟨0, Nat.zero_le _, rfl, fun j h => by omega, rfl⟩
 case round =>
  obtain ⟨i, hi, rfl, h1, rfl⟩ := hrel
  have H1 : Hid (∀ j, j < i → ¬ Und (pth E j) P.data.toList) := h1
  clear h1
  by_cases hin : i < n
  ·have hin' : (i : Int) < (n : Int) := by omega
   have hi0 : (0 : Int) ≤ (i : Int) := by omega
   obtain ⟨c0, -, -, -⟩ := HR.out i hin
   have HPM : Hid (pth E i = (E i).path.data.toList) := rfl
   have hsm := (HS.out i hin).1
   obtain ⟨M, hM⟩ : ∃ M, (E i).path = M := ⟨_, rfl⟩
   rw [hM] at c0 HPM hsm
   have HCM : Hid (Calls Tryz.prog 129 #[.string M, .string P] wr fun e w' => e = .returned (.bool (decide (Und M.data.toList P.data.toList))) ∧ w' = wr) := HC.out M wr hsm
   clear hM
   by_cases hu : Und M.data.toList P.data.toList
   ·rw [decide_eq_true hu] at HCM
    have HF : Hid (fullB E n P.data.toList = true) := fullB_yes ⟨i, hin, by rw [HPM.out]; exact hu⟩
    clear hu
    go_wp2_with (go_at_call 129; refine HCM.out.mono ?_; rintro e w1 ⟨rfl, rfl⟩)
    go_ret
    exact ⟨by rw [HF.out]; rfl, rfl⟩
   ·rw [decide_eq_false hu] at HCM
    have HN : Hid (∀ j, j < i + 1 → ¬ Und (pth E j) P.data.toList) := fun j hj => by
     rcases Nat.lt_or_ge j i with h | h
     ·exact H1.out j h
     ·obtain rfl : j = i := by omega
      rw [HPM.out]; exact hu
    clear hu
    go_wp2_with (go_at_call 129; refine HCM.out.mono ?_; rintro e w1 ⟨rfl, rfl⟩)
    go_roundw
    case rel => exact ⟨i + 1, by omega, by go_num, HN.out, by first | rfl | trivial⟩
    case measure => simp [intOf] <;> omega
  ·have hin' : ¬ (i : Int) < (n : Int) := by omega
   have HF : Hid (fullB E n P.data.toList = false) := fullB_no fun ⟨j, hj, hu⟩ => H1.out j (by omega) hu
   go_wp2
   go_ret
   exact ⟨by rw [HF.out]; rfl, rfl⟩
end Go.Proofs.YtcpmgellfaeejaaGreatDoor.tt

namespace Go.Proofs.YtcpmgellfaeejaaGreatDoor.tt
open Go.ChangeShapes Go.WideShapes Go.ChangeAt Go.RowKit Go.Deep
set_option linter.unusedVariables false
set_option linter.unusedSimpArgs false
theorem pre_ltS {x y : List UInt8} (hy : y ≠ []) : x < x ++ y := by
 induction x with
 | nil => cases y with
  | nil => exact absurd rfl hy
  | cons b y => exact List.nil_lt_cons _ _
 | cons c x ih => exact List.cons_lt_cons_iff.2 (.inr ⟨rfl, ih⟩)
theorem up_lt {x : List UInt8} (h : up x ≠ []) : up x < x ∧ Und x (up x) := by
 unfold up at h ⊢
 cases hl : lst x with
 | none => rw [hl] at h; exact absurd rfl h
 | some k =>
  rw [hl] at h
  simp only at h ⊢
  have hk := (List.getElem?_eq_some_iff.1 (lst_some hl).1)
  obtain ⟨hk1, hk2⟩ := hk
  have e : x = x.take k ++ x.drop k := (List.take_append_drop k x).symm
  refine ⟨?_, ?_⟩
  ·conv => rhs; rw [e]
   exact pre_ltS (fun h0 => by rw [List.drop_eq_nil_iff] at h0; omega)
  ·unfold Und
   rw [pre_take, List.length_append, List.length_take, Nat.min_eq_left (Nat.le_of_lt hk1)]
   refine ⟨by simp; omega, ?_⟩
   show x.take (k + 1) = _
   rw [List.take_add_one, List.getElem?_eq_getElem hk1, hk2]
   rfl
theorem tr_iff {E : Nat → En} {k : Nat} : Tr E k ↔ (∀ i, i < k → eOk (E i) = true) ∧ Asc E k ∧ ∀ i, i < k → up (pth E i) ≠ [] → Dir E k (up (pth E i)) := by
 constructor
 ·intro h
  refine ⟨h.1, h.asc, fun i hi hu => ?_⟩
  obtain ⟨j, h1, h2, h3⟩ := h.2.2 i hi hu
  exact ⟨j, by omega, h2, h3⟩
 ·rintro ⟨h1, h2, h3⟩
  refine ⟨h1, fun i hi => h2 i (i + 1) (by omega) hi, fun i hi hu => ?_⟩
  obtain ⟨j, k1, k2, k3⟩ := h3 i hi hu
  refine ⟨j, ?_, k2, k3⟩
  have hlt := (up_lt hu).1
  rcases Nat.lt_trichotomy j i with h | h | h
  ·exact h
  ·rw [h] at k2; rw [← k2] at hlt; exact absurd hlt (List.lt_irrefl _)
  ·have := h2 i j h k1
   rw [k2] at this
   exact absurd (List.lt_trans this hlt) (List.lt_irrefl _)
section
variable {E : Nat → En} {n a : Nat} {e : En}
theorem pt_old (hr : Rk E n e.path.data.toList a) (hA : Asc E n) {k : Nat} (hk : k < ptN E n e a) : (k = a ∧ ptF E n e a k = e) ∨ ∃ j, j < n ∧ ptF E n e a k = E j ∧ pth E j ≠ e.path.data.toList ∧ (k < a ↔ j < a) ∧ (k < a → j = k) ∧ (a < k → j = if isB E n e.path.data.toList a = true then k else k - 1) := by
 have hle := hr.le
 unfold ptN at hk
 unfold ptF
 rcases Nat.lt_trichotomy k a with h | h | h
 ·refine .inr ⟨k, by omega, by rw [if_pos h], fun h' => ?_, by simp, fun _ => rfl, fun h' => by omega⟩
  have := hr.lo k h
  rw [h'] at this
  exact List.lt_irrefl _ this
 ·exact .inl ⟨h, by rw [if_neg (by omega), if_pos h]⟩
 ·by_cases hb : isB E n e.path.data.toList a = true
  ·rw [if_pos hb] at hk
   obtain ⟨hi1, hi2⟩ := isB_iff.1 hb
   refine .inr ⟨k, hk, by rw [if_neg (by omega), if_neg (by omega), if_pos hb], fun h' => ?_, by simp, fun h' => by omega, fun _ => by rw [if_pos hb]⟩
   have := hA a k h hk
   rw [hi2, h'] at this
   exact List.lt_irrefl _ this
  ·rw [if_neg hb] at hk
   refine .inr ⟨k - 1, by omega, by rw [if_neg (by omega), if_neg (by omega), if_neg hb], fun h' => ?_, by omega, fun h' => by omega, fun _ => by rw [if_neg hb]⟩
   rcases Nat.lt_or_ge a (k - 1) with h2 | h2
   ·have h3 := hA a (k - 1) h2 (by omega)
    rw [h'] at h3
    exact hr.hi a (Nat.le_refl _) (by omega) h3
   ·have h3 : k - 1 = a := by omega
    rw [h3] at h'
    exact hb (isB_yes ⟨by omega, h'⟩)
theorem pt_new (hr : Rk E n e.path.data.toList a) {j : Nat} (hj : j < n) (hp : pth E j ≠ e.path.data.toList) : ∃ k, k < ptN E n e a ∧ ptF E n e a k = E j := by
 unfold ptN ptF
 by_cases hb : isB E n e.path.data.toList a = true
 ·obtain ⟨hi1, hi2⟩ := isB_iff.1 hb
  have hja : j ≠ a := fun h => hp (by rw [h]; exact hi2)
  refine ⟨j, by rw [if_pos hb]; exact hj, ?_⟩
  by_cases h : j < a
  ·rw [if_pos h]
  ·rw [if_neg h, if_neg hja, if_pos hb]
 ·by_cases h : j < a
  ·exact ⟨j, by rw [if_neg hb]; omega, by rw [if_pos h]⟩
  ·exact ⟨j + 1, by rw [if_neg hb]; omega, by rw [if_neg (by omega), if_neg (by omega), if_neg hb]; rfl⟩
theorem put_tree (hT : Tr E n) (hr : Rk E n e.path.data.toList a) (hk : Tk E n e a) : Tr (ptF E n e a) (ptN E n e a) := by
 obtain ⟨t1, t2, t3⟩ := tr_iff.1 hT
 obtain ⟨k1, k2, k3, k4⟩ := hk
 have hle := hr.le
 have haN : a < ptN E n e a := by
  unfold ptN
  by_cases hb : isB E n e.path.data.toList a = true
  ·rw [if_pos hb]; exact (isB_iff.1 hb).1
  ·rw [if_neg hb]; omega
 have hat : ptF E n e a a = e := by unfold ptF; rw [if_neg (by omega), if_pos rfl]
 refine tr_iff.2 ⟨fun i hi => ?_, fun i j hij hj => ?_, fun i hi hu => ?_⟩
 ·rcases pt_old hr t2 hi with ⟨_, h⟩ | ⟨j, hj, h, _⟩
  ·rw [h]; exact k1
  ·rw [h]; exact t1 j hj
 ·rcases pt_old hr t2 (Nat.lt_trans hij hj) with ⟨h1, h⟩ | ⟨x, hx, h, hxp, hxa, hx1, hx2⟩
  ·rcases pt_old hr t2 hj with ⟨h2, g⟩ | ⟨y, hy, g, hyp, hya, hy1, hy2⟩
   ·omega
   ·show pth (ptF E n e a) i < pth (ptF E n e a) j
    unfold pth
    rw [h, g]
    have hn := hr.hi y (by omega) hy
    rcases lt_tri (pth E y) e.path.data.toList with h3 | h3 | h3
    ·exact absurd h3 hn
    ·exact absurd h3 hyp
    ·exact h3
  ·rcases pt_old hr t2 hj with ⟨h2, g⟩ | ⟨y, hy, g, hyp, hya, hy1, hy2⟩
   ·show pth (ptF E n e a) i < pth (ptF E n e a) j
    unfold pth
    rw [h, g]
    exact hr.lo x (by omega)
   ·show pth (ptF E n e a) i < pth (ptF E n e a) j
    unfold pth
    rw [h, g]
    refine t2 x y ?_ hy
    rcases Nat.lt_or_ge j a with h3 | h3
    ·have := hx1 (by omega); have := hy1 h3; omega
    ·have hja : j ≠ a := fun h' => by
      rw [h', hat] at g
      exact hyp (by show (E y).path.data.toList = _; rw [← g])
     have := hy2 (by omega)
     rcases Nat.lt_or_ge i a with h4 | h4
     ·have := hx1 h4; have := hya; omega
     ·have hia : i ≠ a := fun h' => by
       rw [h', hat] at h
       exact hxp (by show (E x).path.data.toList = _; rw [← h])
      have h8 := hx2 (by omega)
      by_cases hb : isB E n e.path.data.toList a = true
      ·rw [if_pos hb] at h8 this; omega
      ·rw [if_neg hb] at h8 this; omega
 ·have key : ∀ q, q ≠ [] → Dir E n q → (q = e.path.data.toList → e.kind = 1) → Dir (ptF E n e a) (ptN E n e a) q := by
   rintro q _ ⟨j, hj, hpj, hkj⟩ hq
   by_cases h : q = e.path.data.toList
   ·exact ⟨a, haN, by unfold pth; rw [hat, h], by rw [hat]; exact hq h⟩
   ·obtain ⟨k, hk, hF⟩ := pt_new hr hj (by rw [hpj]; exact h)
    exact ⟨k, hk, by unfold pth; rw [hF]; exact hpj, by rw [hF]; exact hkj⟩
  rcases pt_old hr t2 hi with ⟨_, h⟩ | ⟨j, hj, h, hpj, _⟩
  ·have e1 : pth (ptF E n e a) i = e.path.data.toList := by unfold pth; rw [h]
   rw [e1] at hu ⊢
   refine key _ hu (k2 hu) fun h2 => ?_
   have := (up_lt hu).1
   rw [h2] at this
   exact absurd this (List.lt_irrefl _)
  ·have e1 : pth (ptF E n e a) i = pth E j := by unfold pth; rw [h]
   rw [e1] at hu ⊢
   refine key _ hu (t3 j hj hu) fun h2 => ?_
   rcases k3 with h3 | h3
   ·exact h3
   ·exact absurd ⟨j, hj, by rw [← h2]; exact (up_lt hu).2⟩ h3
theorem put_few (hn : n ≤ 500) (hk : Tk E n e a) : ptN E n e a ≤ 500 := by
 unfold ptN
 by_cases hb : isB E n e.path.data.toList a = true
 ·rw [if_pos hb]; exact hn
 ·rw [if_neg hb]
  rcases hk.2.2.2 with h | h
  ·exact absurd (isB_yes h) hb
  ·omega
end
end Go.Proofs.YtcpmgellfaeejaaGreatDoor.tt

namespace Go.Proofs.YtcpmgellfaeejaaGreatDoor.tt
open Go.ChangeShapes Go.WideShapes Go.ChangeAt Go.RowKit Go.Deep
set_option linter.unusedVariables false
set_option linter.unusedSimpArgs false
def wtN (E : Nat → En) : Nat → Nat
 | 0 => 0
 | k + 1 => wtN E k + ((E k).path.size + (E k).data.size)
theorem wt_in {E F : Nat → En} {r : Nat} {e : En} (h1 : ∀ i, i < r → F i = E i) (h2 : F r = e) (h3 : ∀ i, r < i → F i = E i) : ∀ k, wtN F k ≤ wtN E k + (e.path.size + e.data.size) ∧ (k ≤ r → wtN F k = wtN E k)
 | 0 => ⟨by unfold wtN; omega, fun _ => rfl⟩
 | k + 1 => by
  obtain ⟨a, b⟩ := wt_in h1 h2 h3 k
  unfold wtN
  rcases Nat.lt_trichotomy k r with h | h | h
  ·rw [h1 k h]
   have := b (by omega)
   exact ⟨by omega, fun _ => by omega⟩
  ·subst h
   rw [h2]
   have := b (Nat.le_refl _)
   exact ⟨by omega, fun h => by omega⟩
  ·rw [h3 k h]
   exact ⟨by omega, fun h => by omega⟩
theorem wt_new {E F : Nat → En} {r : Nat} {e : En} (h1 : ∀ i, i < r → F i = E i) (h2 : F r = e) (h3 : ∀ i, r < i → F i = E (i - 1)) : ∀ k, (k ≤ r → wtN F k = wtN E k) ∧ (r ≤ k → wtN F (k + 1) = wtN E k + (e.path.size + e.data.size))
 | 0 => ⟨fun _ => rfl, fun h => by
  obtain rfl : r = 0 := by omega
  show wtN F 0 + _ = wtN E 0 + _
  rw [h2]
  rfl⟩
 | k + 1 => by
  obtain ⟨a, b⟩ := wt_new h1 h2 h3 k
  refine ⟨fun h => ?_, fun h => ?_⟩
  ·unfold wtN
   rw [a (by omega), h1 k (by omega)]
  ·show wtN F (k + 1) + ((F (k + 1)).path.size + (F (k + 1)).data.size) = wtN E k + ((E k).path.size + (E k).data.size) + _
   rcases Nat.lt_or_ge k r with h4 | h4
   ·obtain rfl : r = k + 1 := by omega
    show wtN F k + ((F k).path.size + (F k).data.size) + _ = _
    rw [a (by omega), h1 k (by omega), h2]
   ·rw [b h4, h3 (k + 1) (by omega), Nat.add_sub_cancel]
    omega
theorem put_wt {E : Nat → En} {m r : Nat} {e : En} (hr : r ≤ m) : wtN (puF E m e r) (if tkB E m e r = true then ptN E m e r else m) ≤ wtN E m + e.path.size + e.data.size := by
 unfold puF
 by_cases hk : tkB E m e r = true
 ·rw [if_pos hk, if_pos hk]
  have h1 : ∀ i, i < r → ptF E m e r i = E i := fun i hi => by unfold ptF; rw [if_pos hi]
  have h2 : ptF E m e r r = e := by unfold ptF; rw [if_neg (by omega), if_pos rfl]
  unfold ptN
  by_cases hb : isB E m e.path.data.toList r = true
  ·rw [if_pos hb]
   have h := (wt_in h1 h2 (fun i hi => by unfold ptF; rw [if_neg (by omega), if_neg (by omega), if_pos hb]) m).1
   omega
  ·rw [if_neg hb]
   have h := (wt_new h1 h2 (fun i hi => by unfold ptF; rw [if_neg (by omega), if_neg (by omega), if_neg hb]) m).2 hr
   omega
 ·rw [if_neg hk, if_neg hk]
  omega
end Go.Proofs.YtcpmgellfaeejaaGreatDoor.tt

namespace Go.Proofs.YtcpmgellfaeejaaGreatDoor.so
open Go.ChangeShapes Go.WideShapes Go.ChangeAt Go.RowKit Go.Deep Go.Shelf Go.Maps
set_option linter.unusedVariables false
set_option linter.unusedSimpArgs false
def etL (E : Nat → tt.En) (m : Nat) : List ty.Et := (List.range m).map fun i => ⟨(E i).path, (E i).kind, (E i).data, (E i).exec⟩
theorem etL_len (E : Nat → tt.En) (m : Nat) : (etL E m).length = m := by unfold etL; rw [List.length_map, List.length_range]
theorem etL_at {E : Nat → tt.En} {m i : Nat} (h : i < m) : (etL E m)[i]? = some ⟨(E i).path, (E i).kind, (E i).data, (E i).exec⟩ := by
 unfold etL
 rw [List.getElem?_map, List.getElem?_range h]
 rfl
theorem etL_en {E : Nat → tt.En} {m i : Nat} (h : i < m) : enT (etL E m) i = E i := by rw [enT_some (etL_at h)]; rfl
theorem etL_rd {W : World} {g m : Nat} {E : Nat → tt.En} (h : tt.EnR W g 0 m E) : RdE W (some ⟨g, 0, none⟩) (etL E m) := ⟨g, 0, rfl, fun j y hy => by
 have hj := (List.getElem?_eq_some_iff.1 hy).1
 rw [etL_len] at hj
 rw [etL_at hj] at hy
 cases hy
 obtain ⟨h0, h1, h2, h3⟩ := h j hj
 exact ⟨h0, h1, h2, h3⟩⟩
theorem etL_wtk (E : Nat → tt.En) (m : Nat) : ∀ k, k ≤ m → ty.wtkEt (etL E m) k = tt.wtN E k
 | 0, _ => rfl
 | k + 1, h => by
  rw [ty.wtkEt_succ (etL_at (E := E) (m := m) (i := k) (by omega)), etL_wtk E m k (by omega)]
  rfl
theorem etL_wt (E : Nat → tt.En) (m : Nat) : ty.wtEt (etL E m) = m + tt.wtN E m := by
 unfold ty.wtEt
 rw [etL_len, etL_wtk E m m (Nat.le_refl _)]
theorem tr_same {E F : Nat → tt.En} {m : Nat} (h : ∀ i, i < m → F i = E i) (hT : tt.Tr E m) : tt.Tr F m := by
 have hp : ∀ i, i < m → tt.pth F i = tt.pth E i := fun i hi => by unfold tt.pth; rw [h i hi]
 obtain ⟨a, b, c⟩ := hT
 refine ⟨fun i hi => by rw [h i hi]; exact a i hi, fun i hi => by rw [hp i (by omega), hp (i + 1) hi]; exact b i hi, fun i hi => ?_⟩
 rw [hp i hi]
 intro h1
 obtain ⟨j, hj, h2, h3⟩ := c i hi h1
 exact ⟨j, hj, by rw [hp j (by omega)]; exact h2, by rw [h j (by omega)]; exact h3⟩
theorem etL_tree {E : Nat → tt.En} {m : Nat} (h : tt.treeB E m = true) : tt.treeB (enT (etL E m)) (etL E m).length = true := by
 obtain ⟨h5, hT⟩ := tt.treeB_is h
 rw [etL_len]
 unfold tt.treeB
 exact @decide_eq_true _ (Classical.propDecidable _) ⟨h5, tr_same (fun i hi => etL_en hi) hT⟩
end Go.Proofs.YtcpmgellfaeejaaGreatDoor.so

namespace Go.Proofs.YtcpmgellfaeejaaGreatDoor.so
open Go.ChangeShapes Go.WideShapes Go.ChangeAt Go.RowKit Go.Deep Go.Shelf Go.Maps
set_option linter.unusedVariables false
set_option linter.unusedSimpArgs false
theorem wtIt_sum (l : List ty.It) : ty.wtIt l = l.length + (l.map ty.wt1It).sum := by
 unfold ty.wtIt ty.wtkIt
 rw [List.take_length]
theorem wtS_sum (l : List ByteArray) : ty.wtS l = l.length + (l.map fun x => x.size).sum := by
 unfold ty.wtS ty.wtkS
 rw [List.take_length]
theorem wtS_few {l : List ByteArray} {D : Nat} (h : ∀ x ∈ l, x.size ≤ D) : ty.wtS l ≤ l.length * (D + 1) := by
 rw [wtS_sum]
 induction l with
 | nil => simp
 | cons a l ih =>
  have h1 := h a (List.mem_cons_self ..)
  have h2 := ih fun x hx => h x (List.mem_cons_of_mem _ hx)
  rw [List.map_cons, List.sum_cons, List.length_cons, Nat.add_mul]
  omega
theorem ins_wt (ps : List ty.It) (x : ty.It) : ty.wtIt (insL ps x) = ty.wtIt ps + 1 + ty.wt1It x := by
 rw [wtIt_sum, wtIt_sum, ins_len]
 unfold insL
 rw [List.map_append, List.map_cons, List.sum_append, List.sum_cons]
 have h : (ps.map ty.wt1It).sum = ((ps.take (rkN ps x.fPath.data.toList)).map ty.wt1It).sum + ((ps.drop (rkN ps x.fPath.data.toList)).map ty.wt1It).sum := by
  rw [← List.sum_append, ← List.map_append, List.take_append_drop]
 omega
structure DrS (j : Nat) (ps : List ty.It) : Prop where
 ok : stB ps = true
 few : ps.length ≤ j
 sz : ∀ y ∈ ps, y.fPath.size ≤ 17
 wt : ty.wtIt ps ≤ j * 62000
 one : ∀ y ∈ ps, ty.wt1It y ≤ 62000
theorem drs_zero : DrS 0 [] := ⟨by unfold stB; rfl, Nat.le_refl _, fun y hy => (by cases hy), by rw [wtIt_sum]; simp, fun y hy => (by cases hy)⟩
theorem drs_add {j : Nat} {ps : List ty.It} {p fr : ByteArray} {t : List ty.Et} (h : DrS j ps) (hj : j ≤ 8) (hp : wd.aokB p = true) (hpz : p.size ≤ 17) (hf : frB fr = true) (hfz : fr.size ≤ 19) (ht : tt.treeB (enT t) t.length = true) (hw : ty.wtEt t ≤ 61000) : DrS (j + 1) (addL ps p fr t) := by
 have ha : aitB ps p fr t = true := by unfold aitB; rw [h.ok, hp, hf, ht]; rfl
 have hs := st_add ha
 have hb := h.few
 have hw0 := h.wt
 by_cases h0 : addC ps p t = 0
 ·have e : addL ps p fr t = insL ps (newI ps p fr t) := by unfold addL; rw [if_pos h0]
  rw [e] at hs ⊢
  have hnew : ty.wt1It (newI ps p fr t) + 1 ≤ 62000 := by
   have hsum : (newI ps p fr t).fSum.size = 13 := by
    show (tt.tsB (enT t) t.length).size = 13
    rw [tt.tsB_yes ht]
    exact wd.wordA_size _
   have hlen : (newI ps p fr t).fRefs.length ≤ j + 1 := by
    show ((rf.rfs (enT t) t.length (pths ps ++ [p.data.toList])).map _).length ≤ _
    rw [List.length_map]
    have := rf.rfs_len (enT t) t.length (pths ps ++ [p.data.toList])
    rw [List.length_append, pths_len] at this
    simp at this
    omega
   have href : ty.wtS (newI ps p fr t).fRefs ≤ (newI ps p fr t).fRefs.length * (17 + 1) := wtS_few fun x hx => by
    have hx2 : x ∈ (rf.rfs (enT t) t.length (pths ps ++ [p.data.toList])).map (fun l => (⟨l.toArray⟩ : ByteArray)) := hx
    obtain ⟨q, hq, rfl⟩ := List.mem_map.1 hx2
    have hq2 := ((rfs_mem _ _ _ _).1 hq).1.1
    show q.toArray.size ≤ 17
    rw [List.size_toArray]
    rcases List.mem_append.1 hq2 with h3 | h3
    ·obtain ⟨i, z, hz, rfl⟩ := mem_pths.1 h3
     have := h.sz z (List.mem_of_getElem? hz)
     have e2 : z.fPath.data.toList.length = z.fPath.size := Array.length_toList
     omega
    ·rw [List.mem_singleton] at h3
     subst h3
     have e2 : p.data.toList.length = p.size := Array.length_toList
     omega
   have g1 : (newI ps p fr t).fPath = p := rfl
   have g2 : (newI ps p fr t).fFrom = fr := rfl
   have g3 : (newI ps p fr t).fTree = t := rfl
   generalize newI ps p fr t = x at *
   unfold ty.wt1It
   rw [g1, g2, g3]
   omega
  refine ⟨hs, by rw [ins_len]; omega, fun y hy => ?_, ?_, fun y hy => ?_⟩
  ·rcases ins_mem.1 hy with hy | rfl
   ·exact h.sz y hy
   ·exact hpz
  ·rw [ins_wt]
   omega
  ·rcases ins_mem.1 hy with hy | rfl
   ·exact h.one y hy
   ·omega
 ·have e : addL ps p fr t = ps := by unfold addL; rw [if_neg h0]
  rw [e]
  exact ⟨h.ok, Nat.le_succ_of_le h.few, h.sz, Nat.le_trans hw0 (Nat.mul_le_mul_right _ (Nat.le_succ j)), h.one⟩
end Go.Proofs.YtcpmgellfaeejaaGreatDoor.so

namespace Go.Proofs.YtcpmgellfaeejaaGreatDoor.dr
open Go.ChangeShapes Go.WideShapes Go.ChangeAt Go.RowKit Go.Deep
set_option linter.unusedVariables false
set_option linter.unusedSimpArgs false
def CodeB (w : World) (a : Option Addr) (n : Nat) : Prop :=
 n = 0 ∨ ∃ b off, a = some ⟨b, off, none⟩ ∧ ∀ i, i < n → ∃ x : Nat, x < 256 ∧ w.cell? ⟨b, off + i, none⟩ = some (.int .u8 (x : Int))
def CurC (a : Option Addr) (n cap i : Nat) (h : Int) (j : Nat) : Value := if j = 0 then .slice a n cap else if j = 1 then .int .i64 (i : Int) else .int .i64 h
set_option maxHeartbeats 1000000 in
theorem new_any (a : Option Addr) (n cap : Nat) (w : World) (hb : CodeB w a n) (hn : n ≤ 1048576) :
  Calls Tryz.prog 21 #[.slice a n cap] w fun e w' => e = .returned (.pointer (some ⟨w.heap.size, 0, none⟩)) ∧ ∃ h : Int, w' = w.alloc (.cells #[.slice a n cap, .int .i64 0, .int .i64 h] 66) := by
 go_enter Tryz.func21, Tryz.ntmps21
 go_wp2
 go_loop [3, 4] (fun x i => ∃ (k : Nat) (h : Int), k ≤ n ∧ i = .int .i64 k ∧ x = .int .i64 h) (fun _ i => n - (intOf i).toNat)
 case atStart => exact ⟨0, _, Nat.zero_le _, rfl, rfl⟩
 case round =>
  obtain ⟨k, h, hk, rfl, rfl⟩ := hrel
  by_cases hlt : k < n
  ·rcases hb with rfl | ⟨b, off, rfl, hc⟩
   ·omega
   obtain ⟨x, hx, hck⟩ := hc k hlt
   have hlt' : (k : Int) < (n : Int) := by omega
   go_wp2
   go_round
   case rel => exact ⟨k + 1, _, by omega, by go_num, rfl⟩
   case measure => simp [intOf]; omega
  ·have hlt' : ¬ (k : Int) < (n : Int) := by omega
   go_wp2
   go_ret
   exact ⟨rfl, _, rfl⟩
theorem i64_and255 (n : Int) : bits .and .i64 n 255 = n % 256 := by
 have h255 : (BitVec.ofInt 64 255).toNat = 2 ^ 8 - 1 := by decide
 have key : (BitVec.ofInt 64 n &&& BitVec.ofInt 64 255).toNat = (n % ((2 ^ 64 : Nat) : Int)).toNat % 2 ^ 8 := by
  rw [BitVec.toNat_and, BitVec.toNat_ofInt, h255, Nat.and_two_pow_sub_one_eq_mod]
 show IntKind.i64.wrap ((BitVec.ofInt 64 n &&& BitVec.ofInt 64 255).toNat : Nat) = n % 256
 rw [key, IntKind.wrap_i64]
 omega
def Cur (w : World) (c : Nat) (a : Option Addr) (n cap : Nat) : Prop := ∃ (i : Nat) (h : Int), w.rowIs c 66 3 (CurC a n cap i h) ∧ i ≤ n
theorem grown_set (W : World) (b o : Nat) (v : Value) : W.grownBy (W.setCell ⟨b, o, none⟩ v) (some b) :=
 ⟨rfl, rfl, rfl, by simp, fun k _ hk => blk_setCell_other _ _ _ _ (fun e => hk (by rw [e]))⟩
theorem grown_trans {A B C : World} {c : Nat} (h : A.grownBy B (some c)) (k : B.grownBy C (some c)) : A.grownBy C (some c) :=
 ⟨k.os.trans h.os, k.tape.trans h.tape, k.output.trans h.output, Nat.le_trans h.size k.size, fun j hj hne => (k.block j (Nat.lt_of_lt_of_le hj h.size) hne).trans (h.block j hj hne)⟩
theorem grown_refl (A : World) (c : Nat) : A.grownBy A (some c) := ⟨rfl, rfl, rfl, Nat.le_refl _, fun _ _ _ => rfl⟩
theorem grown_drewN {A B : World} {c q : Nat} (h : A.grownBy B (some c)) : A.grownBy (B.drewN q) (some c) := ⟨h.os, h.tape, h.output, h.size, h.block⟩
theorem row_drewN {w : World} {b n : Nat} {t : TypeId} {f : Nat → Value} (h : w.rowIs b t n f) (q : Nat) : (w.drewN q).rowIs b t n f := h
theorem byte_fin {v : Int} {e : Ending} {w w' : World} {c n cap : Nat} {a : Option Addr} (he : e = .returned (.int .i64 (bits .and .i64 v 255))) (hc : Cur w' c a n cap) (hg : w.grownBy w' (some c)) :
  ∃ x : Nat, e = .returned (.int .i64 (x : Int)) ∧ x < 256 ∧ Cur w' c a n cap ∧ w.grownBy w' (some c) := by
 refine ⟨(v % 256).toNat, ?_, by omega, hc, hg⟩
 rw [he, i64_and255]
 congr 2
 omega
theorem cur_set2 {w : World} {c n cap i : Nat} {a : Option Addr} {h : Int} (hr : w.rowIs c 66 3 (CurC a n cap i h)) (h' : Int) : (w.setCell ⟨c, 2, none⟩ (.int .i64 h')).rowIs c 66 3 (CurC a n cap i h') :=
 (hr.set 2 _).congr fun j hj => by
  match j, hj with
  | 0, _ => rfl
  | 1, _ => rfl
  | 2, _ => rfl
theorem cur_set1 {w : World} {c n cap i : Nat} {a : Option Addr} {h : Int} (hr : w.rowIs c 66 3 (CurC a n cap i h)) {v : Int} (e : v = ((i + 1 : Nat) : Int)) : (w.setCell ⟨c, 1, none⟩ (.int .i64 v)).rowIs c 66 3 (CurC a n cap (i + 1) h) :=
 (hr.set 1 _).congr fun j hj => by
  match j, hj with
  | 0, _ => rfl
  | 1, _ => subst e; rfl
  | 2, _ => rfl
set_option maxHeartbeats 1000000 in
theorem byte_any (a : Option Addr) (n cap c : Nat) (w : World) (hb : CodeB w a n) (hc : Cur w c a n cap) (hn : n ≤ 1048576) (hne : ∀ x, a = some x → 0 < n → x.block ≠ c) :
  Calls Tryz.prog 57 #[.pointer (some ⟨c, 0, none⟩)] w fun e w' => ∃ x : Nat, e = .returned (.int .i64 (x : Int)) ∧ x < 256 ∧ Cur w' c a n cap ∧ w.grownBy w' (some c) := by
 obtain ⟨i, h, hr, hi⟩ := hc
 have g0 : w.cell? ⟨c, 0, none⟩ = some (.slice a n cap) := hr.cell (i := 0) (by decide)
 have g1 : w.cell? ⟨c, 1, none⟩ = some (.int .i64 (i : Int)) := hr.cell (i := 1) (by decide)
 have g2 : w.cell? ⟨c, 2, none⟩ = some (.int .i64 h) := hr.cell (i := 2) (by decide)
 have f1 := hr.frozen 1
 have f2 := hr.frozen 2
 by_cases hlt : i < n
 ·have hlt' : (i : Int) < (n : Int) := by omega
  rcases hb with rfl | ⟨b, off, rfl, hcc⟩
  ·omega
  obtain ⟨x, hx, hck⟩ := hcc i hlt
  have hbc : b ≠ c := hne _ rfl (by omega)
  go_enter Tryz.func57, Tryz.ntmps57
  go_wp2
  go_quiet (fail)
  go_wp2
  go_quiet (fail)
  go_wp2
  go_quiet (fail)
  go_wp2
  go_ret
  exact byte_fin rfl ⟨i + 1, _, cur_set1 (row_drewN (cur_set2 hr _) _) (by omega), hlt⟩ (grown_trans (grown_drewN (grown_set _ _ _ _)) (grown_set _ _ _ _))
 ·have hlt' : ¬ (i : Int) < (n : Int) := by omega
  go_enter Tryz.func57, Tryz.ntmps57
  go_wp2
  go_quiet (fail)
  go_wp2
  go_quiet (fail)
  go_wp2
  go_ret
  exact byte_fin rfl ⟨i, _, row_drewN (row_drewN (cur_set2 hr _) _) _, hi⟩ (grown_drewN (grown_drewN (grown_set _ _ _ _)))
theorem CodeB.grown {w w' : World} {a : Option Addr} {n c : Nat} (h : CodeB w a n) (hg : w.grownBy w' (some c)) (hne : ∀ x, a = some x → 0 < n → x.block ≠ c) : CodeB w' a n := by
 rcases h with h | ⟨b, off, rfl, h⟩
 ·exact .inl h
 ·exact .inr ⟨b, off, rfl, fun i hi => by
   obtain ⟨x, hx, hc⟩ := h i hi
   exact ⟨x, hx, hg.cell hc (fun e => hne _ rfl (by omega) (by cases e; rfl))⟩⟩
structure Draws (w w' : World) (c : Nat) (a : Option Addr) (n cap : Nat) : Prop where
 code : CodeB w' a n
 cur : Cur w' c a n cap
 grown : w.grownBy w' (some c)
structure Can (w : World) (c : Nat) (a : Option Addr) (n cap : Nat) : Prop where
 code : CodeB w a n
 cur : Cur w c a n cap
 small : n ≤ 1048576
 lt : ∀ x, a = some x → 0 < n → x.block < c
theorem Can.ne {w : World} {c : Nat} {a : Option Addr} {n cap : Nat} (h : Can w c a n cap) : ∀ x, a = some x → 0 < n → x.block ≠ c := fun x e h0 => Nat.ne_of_lt (h.lt x e h0)
theorem Can.draws {w w' : World} {c : Nat} {a : Option Addr} {n cap : Nat} (h : Can w c a n cap) (k : Draws w w' c a n cap) : Can w' c a n cap := ⟨k.code, k.cur, h.small, h.lt⟩
theorem Draws.trans {A B C : World} {c : Nat} {a : Option Addr} {n cap : Nat} (h : Draws A B c a n cap) (k : Draws B C c a n cap) : Draws A C c a n cap := ⟨k.code, k.cur, grown_trans h.grown k.grown⟩
theorem Can.refl {w : World} {c : Nat} {a : Option Addr} {n cap : Nat} (h : Can w c a n cap) : Draws w w c a n cap := ⟨h.code, h.cur, grown_refl _ _⟩
theorem byte_can {w : World} {c : Nat} {a : Option Addr} {n cap : Nat} (h : Can w c a n cap) :
  Calls Tryz.prog 57 #[.pointer (some ⟨c, 0, none⟩)] w fun e w' => ∃ x : Nat, e = .returned (.int .i64 (x : Int)) ∧ x < 256 ∧ Draws w w' c a n cap :=
 (byte_any a n cap c w h.code h.cur h.small h.ne).mono fun e w' ⟨x, he, hx, hc, hg⟩ => ⟨x, he, hx, h.code.grown hg h.ne, hc, hg⟩
set_option maxHeartbeats 1000000 in
theorem below_can {w : World} {c : Nat} {a : Option Addr} {n cap : Nat} (h : Can w c a n cap) (m : Nat) (hm : 1 ≤ m) (hm2 : m ≤ 1000000000) :
  Calls Tryz.prog 24 #[.pointer (some ⟨c, 0, none⟩), .int .i64 (m : Int)] w fun e w' => ∃ x : Nat, e = .returned (.int .i64 (x : Int)) ∧ x < m ∧ Draws w w' c a n cap := by
 have h0 : ¬ (m : Int) ≤ 0 := by omega
 by_cases hs : m ≤ 256
 ·have hs' : (m : Int) ≤ 256 := by omega
  go_enter Tryz.func24, Tryz.ntmps24
  go_wp2_with (go_at_call 57; refine (byte_can h).mono ?_; rintro e w1 ⟨x, rfl, hx, d1⟩)
  go_ret
  exact ⟨x % m, ret_int (Int.natCast_emod x m).symm, Nat.mod_lt _ (by omega), d1⟩
 ·have hs' : ¬ (m : Int) ≤ 256 := by omega
  go_enter Tryz.func24, Tryz.ntmps24
  go_wp2_with (go_at_call 57; refine (byte_can h).mono ?_; rintro e w1 ⟨x, rfl, hx, d1⟩)
  go_wp2_with (go_at_call 57; refine (byte_can (h.draws d1)).mono ?_; rintro e w2 ⟨y, rfl, hy, d2⟩)
  go_wp2_with (go_at_call 57; refine (byte_can ((h.draws d1).draws d2)).mono ?_; rintro e w3 ⟨z, rfl, hz, d3⟩)
  go_wp2_with (go_at_call 57; refine (byte_can (((h.draws d1).draws d2).draws d3)).mono ?_; rintro e w4 ⟨u, rfl, hu, d4⟩)
  go_ret
  refine ⟨(x * 16777216 + y * 65536 + z * 256 + u) % m, ret_int ?_, Nat.mod_lt _ (by omega), ((d1.trans d2).trans d3).trans d4⟩
  rw [Int.natCast_emod]
  congr 1
theorem once_can {w : World} {c : Nat} {a : Option Addr} {n cap : Nat} (h : Can w c a n cap) (m : Nat) (hm : 1 ≤ m) (hm2 : m ≤ 1000000000) :
  Calls Tryz.prog 27 #[.pointer (some ⟨c, 0, none⟩), .int .i64 (m : Int)] w fun e w' => ∃ x : Bool, e = .returned (.bool x) ∧ Draws w w' c a n cap := by
 go_enter Tryz.func27, Tryz.ntmps27
 go_wp2_with (go_at_call 24; refine (below_can h m hm hm2).mono ?_; rintro e w1 ⟨x, rfl, hx, d1⟩)
 go_ret
 exact ⟨_, rfl, d1⟩
theorem Can.below {w w' : World} {c : Nat} {a : Option Addr} {n cap : Nat} (h : Can w c a n cap) (hb : Below (c + 1) w w') : Can w' c a n cap := by
 refine ⟨?_, ?_, h.small, h.lt⟩
 ·rcases h.code with h' | ⟨b, off, rfl, h'⟩
  ·exact .inl h'
  ·refine .inr ⟨b, off, rfl, fun i hi => ?_⟩
   obtain ⟨x, hx, hc⟩ := h' i hi
   have := h.lt _ rfl (by omega)
   exact ⟨x, hx, (hb.cell (p := ⟨b, _, none⟩) (by show b < c + 1; simp at this; omega)).trans hc⟩
 ·obtain ⟨i, g, hr, hi⟩ := h.cur
  exact ⟨i, g, hr.of_block (hb.block _ (by omega)), hi⟩
theorem below_of_grown {w w' : World} {c B : Nat} (h : w.grownBy w' (some c)) (hB : B ≤ c) (hs : B ≤ w.heap.size) : Below B w w' :=
 (Below.refl B w).grown h hs (fun k e => by cases e; exact hB)
theorem grown_app {w wr wr' : World} {c : Nat} {e : TypeId} {size k : Nat} {v : Value} {xs : List Value} (h : w.grownBy wr (some c)) (ho : wr.ownsRow w.heap.size e size v k xs) (hg : wr.grownBy wr' v.ownBlock) : w.grownBy wr' (some c) :=
 ⟨hg.os.trans h.os, hg.tape.trans h.tape, hg.output.trans h.output, Nat.le_trans h.size hg.size, fun j hj hne => (hg.block j (Nat.lt_of_lt_of_le hj h.size) (fun e => by have := (ho.lt j e.symm).1; omega)).trans (h.block j hj hne)⟩
theorem grown_alloc {w wr : World} {c : Nat} (h : w.grownBy wr (some c)) (o : Obj) : w.grownBy (wr.alloc o) (some c) :=
 ⟨h.os, h.tape, h.output, by simp; have := h.size; omega, fun j hj hne => (Below.heap_alloc wr o j (Nat.lt_of_lt_of_le hj h.size)).trans (h.block j hj hne)⟩
theorem own_draws {wr wr' : World} {c : Nat} {a : Option Addr} {n cap : Nat} {e : TypeId} {size k B : Nat} {v : Value} {xs : List Value} (ho : wr.ownsRow B e size v k xs) (hB : c < B) (hd : Draws wr wr' c a n cap) : wr'.ownsRow B e size v k xs :=
 ho.kept hd.grown (.inr fun e => by have := (ho.lt c e).1; omega)
theorem info5 : (Tryz.prog.info? 5).map (fun i => (i.zero, i.size, i.bytes)) = some (some (.int .u8 0), 1, 1) := by kernel_rfl
theorem own_empty5 (w : World) (b : Nat) (hb : b ≤ w.heap.size) : (w.alloc (.cells #[] 5)).ownsRow b 5 1 (.slice (some ⟨w.heap.size, 0, none⟩) 0 0) 0 (byteCells []) := World.ownsRow_made w #[] 0 hb (by decide) rfl
theorem byte_cell (x : Nat) (hx : x < 256) : [Value.int .u8 (x : Int)] = byteCells [UInt8.ofNat x] := by
 have : (UInt8.ofNat x).toNat = x := by simp [UInt8.toNat_ofNat']; omega
 rw [byteCells_one, this]
end Go.Proofs.YtcpmgellfaeejaaGreatDoor.dr
