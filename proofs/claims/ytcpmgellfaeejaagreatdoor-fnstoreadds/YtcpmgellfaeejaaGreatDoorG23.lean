import Derived.Test.YtcpmgellfaeejaaGreatDoorG22
import Derived.Test.YtcpmgellfaeejaaGreatDoorG21
import Derived.Test.YtcpmgellfaeejaaGreatDoorG19
import Derived.Test.YtcpmgellfaeejaaGreatDoorG02
import Derived.Maps.AppendAt
import Derived.Deep.Cut
import Derived.Deep.CutBlock
import Derived.Deep.CutRange
namespace Go.Proofs.YtcpmgellfaeejaaGreatDoor.so
open Go.ChangeShapes Go.WideShapes Go.ChangeAt Go.RowKit Go.Deep Go.Shelf Go.Maps
set_option linter.unusedVariables false
set_option linter.unusedSimpArgs false
def FdI (ps : List ty.It) (q : List UInt8) (r : Int) : Prop := (r = -1 ∧ ∀ (j : Nat) (z : ty.It), ps[j]? = some z → z.fPath.data.toList ≠ q) ∨ ∃ (i : Nat) (x : ty.It), r = (i : Int) ∧ ps[i]? = some x ∧ x.fPath.data.toList = q
noncomputable def newI (ps : List ty.It) (p fr : ByteArray) (t : List ty.Et) : ty.It := ⟨p, tt.tsB (enT t) t.length, (rf.rfs (enT t) t.length (pths ps ++ [p.data.toList])).map (fun l => ⟨l.toArray⟩), fr, t⟩
noncomputable def rkN (ps : List ty.It) (q : List UInt8) : Nat := (ps.takeWhile fun y => decide (y.fPath.data.toList < q)).length
noncomputable def insL (ps : List ty.It) (x : ty.It) : List ty.It := ps.take (rkN ps x.fPath.data.toList) ++ x :: ps.drop (rkN ps x.fPath.data.toList)
noncomputable def awB (ps : List ty.It) (p : ByteArray) : Bool := ps.any fun y => rf.inB (enT y.fTree) y.fTree.length (p.data.toList.take 13)
noncomputable def hadC (ps : List ty.It) (p su : ByteArray) : Int := if ((ps.find? fun x => decide (x.fPath.data.toList = p.data.toList)).map (fun x => x.fSum)) = some su then 1 else 2
noncomputable def addC (ps : List ty.It) (p : ByteArray) (t : List ty.Et) : Int := if hasB ps p = true then hadC ps p (tt.tsB (enT t) t.length) else if awB ps p = true then 3 else if ps.length = 300 then 4 else 0
noncomputable def addL (ps : List ty.It) (p fr : ByteArray) (t : List ty.Et) : List ty.It := if addC ps p t = 0 then insL ps (newI ps p fr t) else ps
noncomputable def aitB (ps : List ty.It) (p fr : ByteArray) (t : List ty.Et) : Bool := stB ps && (wd.aokB p && (frB fr && tt.treeB (enT t) t.length))
noncomputable def aitC (ps : List ty.It) (p fr : ByteArray) (t : List ty.Et) : Int := if aitB ps p fr t = true then addC ps p t else 5
noncomputable def aitL (ps : List ty.It) (p fr : ByteArray) (t : List ty.Et) : List ty.It := if aitB ps p fr t = true then addL ps p fr t else []
theorem RkI.rk {ps : List ty.It} {q : List UInt8} {J : Nat} (h : RkI ps q J) : rkN ps q = J := by
 unfold rkN
 have key : ∀ (l : List ty.It) (J : Nat), J ≤ l.length → (∀ (j : Nat) (y : ty.It), j < J → l[j]? = some y → y.fPath.data.toList < q) → (∀ (j : Nat) (y : ty.It), J ≤ j → l[j]? = some y → ¬ y.fPath.data.toList < q) → (l.takeWhile fun y => decide (y.fPath.data.toList < q)).length = J := by
  intro l
  induction l with
  | nil => intro J h1 h2 h3; simp at h1 ⊢; omega
  | cons a l ih =>
   intro J h1 h2 h3
   rcases J with _ | J
   ·have := h3 0 a (Nat.le_refl _) rfl
    rw [List.takeWhile_cons, if_neg (by simpa using this)]
    rfl
   ·have h4 := h2 0 a (by omega) rfl
    rw [List.takeWhile_cons, if_pos (by simpa using h4), List.length_cons, ih J (by simpa using h1) (fun j y hj hy => h2 (j + 1) y (by omega) (by simpa using hy)) (fun j y hj hy => h3 (j + 1) y (by omega) (by simpa using hy))]
 exact key ps J h.le h.lo h.hi
theorem has_fd {ps : List ty.It} {p : ByteArray} {i : Nat} {x : ty.It} (hx : ps[i]? = some x) (e : x.fPath.data.toList = p.data.toList) : hasB ps p = true := decide_eq_true (mem_pths.2 ⟨i, x, hx, e⟩)
theorem has_no {ps : List ty.It} {p : ByteArray} (h : ∀ (j : Nat) (z : ty.It), ps[j]? = some z → z.fPath.data.toList ≠ p.data.toList) : hasB ps p = false := decide_eq_false fun hm => by
 obtain ⟨i, x, hx, e⟩ := mem_pths.1 hm
 exact h i x hx e
theorem asc_one {ps : List ty.It} (ha : AscI ps) {i j : Nat} {x y : ty.It} (hx : ps[i]? = some x) (hy : ps[j]? = some y) (e : x.fPath.data.toList = y.fPath.data.toList) : i = j := by
 rcases Nat.lt_trichotomy i j with h | h | h
 ·have := ha j i y x h hx hy; rw [e] at this; exact absurd this (List.lt_irrefl _)
 ·exact h
 ·have := ha i j x y h hy hx; rw [e] at this; exact absurd this (List.lt_irrefl _)
theorem had_eq {ps : List ty.It} (ha : AscI ps) {p su : ByteArray} {i : Nat} {x : ty.It} (hx : ps[i]? = some x) (e : x.fPath.data.toList = p.data.toList) : hadC ps p su = if x.fSum = su then 1 else 2 := by
 unfold hadC
 have hf : (ps.find? fun x => decide (x.fPath.data.toList = p.data.toList)) = some x := by
  cases hq : ps.find? fun x => decide (x.fPath.data.toList = p.data.toList) with
  | none =>
   have := List.find?_eq_none.1 hq x (List.mem_of_getElem? hx)
   simp [e] at this
  | some y =>
   have h1 := List.find?_some hq
   have h2 := List.mem_of_find?_eq_some hq
   obtain ⟨j, hj⟩ := List.getElem?_of_mem h2
   have h3 : y.fPath.data.toList = p.data.toList := of_decide_eq_true h1
   have h4 := asc_one ha hx hj (e.trans h3.symm)
   subst h4
   rw [hx] at hj
   exact hj.symm
 rw [hf]
 simp only [Option.map_some, Option.some.injEq]
set_option maxRecDepth 100000 in
set_option maxHeartbeats 2000000 in
theorem sfindI_any (a : Option Addr) (c : Nat) (ps : List ty.It) (t : ByteArray) (w : World) (hb : ty.SrcIt none w a ps) (hn : ps.length ≤ 1048576) :
  Calls Tryz.prog 26 #[.slice a ps.length c, .string t] w fun e w' => (∃ r : Int, e = .returned (.int .i64 r) ∧ FdI ps t.data.toList r) ∧ w' = w := by
 have HB : Hid (ty.SrcIt none w a ps) := hb
 have HNO : Hid ((∀ (j : Nat) (z : ty.It), ps[j]? = some z → z.fPath.data.toList ≠ t.data.toList) → FdI ps t.data.toList (-1)) := fun h => .inl ⟨rfl, h⟩
 have HYE : Hid (∀ (i : Nat) (x : ty.It), ps[i]? = some x → x.fPath.data.toList = t.data.toList → FdI ps t.data.toList (i : Int)) := fun i x h1 h2 => .inr ⟨i, x, rfl, h1, h2⟩
 obtain ⟨n, hnn⟩ : ∃ n, ps.length = n := ⟨_, rfl⟩
 have HN : Hid (ps.length = n) := hnn
 rw [hnn] at hn ⊢
 clear hb hnn
 go_enter Tryz.func26, Tryz.ntmps26
 go_wp2
 go_loopw [5] (fun y wr => ∃ i : Nat, i ≤ n ∧ y = .int .i64 (i : Int) ∧ (∀ (j : Nat) (z : ty.It), j < i → ps[j]? = some z → z.fPath.data.toList ≠ t.data.toList) ∧ wr = w) (fun y _ => n - (intOf y).toNat)
 case atStart => exact ⟨0, Nat.zero_le _, rfl, fun j z h => by omega, rfl⟩
 case round =>
  obtain ⟨i, hi, rfl, hno, rfl⟩ := hrel
  have HA : Hid (∀ (j : Nat) (z : ty.It), j < i → ps[j]? = some z → z.fPath.data.toList ≠ t.data.toList) := hno
  clear hno
  by_cases hil : i < n
  ·have hil' : (i : Int) < (n : Int) := by omega
   have hi0 : (0 : Int) ≤ (i : Int) := by omega
   obtain ⟨x, hx⟩ : ∃ x, ps[i]? = some x := ⟨_, List.getElem?_eq_getElem (by rw [HN.out]; exact hil)⟩
   rcases HB.out with ⟨_, h⟩ | ⟨b, o, rfl, _, hc⟩
   ·rw [h] at hx; simp at hx
   obtain ⟨a2, c2, a4, c4, g0, g1, g2, g3, g4, _, _, _, _⟩ := hc i x hx
   have HX : Hid (ps[i]? = some x) := hx
   obtain ⟨P, hP⟩ : ∃ P, x.fPath = P := ⟨_, rfl⟩
   have HPP : Hid (x.fPath = P) := hP
   rw [hP] at g0
   generalize x.fRefs.length = m2 at *
   generalize x.fTree.length = m4 at *
   generalize x.fSum = q1 at *
   generalize x.fFrom = q3 at *
   clear hc hx hP g1 g2 g3 g4
   cases he : (P.toList == t.toList) with
   | true =>
    have HR : Hid (FdI ps t.data.toList (i : Int)) := HYE.out i x HX.out (by rw [HPP.out, ← ByteArray.toList_eq, ← ByteArray.toList_eq]; simpa using he)
    go_wp2
    go_ret
    exact ⟨⟨_, rfl, HR.out⟩, rfl⟩
   | false =>
    have HN2 : Hid (∀ (j : Nat) (z : ty.It), j < i + 1 → ps[j]? = some z → z.fPath.data.toList ≠ t.data.toList) := fun j z hj hz => by
     rcases Nat.lt_or_ge j i with h | h
     ·exact HA.out j z h hz
     ·obtain rfl : j = i := by omega
      rw [HX.out] at hz
      cases hz
      rw [HPP.out, ← ByteArray.toList_eq, ← ByteArray.toList_eq]
      simpa using he
    go_wp2
    go_roundw
    case rel => exact ⟨i + 1, by omega, by go_num, HN2.out, by first | rfl | trivial⟩
    case measure => simp [intOf] <;> omega
  ·have hil' : ¬ (i : Int) < (n : Int) := by omega
   have HF : Hid (FdI ps t.data.toList (-1)) := HNO.out fun j z hz => HA.out j z (by have := (List.getElem?_eq_some_iff.1 hz).1; have := HN.out; omega) hz
   go_wp2
   go_ret
   exact ⟨⟨_, rfl, HF.out⟩, rfl⟩
end Go.Proofs.YtcpmgellfaeejaaGreatDoor.so

namespace Go.Proofs.YtcpmgellfaeejaaGreatDoor.so
open Go.ChangeShapes Go.WideShapes Go.ChangeAt Go.RowKit Go.Deep Go.Shelf Go.Maps
set_option linter.unusedVariables false
set_option linter.unusedSimpArgs false
noncomputable def verA (ps : List ty.It) : List (List UInt8) := if ps.length ≤ 300 then misN ps ps.length else []
theorem app_str_at (w : World) {ops : Array Oper} {rest : List Oper} {o : Oper} {a : Act} {Q : Exit → Act → World → Prop} (hgd : o.guard = none) (s x : Operand)
  (ho : o.op = .call { callee := .builtin .append, args := #[s, x], argTypes := #[33, 33] })
  (base : Nat) (v : Value) (xs : List (List UInt8)) (hs : a.eval s = v) (hown : w.ownsRow base 9 1 v xs.length (xs.map sr.strL)) (hv : v ≠ .slice none 0 0)
  (ad : Addr) (m c : Nat) (ys : List (List UInt8)) (hx : a.eval x = .slice (some ad) m c) (hm : ys.length = m) (hnews : ∀ j u, (ys.map sr.strL)[j]? = some u → w.cell? (ad.add j) = some u) (hlen : xs.length + m ≤ 1000000) (hbase : base ≤ w.heap.size)
  (h : ∀ v' w', w'.ownsRow base 9 1 v' (xs ++ ys).length ((xs ++ ys).map sr.strL) → v' ≠ .slice none 0 0 → w.grownBy w' v.ownBlock → (v'.ownBlock = v.ownBlock ∨ v'.ownBlock = some w.heap.size) → wpList Tryz.prog ops Q rest (a.put o.dst v') w') : wpList Tryz.prog ops Q (o :: rest) a w := by
 obtain ⟨i0, hi, hz0, hz1, hz2⟩ := sr.info_parts sr.info9
 refine wpList_append_own_at w hgd s x 33 ho base 9 i0 _ 1 16 Tryz.underlying33 hi hz0 hz1 hz2 rfl (by omega) v xs.length (xs.map sr.strL) hs hown ad m c (ys.map sr.strL) hx (by simpa using hm) hnews (sr.strL_one _) (by unfold maxLen; omega) (by omega) hbase ?_
 intro v' w' h1 h2 h3 h4
 exact h _ _ (by rw [List.length_append, List.map_append, hm]; exact h1) (fun e => hv (h3.1 e).1) h2 h4
set_option maxRecDepth 100000 in
set_option maxHeartbeats 4000000 in
theorem iver_any (lo : Nat) (a : Option Addr) (c : Nat) (ps : List ty.It) (w : World) (hb : ty.SrcIt (some lo) w a ps) (hw : ty.wtIt ps ≤ 1048576) (hm : tt.ML w) (hT : wd.TabB w) :
  Calls Tryz.prog 12 #[.slice a ps.length c] w fun e w' => (∃ v, e = .returned v ∧ sr.OwnS w.heap.size w' v (verA ps)) ∧ Below w.heap.size w w' := by
 have hl0 := ty.wtIt_len ps
 by_cases h3 : ps.length ≤ 300
 ·have h3' : ¬ (300 : Int) < (ps.length : Int) := by omega
  have HMI : Hid (∀ W : World, W = w → Calls Tryz.prog 46 #[.slice a ps.length c] W fun e w' => (∃ v, e = .returned v ∧ sr.OwnS W.heap.size w' v (misN ps ps.length)) ∧ Below W.heap.size W w') := fun W h => by subst h; exact mis_any lo a c ps W hb hw (by omega) hm hT
  have HA : Hid (verA ps = misN ps ps.length) := by show _ = _; unfold verA; rw [if_pos h3]
  rw [HA.out]
  clear hb hm hT hw
  go_enter Tryz.func12, Tryz.ntmps12
  go_wp2_with (go_at_call 46; refine (HMI.out _ rfl).mono ?_; rintro e w2 ⟨⟨v, rfl, hv⟩, hl2⟩)
  go_ret
  exact ⟨⟨_, rfl, hv⟩, hl2⟩
 ·have h3' : (300 : Int) < (ps.length : Int) := by omega
  have HA : Hid (verA ps = []) := by show _ = _; unfold verA; rw [if_neg h3]
  have HN0 : Hid (sr.OwnS w.heap.size (w.alloc (.cells #[] 9)) (.slice (some ⟨w.heap.size, 0, none⟩) 0 0) []) := rf.nil_row w
  rw [HA.out]
  clear hb hm hT hw
  go_enter Tryz.func12, Tryz.ntmps12
  go_wp2
  go_ret
  exact ⟨⟨_, rfl, HN0.out⟩, (Below.refl _ _).alloc (Nat.le_refl _) _⟩
end Go.Proofs.YtcpmgellfaeejaaGreatDoor.so

namespace Go.Proofs.YtcpmgellfaeejaaGreatDoor.so
open Go.ChangeShapes Go.WideShapes Go.ChangeAt Go.RowKit Go.Deep Go.Shelf Go.Maps
set_option linter.unusedVariables false
set_option linter.unusedSimpArgs false
theorem rk_of {ps : List ty.It} (ha : AscI ps) (q : List UInt8) : RkI ps q (rkN ps q) := by
 have key : ∀ l : List ty.It, AscI l → (rkN l q ≤ l.length ∧ (∀ (j : Nat) (y : ty.It), j < rkN l q → l[j]? = some y → y.fPath.data.toList < q) ∧ ∀ (j : Nat) (y : ty.It), rkN l q ≤ j → l[j]? = some y → ¬ y.fPath.data.toList < q) := by
  intro l
  induction l with
  | nil => intro _; exact ⟨Nat.le_refl _, fun j y h hy => by simp at hy, fun j y h hy => by simp at hy⟩
  | cons b l ih =>
   intro hal
   have hal' : AscI l := fun i j x y hji hy hx => hal (i + 1) (j + 1) x y (by omega) (by simpa using hy) (by simpa using hx)
   obtain ⟨h1, h2, h3⟩ := ih hal'
   by_cases hb : b.fPath.data.toList < q
   ·have e : rkN (b :: l) q = rkN l q + 1 := by unfold rkN; rw [List.takeWhile_cons, if_pos (by simpa using hb)]; rfl
    rw [e]
    refine ⟨by simpa using h1, fun j y hj hy => ?_, fun j y hj hy => ?_⟩
    ·rcases j with _ | j
     ·cases hy; exact hb
     ·exact h2 j y (by omega) (by simpa using hy)
    ·rcases j with _ | j
     ·omega
     ·exact h3 j y (by omega) (by simpa using hy)
   ·have e : rkN (b :: l) q = 0 := by unfold rkN; rw [List.takeWhile_cons, if_neg (by simpa using hb)]; rfl
    rw [e]
    refine ⟨Nat.zero_le _, fun j y hj => by omega, fun j y _ hy hlt => ?_⟩
    rcases j with _ | j
    ·cases hy; exact hb hlt
    ·exact hb (List.lt_trans (hal (j + 1) 0 y b (by omega) rfl hy) hlt)
 obtain ⟨h1, h2, h3⟩ := key ps ha
 exact ⟨h1, h2, h3⟩
theorem aokL_eq (p : ByteArray) : sr.aokL p.data.toList = wd.aokB p := by unfold sr.aokL; rw [Array.toArray_toList]
theorem rfs_one {E : Nat → tt.En} {n : Nat} {p : ByteArray} (hp : wd.aokB p = true) : (0 < (rf.rfs E n [p.data.toList]).length) ↔ rf.inB E n (p.data.toList.take 13) = true := by
 rw [rf.rfs_spec, List.filter_cons_of_pos (by rw [aokL_eq]; exact hp), List.filter_nil]
 cases hv : rf.inB E n (p.data.toList.take 13) with
 | true => rw [List.filter_cons_of_pos (by simpa using hv), List.filter_nil]; simp [sr.fadd]
 | false => rw [List.filter_cons_of_neg (by simp [hv]), List.filter_nil]; simp
theorem app_it_at (w : World) {ops : Array Oper} {rest : List Oper} {o : Oper} {a : Act} {Q : Exit → Act → World → Prop} (hgd : o.guard = none) (s x : Operand)
  (ho : o.op = .call { callee := .builtin .append, args := #[s, x], argTypes := #[24, 24] })
  (base : Nat) (v : Value) (zs : List Iz) (hs : a.eval s = v) (hown : RwI base w v zs)
  (ad : Addr) (c : Nat) (z : Iz) (hx : a.eval x = .slice (some ad) 1 c) (hnews : ∀ j u, (izC z)[j]? = some u → w.cell? (ad.add j) = some u)
  (h63 : zs.length ≤ 400000000) (hbase : base ≤ w.heap.size)
  (h : ∀ v' w', RwI base w' v' (zs ++ [z]) → w.grownBy w' v.ownBlock → (v'.ownBlock = v.ownBlock ∨ v'.ownBlock = some w.heap.size) → wpList Tryz.prog ops Q rest (a.put o.dst v') w') : wpList Tryz.prog ops Q (o :: rest) a w := by
 obtain ⟨i, hi, hzz⟩ := Option.map_eq_some_iff.1 ty.infoIt
 simp only [Prod.mk.injEq] at hzz
 obtain ⟨hz, hsi, hb⟩ := hzz
 refine wpList_append_own_at w hgd s x 24 ho base 42 i _ 5 96 Tryz.underlying24 hi hz hsi hb rfl (by decide) v zs.length (itC zs) hs hown.own ad 1 c (izC z) hx rfl hnews (izC_one z) (by unfold maxLen; omega) (by omega) hbase (fun v' w' p q r r2 => h v' w' ⟨?_, fun e => hown.nn (r.1 e).1⟩ q r2)
 rw [itC_app, show itC [z] = izC z by rw [itC, itC, List.append_nil], List.length_append]
 exact p
def RdZa (w : World) (z : Iz) : Prop := RdT w z.a2 z.x.fRefs ∧ RdE w z.a4 z.x.fTree
theorem RdZa.below {w w' : World} {z : Iz} (h : RdZa w z) (hb : Below w.heap.size w w') : RdZa w' z := ⟨h.1.below hb, h.2.below hb⟩
def RdVa (w : World) (v : Value) (l : List ty.It) : Prop := ∃ a c, v = .slice a l.length c ∧ RdJ w a l
theorem rdva_of {base : Nat} {w : World} {v : Value} {zs : List Iz} (h : RwI base w v zs) (hz : ∀ (j : Nat) (z : Iz), zs[j]? = some z → RdZa w z) : RdVa w v (zs.map Iz.x) := by
 obtain ⟨g, c, rfl, _, _, _, hc⟩ := h.shape
 refine ⟨some ⟨g, 0, none⟩, c, by rw [List.length_map], fun i x hx => ?_⟩
 rw [List.getElem?_map] at hx
 cases hzi : zs[i]? with
 | none => rw [hzi] at hx; cases hx
 | some z =>
  rw [hzi] at hx
  cases hx
  have hcell : ∀ r (hr5 : r < 5) u, (izC z)[r]? = some u → w.cell? ⟨g, 0 + i * 5 + r, none⟩ = some u := fun r hr5 u hu => by
   rw [Nat.zero_add]
   exact hc (i * 5 + r) u (by rw [itC_at hzi r hr5]; exact hu)
  exact ⟨g, 0, z.a2, z.c2, z.a4, z.c4, rfl, ⟨hcell 0 (by omega) _ rfl, hcell 1 (by omega) _ rfl, hcell 2 (by omega) _ rfl, hcell 3 (by omega) _ rfl, hcell 4 (by omega) _ rfl⟩, (hz i z hzi).1, (hz i z hzi).2⟩
theorem rdva_st {lo : Nat} {w w' : World} {a : Option Addr} {c : Nat} {ps : List ty.It} (hb : ty.SrcIt (some lo) w a ps) (hB : Below w.heap.size w w') : RdVa w' (.slice a ps.length c) ps := ⟨a, c, rfl, RdJ.of (hb.below hB)⟩
structure KpB (W : World) (g0 : Nat) (wr : World) : Prop where
 sz : W.heap.size ≤ wr.heap.size
 bl : ∀ p, p < W.heap.size → p ≠ g0 → wr.heap[p]? = W.heap[p]?
theorem KpB.refl (W : World) (g0 : Nat) : KpB W g0 W := ⟨Nat.le_refl _, fun _ _ _ => rfl⟩
theorem KpB.below {W wr wr' : World} {g0 : Nat} (h : KpB W g0 wr) (hb : Below wr.heap.size wr wr') : KpB W g0 wr' := ⟨Nat.le_trans h.sz hb.size, fun p hp hn => (hb.block p (Nat.lt_of_lt_of_le hp h.sz)).trans (h.bl p hp hn)⟩
theorem KpB.grown {W wr wr' : World} {g0 g : Nat} (h : KpB W g0 wr) (hg : wr.grownBy wr' (some g)) (hgg : g = g0 ∨ W.heap.size ≤ g) : KpB W g0 wr' := ⟨Nat.le_trans h.sz hg.size, fun p hp hn => (hg.block p (Nat.lt_of_lt_of_le hp h.sz) (fun e => by have e := Option.some.inj e; rcases hgg with h | h <;> omega)).trans (h.bl p hp hn)⟩
theorem KpB.cell {W wr : World} {g0 b i : Nat} {v : Value} (h : KpB W g0 wr) (hn : b ≠ g0) (hc : W.cell? ⟨b, i, none⟩ = some v) : wr.cell? ⟨b, i, none⟩ = some v := (World.cell?_of_block (a := ⟨b, i, none⟩) (h.bl b (World.block_lt_of_cell? _ _ hc) hn)).trans hc
theorem KpB.texts {W wr : World} {g0 : Nat} {a : Option Addr} {l : List ByteArray} (h : KpB W g0 wr) (hE : ∀ j, W.cell? ⟨g0, j, none⟩ = none) (hR : RdT W a l) : RdT wr a l := by
 obtain ⟨b, o, e, hc⟩ := hR
 refine ⟨b, o, e, fun j y hy => h.cell (fun e2 => ?_) (hc j y hy)⟩
 subst e2
 have := hc j y hy
 rw [hE] at this
 cases this
end Go.Proofs.YtcpmgellfaeejaaGreatDoor.so
