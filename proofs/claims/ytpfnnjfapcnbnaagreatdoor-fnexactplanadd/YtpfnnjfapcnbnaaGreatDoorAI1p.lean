import Derived.Test.YtpfnnjfapcnbnaaGreatDoorWO1p
import Derived.Test.YtpfnnjfapcnbnaaGreatDoorIC2p
import Derived.Test.YtpfnnjfapcnbnaaGreatDoorST1p
import Derived.Maps.AppendAt
import Derived.Deep.Cut
import Derived.Deep.CutBlock
import Derived.Deep.CutRange
set_option linter.unusedVariables false
set_option linter.unusedSimpArgs false
set_option maxRecDepth 100000
set_option maxHeartbeats 16000000
namespace Go.Proofs.YtpfnnjfapcnbnaaGreatDoor.so
open Go.ChangeShapes Go.WideShapes Go.ChangeAt Go.RowKit Go.Deep Go.Shelf Go.Maps
def FdI (ps : List ty.It) (q : List UInt8) (r : Int) : Prop := (r = -1 ∧ ∀ (j : Nat) (z : ty.It), ps[j]? = some z → z.fPath.data.toList ≠ q) ∨ ∃ (i : Nat) (x : ty.It), r = (i : Int) ∧ ps[i]? = some x ∧ x.fPath.data.toList = q
noncomputable def newI (ps : List ty.It) (p fr : ByteArray) (t : List ty.Et) : ty.It := ⟨p, tt.tsB (enT t) t.length, (rf.rfs (enT t) t.length (pths ps ++ [p.data.toList])).map (fun l => ⟨l.toArray⟩), fr, t⟩
noncomputable def rkN (ps : List ty.It) (q : List UInt8) : Nat := (ps.takeWhile fun y => decide (y.fPath.data.toList < q)).length
noncomputable def insL (ps : List ty.It) (x : ty.It) : List ty.It := ps.take (rkN ps x.fPath.data.toList) ++ x :: ps.drop (rkN ps x.fPath.data.toList)
noncomputable def awB (ps : List ty.It) (p : ByteArray) : Bool := ps.any fun y => rf.inB (enT y.fTree) y.fTree.length (p.data.toList.take 13)
noncomputable def hadC (ps : List ty.It) (p su : ByteArray) : Int := if ((ps.find? fun x => decide (x.fPath.data.toList = p.data.toList)).map (fun x => x.fSum)) = some su then 1 else 2
noncomputable def addC (ps : List ty.It) (p : ByteArray) (t : List ty.Et) : Int := if hasB ps p = true then hadC ps p (tt.tsB (enT t) t.length) else if awB ps p = true then 3 else if ps.length = 300 then 4 else 0
noncomputable def addL (ps : List ty.It) (p fr : ByteArray) (t : List ty.Et) : List ty.It := if addC ps p t = 0 then insL ps (newI ps p fr t) else ps
theorem RkI.rk {ps : List ty.It} {q : List UInt8} {J : Nat} (h : RkI ps q J) : rkN ps q = J := by
 unfold rkN
 have key : ∀ (l : List ty.It) (J : Nat), J ≤ l.length → (∀ (j : Nat) (y : ty.It), j < J → l[j]? = some y → y.fPath.data.toList < q) → (∀ (j : Nat) (y : ty.It), J ≤ j → l[j]? = some y → ¬ y.fPath.data.toList < q) → (l.takeWhile fun y => decide (y.fPath.data.toList < q)).length = J := by
  intro l
  induction l with
  | nil => intro J h1 h2 h3; simp at h1 ⊢; omega
  | cons a l ih =>
   intro J h1 h2 h3
   rcases J with _ | J
   ·have := h3 0 a (Nat.le_refl _) rfl
    rw [List.takeWhile_cons, if_neg (by simpa using this)]
    rfl
   ·have h4 := h2 0 a (by omega) rfl
    rw [List.takeWhile_cons, if_pos (by simpa using h4), List.length_cons, ih J (by simpa using h1) (fun j y hj hy => h2 (j + 1) y (by omega) (by simpa using hy)) (fun j y hj hy => h3 (j + 1) y (by omega) (by simpa using hy))]
 exact key ps J h.le h.lo h.hi
theorem has_fd {ps : List ty.It} {p : ByteArray} {i : Nat} {x : ty.It} (hx : ps[i]? = some x) (e : x.fPath.data.toList = p.data.toList) : hasB ps p = true := decide_eq_true (mem_pths.2 ⟨i, x, hx, e⟩)
theorem has_no {ps : List ty.It} {p : ByteArray} (h : ∀ (j : Nat) (z : ty.It), ps[j]? = some z → z.fPath.data.toList ≠ p.data.toList) : hasB ps p = false := decide_eq_false fun hm => by
 obtain ⟨i, x, hx, e⟩ := mem_pths.1 hm
 exact h i x hx e
theorem asc_one {ps : List ty.It} (ha : AscI ps) {i j : Nat} {x y : ty.It} (hx : ps[i]? = some x) (hy : ps[j]? = some y) (e : x.fPath.data.toList = y.fPath.data.toList) : i = j := by
 rcases Nat.lt_trichotomy i j with h | h | h
 ·have := ha j i y x h hx hy; rw [e] at this; exact absurd this (List.lt_irrefl _)
 ·exact h
 ·have := ha i j x y h hy hx; rw [e] at this; exact absurd this (List.lt_irrefl _)
theorem had_eq {ps : List ty.It} (ha : AscI ps) {p su : ByteArray} {i : Nat} {x : ty.It} (hx : ps[i]? = some x) (e : x.fPath.data.toList = p.data.toList) : hadC ps p su = if x.fSum = su then 1 else 2 := by
 unfold hadC
 have hf : (ps.find? fun x => decide (x.fPath.data.toList = p.data.toList)) = some x := by
  cases hq : ps.find? fun x => decide (x.fPath.data.toList = p.data.toList) with
  | none =>
   have := List.find?_eq_none.1 hq x (List.mem_of_getElem? hx)
   simp [e] at this
  | some y =>
   have h1 := List.find?_some hq
   have h2 := List.mem_of_find?_eq_some hq
   obtain ⟨j, hj⟩ := List.getElem?_of_mem h2
   have h3 : y.fPath.data.toList = p.data.toList := of_decide_eq_true h1
   have h4 := asc_one ha hx hj (e.trans h3.symm)
   subst h4
   rw [hx] at hj
   exact hj.symm
 rw [hf]
 simp only [Option.map_some, Option.some.injEq]
theorem sfindI_any (a : Option Addr) (c : Nat) (ps : List ty.It) (t : ByteArray) (w : World) (hb : ty.SrcIt none w a ps) (hn : ps.length ≤ 1048576) :
  Calls Tryz.prog 36 #[.slice a ps.length c, .string t] w fun e w' => (∃ r : Int, e = .returned (.int .i64 r) ∧ FdI ps t.data.toList r) ∧ w' = w := by
 have HB : Hid (ty.SrcIt none w a ps) := hb
 have HNO : Hid ((∀ (j : Nat) (z : ty.It), ps[j]? = some z → z.fPath.data.toList ≠ t.data.toList) → FdI ps t.data.toList (-1)) := fun h => .inl ⟨rfl, h⟩
 have HYE : Hid (∀ (i : Nat) (x : ty.It), ps[i]? = some x → x.fPath.data.toList = t.data.toList → FdI ps t.data.toList (i : Int)) := fun i x h1 h2 => .inr ⟨i, x, rfl, h1, h2⟩
 obtain ⟨n, hnn⟩ : ∃ n, ps.length = n := ⟨_, rfl⟩
 have HN : Hid (ps.length = n) := hnn
 rw [hnn] at hn ⊢
 clear hb hnn
 go_enter Tryz.func36, Tryz.ntmps36
 go_wp2
 go_loopw [5] (fun y wr => ∃ i : Nat, i ≤ n ∧ y = .int .i64 (i : Int) ∧ (∀ (j : Nat) (z : ty.It), j < i → ps[j]? = some z → z.fPath.data.toList ≠ t.data.toList) ∧ wr = w) (fun y _ => n - (intOf y).toNat)
 case atStart => exact ⟨0, Nat.zero_le _, rfl, fun j z h => by omega, rfl⟩
 case round =>
  obtain ⟨i, hi, rfl, hno, rfl⟩ := hrel
  have HA : Hid (∀ (j : Nat) (z : ty.It), j < i → ps[j]? = some z → z.fPath.data.toList ≠ t.data.toList) := hno
  clear hno
  by_cases hil : i < n
  ·have hil' : (i : Int) < (n : Int) := by omega
   have hi0 : (0 : Int) ≤ (i : Int) := by omega
   obtain ⟨x, hx⟩ : ∃ x, ps[i]? = some x := ⟨_, List.getElem?_eq_getElem (by rw [HN.out]; exact hil)⟩
   rcases HB.out with ⟨_, h⟩ | ⟨b, o, rfl, _, hc⟩
   ·rw [h] at hx; simp at hx
   obtain ⟨a2, c2, a4, c4, g0, g1, g2, g3, g4, _, _, _, _⟩ := hc i x hx
   have HX : Hid (ps[i]? = some x) := hx
   obtain ⟨P, hP⟩ : ∃ P, x.fPath = P := ⟨_, rfl⟩
   have HPP : Hid (x.fPath = P) := hP
   rw [hP] at g0
   generalize x.fRefs.length = m2 at *
   generalize x.fTree.length = m4 at *
   generalize x.fSum = q1 at *
   generalize x.fFrom = q3 at *
   clear hc hx hP g1 g2 g3 g4
   cases he : (P.toList == t.toList) with
   | true =>
    have HR : Hid (FdI ps t.data.toList (i : Int)) := HYE.out i x HX.out (by rw [HPP.out, ← ByteArray.toList_eq, ← ByteArray.toList_eq]; simpa using he)
    go_wp2
    go_ret
    exact ⟨⟨_, rfl, HR.out⟩, rfl⟩
   | false =>
    have HN2 : Hid (∀ (j : Nat) (z : ty.It), j < i + 1 → ps[j]? = some z → z.fPath.data.toList ≠ t.data.toList) := fun j z hj hz => by
     rcases Nat.lt_or_ge j i with h | h
     ·exact HA.out j z h hz
     ·obtain rfl : j = i := by omega
      rw [HX.out] at hz
      cases hz
      rw [HPP.out, ← ByteArray.toList_eq, ← ByteArray.toList_eq]
      simpa using he
    go_wp2
    go_roundw
    case rel => exact ⟨i + 1, by omega, by go_num, HN2.out, by first | rfl | trivial⟩
    case measure => simp [intOf] <;> omega
  ·have hil' : ¬ (i : Int) < (n : Int) := by omega
   have HF : Hid (FdI ps t.data.toList (-1)) := HNO.out fun j z hz => HA.out j z (by have := (List.getElem?_eq_some_iff.1 hz).1; have := HN.out; omega) hz
   go_wp2
   go_ret
   exact ⟨⟨_, rfl, HF.out⟩, rfl⟩
theorem app_str_at (w : World) {ops : Array Oper} {rest : List Oper} {o : Oper} {a : Act} {Q : Exit → Act → World → Prop} (hgd : o.guard = none) (s x : Operand)
  (ho : o.op = .call { callee := .builtin .append, args := #[s, x], argTypes := #[85, 85] })
  (base : Nat) (v : Value) (xs : List (List UInt8)) (hs : a.eval s = v) (hown : w.ownsRow base 9 1 v xs.length (xs.map sr.strL)) (hv : v ≠ .slice none 0 0)
  (ad : Addr) (m c : Nat) (ys : List (List UInt8)) (hx : a.eval x = .slice (some ad) m c) (hm : ys.length = m) (hnews : ∀ j u, (ys.map sr.strL)[j]? = some u → w.cell? (ad.add j) = some u) (hlen : xs.length + m ≤ 1000000) (hbase : base ≤ w.heap.size)
  (h : ∀ v' w', w'.ownsRow base 9 1 v' (xs ++ ys).length ((xs ++ ys).map sr.strL) → v' ≠ .slice none 0 0 → w.grownBy w' v.ownBlock → (v'.ownBlock = v.ownBlock ∨ v'.ownBlock = some w.heap.size) → wpList Tryz.prog ops Q rest (a.put o.dst v') w') : wpList Tryz.prog ops Q (o :: rest) a w := by
 obtain ⟨i0, hi, hz0, hz1, hz2⟩ := sr.info_parts sr.info9
 refine wpList_append_own_at w hgd s x 85 ho base 9 i0 _ 1 16 Tryz.underlying85 hi hz0 hz1 hz2 rfl (by omega) v xs.length (xs.map sr.strL) hs hown ad m c (ys.map sr.strL) hx (by simpa using hm) hnews (sr.strL_one _) (by unfold maxLen; omega) (by omega) hbase ?_
 intro v' w' h1 h2 h3 h4
 exact h _ _ (by rw [List.length_append, List.map_append, hm]; exact h1) (fun e => hv (h3.1 e).1) h2 h4
theorem rk_of {ps : List ty.It} (ha : AscI ps) (q : List UInt8) : RkI ps q (rkN ps q) := by
 have key : ∀ l : List ty.It, AscI l → (rkN l q ≤ l.length ∧ (∀ (j : Nat) (y : ty.It), j < rkN l q → l[j]? = some y → y.fPath.data.toList < q) ∧ ∀ (j : Nat) (y : ty.It), rkN l q ≤ j → l[j]? = some y → ¬ y.fPath.data.toList < q) := by
  intro l
  induction l with
  | nil => intro _; exact ⟨Nat.le_refl _, fun j y h hy => by simp at hy, fun j y h hy => by simp at hy⟩
  | cons b l ih =>
   intro hal
   have hal' : AscI l := fun i j x y hji hy hx => hal (i + 1) (j + 1) x y (by omega) (by simpa using hy) (by simpa using hx)
   obtain ⟨h1, h2, h3⟩ := ih hal'
   by_cases hb : b.fPath.data.toList < q
   ·have e : rkN (b :: l) q = rkN l q + 1 := by unfold rkN; rw [List.takeWhile_cons, if_pos (by simpa using hb)]; rfl
    rw [e]
    refine ⟨by simpa using h1, fun j y hj hy => ?_, fun j y hj hy => ?_⟩
    ·rcases j with _ | j
     ·cases hy; exact hb
     ·exact h2 j y (by omega) (by simpa using hy)
    ·rcases j with _ | j
     ·omega
     ·exact h3 j y (by omega) (by simpa using hy)
   ·have e : rkN (b :: l) q = 0 := by unfold rkN; rw [List.takeWhile_cons, if_neg (by simpa using hb)]; rfl
    rw [e]
    refine ⟨Nat.zero_le _, fun j y hj => by omega, fun j y _ hy hlt => ?_⟩
    rcases j with _ | j
    ·cases hy; exact hb hlt
    ·exact hb (List.lt_trans (hal (j + 1) 0 y b (by omega) rfl hy) hlt)
 obtain ⟨h1, h2, h3⟩ := key ps ha
 exact ⟨h1, h2, h3⟩
theorem aokL_eq (p : ByteArray) : sr.aokL p.data.toList = wd.aokB p := by unfold sr.aokL; rw [Array.toArray_toList]
theorem rfs_one {E : Nat → tt.En} {n : Nat} {p : ByteArray} (hp : wd.aokB p = true) : (0 < (rf.rfs E n [p.data.toList]).length) ↔ rf.inB E n (p.data.toList.take 13) = true := by
 rw [rf.rfs_spec, List.filter_cons_of_pos (by rw [aokL_eq]; exact hp), List.filter_nil]
 cases hv : rf.inB E n (p.data.toList.take 13) with
 | true => rw [List.filter_cons_of_pos (by simpa using hv), List.filter_nil]; simp [sr.fadd]
 | false => rw [List.filter_cons_of_neg (by simp [hv]), List.filter_nil]; simp
theorem app_it_at (w : World) {ops : Array Oper} {rest : List Oper} {o : Oper} {a : Act} {Q : Exit → Act → World → Prop} (hgd : o.guard = none) (s x : Operand)
  (ho : o.op = .call { callee := .builtin .append, args := #[s, x], argTypes := #[30, 30] })
  (base : Nat) (v : Value) (zs : List Iz) (hs : a.eval s = v) (hown : RwI base w v zs)
  (ad : Addr) (c : Nat) (z : Iz) (hx : a.eval x = .slice (some ad) 1 c) (hnews : ∀ j u, (izC z)[j]? = some u → w.cell? (ad.add j) = some u)
  (h63 : zs.length ≤ 400000000) (hbase : base ≤ w.heap.size)
  (h : ∀ v' w', RwI base w' v' (zs ++ [z]) → w.grownBy w' v.ownBlock → (v'.ownBlock = v.ownBlock ∨ v'.ownBlock = some w.heap.size) → wpList Tryz.prog ops Q rest (a.put o.dst v') w') : wpList Tryz.prog ops Q (o :: rest) a w := by
 obtain ⟨i, hi, hzz⟩ := Option.map_eq_some_iff.1 ty.infoIt
 simp only [Prod.mk.injEq] at hzz
 obtain ⟨hz, hsi, hb⟩ := hzz
 refine wpList_append_own_at w hgd s x 30 ho base 94 i _ 5 96 Tryz.underlying30 hi hz hsi hb rfl (by decide) v zs.length (itC zs) hs hown.own ad 1 c (izC z) hx rfl hnews (izC_one z) (by unfold maxLen; omega) (by omega) hbase (fun v' w' p q r r2 => h v' w' ⟨?_, fun e => hown.nn (r.1 e).1⟩ q r2)
 rw [itC_app, show itC [z] = izC z by rw [itC, itC, List.append_nil], List.length_append]
 exact p
def RdZa (w : World) (z : Iz) : Prop := RdT w z.a2 z.x.fRefs ∧ RdE w z.a4 z.x.fTree
theorem RdZa.below {w w' : World} {z : Iz} (h : RdZa w z) (hb : Below w.heap.size w w') : RdZa w' z := ⟨h.1.below hb, h.2.below hb⟩
def RdVa (w : World) (v : Value) (l : List ty.It) : Prop := ∃ a c, v = .slice a l.length c ∧ RdJ w a l
theorem rdva_of {base : Nat} {w : World} {v : Value} {zs : List Iz} (h : RwI base w v zs) (hz : ∀ (j : Nat) (z : Iz), zs[j]? = some z → RdZa w z) : RdVa w v (zs.map Iz.x) := by
 obtain ⟨g, c, rfl, _, _, _, hc⟩ := h.shape
 refine ⟨some ⟨g, 0, none⟩, c, by rw [List.length_map], fun i x hx => ?_⟩
 rw [List.getElem?_map] at hx
 cases hzi : zs[i]? with
 | none => rw [hzi] at hx; cases hx
 | some z =>
  rw [hzi] at hx
  cases hx
  have hcell : ∀ r (hr5 : r < 5) u, (izC z)[r]? = some u → w.cell? ⟨g, 0 + i * 5 + r, none⟩ = some u := fun r hr5 u hu => by
   rw [Nat.zero_add]
   exact hc (i * 5 + r) u (by rw [itC_at hzi r hr5]; exact hu)
  exact ⟨g, 0, z.a2, z.c2, z.a4, z.c4, rfl, ⟨hcell 0 (by omega) _ rfl, hcell 1 (by omega) _ rfl, hcell 2 (by omega) _ rfl, hcell 3 (by omega) _ rfl, hcell 4 (by omega) _ rfl⟩, (hz i z hzi).1, (hz i z hzi).2⟩
theorem rdva_st {lo : Nat} {w w' : World} {a : Option Addr} {c : Nat} {ps : List ty.It} (hb : ty.SrcIt (some lo) w a ps) (hB : Below w.heap.size w w') : RdVa w' (.slice a ps.length c) ps := ⟨a, c, rfl, RdJ.of (hb.below hB)⟩
structure KpB (W : World) (g0 : Nat) (wr : World) : Prop where
 sz : W.heap.size ≤ wr.heap.size
 bl : ∀ p, p < W.heap.size → p ≠ g0 → wr.heap[p]? = W.heap[p]?
theorem KpB.refl (W : World) (g0 : Nat) : KpB W g0 W := ⟨Nat.le_refl _, fun _ _ _ => rfl⟩
theorem KpB.below {W wr wr' : World} {g0 : Nat} (h : KpB W g0 wr) (hb : Below wr.heap.size wr wr') : KpB W g0 wr' := ⟨Nat.le_trans h.sz hb.size, fun p hp hn => (hb.block p (Nat.lt_of_lt_of_le hp h.sz)).trans (h.bl p hp hn)⟩
theorem KpB.grown {W wr wr' : World} {g0 g : Nat} (h : KpB W g0 wr) (hg : wr.grownBy wr' (some g)) (hgg : g = g0 ∨ W.heap.size ≤ g) : KpB W g0 wr' := ⟨Nat.le_trans h.sz hg.size, fun p hp hn => (hg.block p (Nat.lt_of_lt_of_le hp h.sz) (fun e => by have e := Option.some.inj e; rcases hgg with h | h <;> omega)).trans (h.bl p hp hn)⟩
theorem KpB.cell {W wr : World} {g0 b i : Nat} {v : Value} (h : KpB W g0 wr) (hn : b ≠ g0) (hc : W.cell? ⟨b, i, none⟩ = some v) : wr.cell? ⟨b, i, none⟩ = some v := (World.cell?_of_block (a := ⟨b, i, none⟩) (h.bl b (World.block_lt_of_cell? _ _ hc) hn)).trans hc
theorem KpB.texts {W wr : World} {g0 : Nat} {a : Option Addr} {l : List ByteArray} (h : KpB W g0 wr) (hE : ∀ j, W.cell? ⟨g0, j, none⟩ = none) (hR : RdT W a l) : RdT wr a l := by
 obtain ⟨b, o, e, hc⟩ := hR
 refine ⟨b, o, e, fun j y hy => h.cell (fun e2 => ?_) (hc j y hy)⟩
 subst e2
 have := hc j y hy
 rw [hE] at this
 cases this
noncomputable def insP (ps : List ty.It) (x : ty.It) (K i : Nat) : List ty.It := if i ≤ K then ps.take i else ps.take K ++ x :: (ps.drop K).take (i - K)
theorem insP_le {ps : List ty.It} {x : ty.It} {K i : Nat} (h : i ≤ K) : insP ps x K i = ps.take i := by unfold insP; rw [if_pos h]
theorem insP_step {ps : List ty.It} {x y : ty.It} {K i : Nat} (h : i < K) (hy : ps[i]? = some y) : insP ps x K (i + 1) = insP ps x K i ++ [y] := by
 rw [insP_le (by omega), insP_le (by omega), List.take_add_one, hy]; rfl
theorem insP_at {ps : List ty.It} {x y : ty.It} {K : Nat} (hy : ps[K]? = some y) : insP ps x K (K + 1) = insP ps x K K ++ [x] ++ [y] := by
 rw [insP_le (Nat.le_refl K)]
 unfold insP
 rw [if_neg (by omega), show K + 1 - K = 0 + 1 by omega, List.take_add_one, List.take_zero, List.getElem?_drop, Nat.add_zero, hy]
 simp
theorem insP_more {ps : List ty.It} {x y : ty.It} {K i : Nat} (h : K < i) (hy : ps[i]? = some y) : insP ps x K (i + 1) = insP ps x K i ++ [y] := by
 unfold insP
 rw [if_neg (by omega), if_neg (by omega), show i + 1 - K = (i - K) + 1 by omega, List.take_add_one, List.getElem?_drop, show K + (i - K) = i by omega, hy]
 simp
theorem insP_end {ps : List ty.It} {x : ty.It} {K : Nat} (h : K < ps.length) : insP ps x K ps.length = ps.take K ++ x :: ps.drop K := by
 unfold insP
 rw [if_neg (by omega)]
 have e : (ps.drop K).take (ps.length - K) = ps.drop K := List.take_of_length_le (by rw [List.length_drop]; omega)
 rw [e]
theorem insP_last {ps : List ty.It} {x : ty.It} {K : Nat} (h : ps.length ≤ K) : insP ps x K ps.length ++ [x] = ps.take K ++ x :: ps.drop K := by
 rw [insP_le h, List.take_length, List.take_of_length_le h, List.drop_eq_nil_of_le h]
theorem add_had {ps : List ty.It} (ha : AscI ps) {p fr : ByteArray} {t : List ty.Et} {i : Nat} {x : ty.It} (hx : ps[i]? = some x) (e : x.fPath.data.toList = p.data.toList) : (addC ps p t = if x.fSum = tt.tsB (enT t) t.length then 1 else 2) ∧ addL ps p fr t = ps := by
 have h1 : addC ps p t = if x.fSum = tt.tsB (enT t) t.length then 1 else 2 := by unfold addC; rw [if_pos (has_fd hx e), had_eq ha hx e]
 refine ⟨h1, ?_⟩
 unfold addL
 rw [if_neg (by rw [h1]; split <;> decide)]
theorem add_aw {ps : List ty.It} {p fr : ByteArray} {t : List ty.Et} (hno : ∀ (j : Nat) (z : ty.It), ps[j]? = some z → z.fPath.data.toList ≠ p.data.toList) {i : Nat} {x : ty.It} (hx : ps[i]? = some x) (h : rf.inB (enT x.fTree) x.fTree.length (p.data.toList.take 13) = true) : addC ps p t = 3 ∧ addL ps p fr t = ps := by
 have h1 : addC ps p t = 3 := by unfold addC; rw [if_neg (by rw [has_no hno]; decide), if_pos (show awB ps p = true from List.any_eq_true.2 ⟨x, List.mem_of_getElem? hx, h⟩)]
 refine ⟨h1, ?_⟩
 unfold addL
 rw [if_neg (by rw [h1]; decide)]
theorem aw_no {ps : List ty.It} {p : ByteArray} (h : ∀ (j : Nat) (z : ty.It), ps[j]? = some z → rf.inB (enT z.fTree) z.fTree.length (p.data.toList.take 13) = false) : awB ps p = false := by
 unfold awB
 rw [List.any_eq_false]
 intro y hy
 obtain ⟨j, hj⟩ := List.getElem?_of_mem hy
 rw [h j y hj]
 decide
theorem add_full {ps : List ty.It} {p fr : ByteArray} {t : List ty.Et} (hno : ∀ (j : Nat) (z : ty.It), ps[j]? = some z → z.fPath.data.toList ≠ p.data.toList) (haw : awB ps p = false) (hn : ps.length = 300) : addC ps p t = 4 ∧ addL ps p fr t = ps := by
 have h1 : addC ps p t = 4 := by unfold addC; rw [if_neg (by rw [has_no hno]; decide), if_neg (by rw [haw]; decide), if_pos hn]
 refine ⟨h1, ?_⟩
 unfold addL
 rw [if_neg (by rw [h1]; decide)]
theorem add_yes {ps : List ty.It} {p fr : ByteArray} {t : List ty.Et} (hno : ∀ (j : Nat) (z : ty.It), ps[j]? = some z → z.fPath.data.toList ≠ p.data.toList) (haw : awB ps p = false) (hn : ps.length ≠ 300) : addC ps p t = 0 ∧ addL ps p fr t = insL ps (newI ps p fr t) := by
 have h1 : addC ps p t = 0 := by unfold addC; rw [if_neg (by rw [has_no hno]; decide), if_neg (by rw [haw]; decide), if_neg hn]
 refine ⟨h1, ?_⟩
 unfold addL
 rw [if_pos h1]
structure OtR (w W7 : World) (g0 : Nat) (wr : World) (v : Value) (zs : List Iz) : Prop where
 row : RwI w.heap.size wr v zs
 blk : ∃ g, v.ownBlock = some g ∧ (g = g0 ∨ W7.heap.size ≤ g)
 kp : KpB W7 g0 wr
 be : Below w.heap.size w wr
theorem OtR.below {w W7 wr wr' : World} {g0 : Nat} {v : Value} {zs : List Iz} (h : OtR w W7 g0 wr v zs) (hb : Below wr.heap.size wr wr') : OtR w W7 g0 wr' v zs := ⟨h.row.below hb, h.blk, h.kp.below hb, h.be.trans (hb.mono h.be.size)⟩
theorem OtR.app {w W7 wr wr' : World} {g0 : Nat} {v v' : Value} {zs zs' : List Iz} (h : OtR w W7 g0 wr v zs) (hr : RwI w.heap.size wr' v' zs') (hg : wr.grownBy wr' v.ownBlock) (hb : v'.ownBlock = v.ownBlock ∨ v'.ownBlock = some wr.heap.size) : OtR w W7 g0 wr' v' zs' := by
 obtain ⟨g, e, hgg⟩ := h.blk
 have be' : Below w.heap.size w wr' := below_grownS h.be h.row.own hg h.be.size
 rw [e] at hg hb
 refine ⟨hr, ?_, h.kp.grown hg hgg, be'⟩
 rcases hb with hb | hb
 ·exact ⟨g, hb, hgg⟩
 ·exact ⟨_, hb, .inr h.kp.sz⟩
theorem strL_of (p : ByteArray) : sr.strL p.data.toList = .string p := by unfold sr.strL; rw [Array.toArray_toList]
theorem empty_cells {w : World} {g t : Nat} (h : w.heap[g]? = some (.cells #[] t (0, 0))) (j : Nat) : w.cell? ⟨g, j, none⟩ = none := by simp [World.cell?, h]
theorem l12a_any (lo lo2 : Nat) (a a2 : Option Addr) (c : Nat) (ps : List ty.It) (p fr : ByteArray) (t : List ty.Et) (w : World) (hb : ty.SrcIt (some lo) w a ps) (hw : ty.wtIt ps ≤ 1048576) (ht : ty.SrcEt (some lo2) w a2 t) (hwt : ty.wtEt t ≤ 1048576) (hst : stB ps = true) (hp : wd.aokB p = true) (hpz : p.size ≤ 1048576) :
  Calls Tryz.prog 51 #[.slice a ps.length c, .string p, .slice a2 t.length t.length, .string fr] w fun e w' => (∃ v, e = .returned (.tuple #[v, .int .i64 (addC ps p t)]) ∧ RdVa w' v (addL ps p fr t)) ∧ Below w.heap.size w w' := by
 have ha : AscI ps := fun i j x y hji hy hx => asc_lt (st_facts hst).2 i j x y hji hy hx
 have hn3 : ps.length ≤ 300 := (st_facts hst).1
 have htl : t.length ≤ 1048576 := by have := ty.wtEt_len t; omega
 obtain ⟨tb, to_, rfl, htc⟩ : ∃ tb to_, a2 = some ⟨tb, to_, none⟩ ∧ ∀ (i : Nat) (x : ty.Et), t[i]? = some x → ty.CEt (some lo2) w tb (to_ + i * 4) x := by
  rcases ht with h | ⟨b, o, e, _, hc⟩
  ·cases h.1
  ·exact ⟨b, o, e, hc⟩
 have hR : tt.EnR w tb to_ t.length (enT t) := src_enr htc
 have HRE : Hid (RdE w (some ⟨tb, to_, none⟩) t) := ⟨tb, to_, rfl, fun j y hy => (htc j y hy).any⟩
 have HSU : Hid (Calls Tryz.prog 108 #[.slice (some ⟨tb, to_, none⟩) t.length t.length] w fun e w' => e = .returned (.string (tt.tsB (enT t) t.length)) ∧ Below w.heap.size w w') := tt.stsum_any (enT t) tb to_ t.length t.length w hR (small_enr hwt) htl (Nat.le_refl _) (by unfold maxLen; omega)
 have HFI : Hid (∀ W, Below w.heap.size w W → Calls Tryz.prog 36 #[.slice a ps.length c, .string p] W fun e w' => (∃ r : Int, e = .returned (.int .i64 r) ∧ FdI ps p.data.toList r) ∧ w' = W) := fun W h => sfindI_any a c ps p W (hb.any.below h) (by omega)
 have HPT : Hid (∀ W, Below w.heap.size w W → Calls Tryz.prog 76 #[.slice a ps.length c] W fun e w' => (∃ v, e = .returned v ∧ sr.OwnS W.heap.size w' v (pths ps)) ∧ Below W.heap.size W w') := fun W h => spaths_any a c ps W (hb.any.below h) (by omega)
 have HPL : Hid ((pths ps).length = ps.length) := pths_len ps
 have HPS : Hid (∀ y ∈ pths ps ++ [p.data.toList], y.length ≤ 1048576) := fun y hy => by
  rcases List.mem_append.1 hy with h | h
  ·obtain ⟨i, x, hx, e⟩ := mem_pths.1 h
   have h1 := ty.wtIt_mem (List.mem_of_getElem? hx)
   unfold ty.wt1It at h1
   have e2 : x.fPath.data.toList.length = x.fPath.size := Array.length_toList
   rw [← e]
   omega
  ·simp only [List.mem_singleton] at h
   subst h
   have e2 : p.data.toList.length = p.size := Array.length_toList
   omega
 have HRN : Hid (∀ W v, Below w.heap.size w W → sr.StrR W v (pths ps ++ [p.data.toList]) → Calls Tryz.prog 109 #[.slice (some ⟨tb, to_, none⟩) t.length t.length, v] W fun e w' => (∃ v', e = .returned v' ∧ sr.StrR w' v' (rf.rfs (enT t) t.length (pths ps ++ [p.data.toList]))) ∧ Below W.heap.size W w') := fun W v h hv => by
  obtain ⟨bb, off, cap, rfl, _, _, hc⟩ := hv
  exact rf.srefs_any (enT t) tb to_ t.length t.length _ bb off cap W (hR.below h) (small_enr hwt) htl hc HPS.out (by rw [List.length_append, HPL.out]; simp; omega)
 have HIT : Hid (∀ (i : Nat) (x : ty.It), ps[i]? = some x → ∃ b o a3 c3 xb xo, a = some ⟨b, o, none⟩ ∧ (∀ W, Below w.heap.size w W → (W.cell? ⟨b, o + i * 5, none⟩ = some (.string x.fPath) ∧ W.cell? ⟨b, o + i * 5 + 1, none⟩ = some (.string x.fSum) ∧ W.cell? ⟨b, o + i * 5 + 2, none⟩ = some (.slice a3 x.fRefs.length c3) ∧ W.cell? ⟨b, o + i * 5 + 3, none⟩ = some (.string x.fFrom) ∧ W.cell? ⟨b, o + i * 5 + 4, none⟩ = some (.slice (some ⟨xb, xo, none⟩) x.fTree.length x.fTree.length))) ∧ (RdT w a3 x.fRefs ∧ RdE w (some ⟨xb, xo, none⟩) x.fTree) ∧ ∀ W, Below w.heap.size w W → Calls Tryz.prog 109 #[.slice (some ⟨xb, xo, none⟩) x.fTree.length x.fTree.length, .slice (some ⟨W.heap.size, 0, none⟩) 1 1] (W.alloc (.cells #[.string p] 9)) fun e w' => (∃ bb off L rc, e = .returned (.slice (some ⟨bb, off, none⟩) L rc) ∧ (0 < L ↔ rf.inB (enT x.fTree) x.fTree.length (p.data.toList.take 13) = true)) ∧ Below (W.alloc (.cells #[.string p] 9)).heap.size (W.alloc (.cells #[.string p] 9)) w') := fun i x hx => by
  rcases hb with h | ⟨b, o, rfl, _, hc⟩
  ·cases h.1
  obtain ⟨a3, c3, a4, c4, q0, q1, q2, q3, q4, s2, s4, _, t4⟩ := hc i x hx
  have e4 := t4 lo rfl
  subst e4
  rcases s4 with h | ⟨xb, xo, rfl, _, hxc⟩
  ·cases h.1
  have hwx := ty.wtIt_mem (List.mem_of_getElem? hx)
  unfold ty.wt1It at hwx
  have hxl : x.fTree.length ≤ 1048576 := by have := ty.wtEt_len x.fTree; omega
  refine ⟨b, o, a3, c3, xb, xo, rfl, fun W h => ?_, ⟨?_, ⟨xb, xo, rfl, fun j y hy => (hxc j y hy).any⟩⟩, fun W h => ?_⟩
  ·have k : ∀ {r v}, w.cell? ⟨b, r, none⟩ = some v → W.cell? ⟨b, r, none⟩ = some v := fun {r v} h' => (h.cell (p := ⟨b, r, none⟩) (World.block_lt_of_cell? _ _ h')).trans h'
   exact ⟨k q0, k q1, k q2, k q3, k q4⟩
  ·rcases s2 with h | ⟨b2, o2, rfl, _, hc2⟩
   ·cases h.1
   ·exact ⟨b2, o2, rfl, hc2⟩
  ·have hA : Below w.heap.size w (W.alloc (.cells #[.string p] 9)) := h.alloc h.size _
   refine (rf.srefs_any (enT x.fTree) xb xo x.fTree.length x.fTree.length [p.data.toList] W.heap.size 0 1 (W.alloc (.cells #[.string p] 9)) ((src_enr hxc).below hA) (small_enr (by omega)) hxl (fun j y hy => ?_) (fun y hy => ?_) (by simp)).mono ?_
   ·match j, hy with
    | 0, hy => cases hy; simp [go_sem, sr.strL]
    | j + 1, hy => simp at hy
   ·simp only [List.mem_singleton] at hy
    subst hy
    have e2 : p.data.toList.length = p.size := Array.length_toList
    omega
   ·rintro e w' ⟨⟨v, rfl, bb, off, rc, rfl, _⟩, hl⟩
    exact ⟨⟨bb, off, _, rc, rfl, rfs_one hp⟩, hl⟩
 have HST : Hid (∀ W, Below w.heap.size w W → RdVa W (.slice a ps.length c) ps) := fun W h => rdva_st hb h
 have HRK : Hid (RkI ps p.data.toList (rkN ps p.data.toList)) := rk_of ha _
 have HAS : Hid (AscI ps) := ha
 obtain ⟨n, hnn⟩ : ∃ n, ps.length = n := ⟨_, rfl⟩
 have HNN : Hid (ps.length = n) := hnn
 obtain ⟨su, hsu⟩ : ∃ s, tt.tsB (enT t) t.length = s := ⟨_, rfl⟩
 have HSS : Hid (tt.tsB (enT t) t.length = su) := hsu
 obtain ⟨nt, hnt⟩ : ∃ n, t.length = n := ⟨_, rfl⟩
 have HNT : Hid (t.length = nt) := hnt
 rw [hnn] at HFI HPT HST hn3 ⊢
 rw [hsu] at HSU
 rw [hnt] at HSU ⊢
 clear hb hw ht hwt hst ha hR htc hnn hsu hnt htl
 go_enter Tryz.func51, Tryz.ntmps51
 go_wp2_with (first
  | (go_at_call 108; refine HSU.out.mono ?_; rintro e w1 ⟨rfl, hl1⟩)
  | (go_at_call 36; refine (HFI.out _ hl1).mono ?_; rintro e w2 ⟨⟨r, rfl, hr⟩, hw2⟩; obtain rfl := hw2.symm; refine Hid.out ?_))
 refine Lib.hid ?_
 clear HSU HFI
 rcases hr with ⟨rfl, hno⟩ | ⟨i, x, rfl, hx, hxe⟩
 rotate_left
 ·obtain ⟨b, o, a3, c3, xb, xo, rfl, hcl, _, _⟩ := HIT.out i x hx
  obtain ⟨q0, q1, q2, q3, q4⟩ := hcl _ hl1
  have hin : i < n := by have := (List.getElem?_eq_some_iff.1 hx).1; have := HNN.out; omega
  have hin' : (i : Int) < (n : Int) := by omega
  have hi0 : (0 : Int) ≤ (i : Int) := by omega
  have HE : Hid ((addC ps p t = if x.fSum = tt.tsB (enT t) t.length then 1 else 2) ∧ addL ps p fr t = ps) := add_had HAS.out hx hxe
  rw [HSS.out] at HE
  obtain ⟨S1, hS1⟩ : ∃ S, x.fSum = S := ⟨_, rfl⟩
  rw [hS1] at q1 HE
  have HV : Hid (RdVa w1 (.slice (some ⟨b, o, none⟩) n c) (addL ps p fr t)) := by show RdVa _ _ _; rw [HE.out.2]; exact HST.out _ hl1
  clear hcl hx hxe hS1 q0 q2 q3 q4 HIT HPT HRN HST HRK HAS HPS HPL HRE
  cases he : (S1.toList == su.toList) with
  | true =>
   have HC : Hid (addC ps p t = 1) := by show _ = _; rw [HE.out.1, if_pos (of_decide_eq_true ((beq_dec S1 su).symm.trans he))]
   clear HE
   go_wp2
   go_ret2
   exact ⟨⟨_, by rw [HC.out]; first | done | rfl, HV.out⟩, hl1⟩
  | false =>
   have HC : Hid (addC ps p t = 2) := by show _ = _; rw [HE.out.1, if_neg (of_decide_eq_false ((beq_dec S1 su).symm.trans he))]
   clear HE
   go_wp2
   go_ret2
   exact ⟨⟨_, by rw [HC.out]; first | done | rfl, HV.out⟩, hl1⟩
 have HNO : Hid (∀ (j : Nat) (z : ty.It), ps[j]? = some z → z.fPath.data.toList ≠ p.data.toList) := hno
 have HL1 : Hid (Below w.heap.size w w1) := hl1
 clear hno hl1
 go_wp2
 go_loopw [12] (fun y wr => ∃ i : Nat, i ≤ n ∧ y = .int .i64 (i : Int) ∧ (∀ (j : Nat) (z : ty.It), j < i → ps[j]? = some z → rf.inB (enT z.fTree) z.fTree.length (p.data.toList.take 13) = false) ∧ Below w.heap.size w wr) (fun y _ => n - (intOf y).toNat)
 case atStart => exact ⟨0, Nat.zero_le _, rfl, fun j z h => by omega, HL1.out⟩
 case round =>
  clear HL1
  obtain ⟨i, hi, rfl, hna, hbe⟩ := hrel
  have HNA : Hid (∀ (j : Nat) (z : ty.It), j < i → ps[j]? = some z → rf.inB (enT z.fTree) z.fTree.length (p.data.toList.take 13) = false) := hna
  have HBE : Hid (Below w.heap.size w wr) := hbe
  clear hna
  by_cases hil : i < n
  ·have hil' : (i : Int) < (n : Int) := by omega
   have hi0 : (0 : Int) ≤ (i : Int) := by omega
   obtain ⟨x, hx⟩ : ∃ x, ps[i]? = some x := ⟨_, List.getElem?_eq_getElem (by rw [HNN.out]; exact hil)⟩
   have HX : Hid (ps[i]? = some x) := hx
   obtain ⟨b, o, a3, c3, xb, xo, rfl, hcl, _, hrf⟩ := HIT.out i x hx
   obtain ⟨q0, q1, q2, q3, q4⟩ := hcl _ hbe
   have HRF := Lib.hid (hrf _ hbe)
   obtain ⟨B, hB⟩ : ∃ B, rf.inB (enT x.fTree) x.fTree.length (p.data.toList.take 13) = B := ⟨_, rfl⟩
   have HB : Hid (rf.inB (enT x.fTree) x.fTree.length (p.data.toList.take 13) = B) := hB
   rw [hB] at HRF
   obtain ⟨xl, hxl⟩ : ∃ l, x.fTree.length = l := ⟨_, rfl⟩
   rw [hxl] at HRF q4
   clear hcl hrf hx hB hxl q0 q1 q2 q3 hbe
   cases B with
   | true =>
    have HE : Hid (addC ps p t = 3 ∧ addL ps p fr t = ps) := add_aw HNO.out HX.out HB.out
    have HVV : Hid (∀ W, Below w.heap.size w W → RdVa W (.slice (some ⟨b, o, none⟩) n c) (addL ps p fr t)) := fun W h => by rw [HE.out.2]; exact HST.out _ h
    go_wp2_with (go_at_call 109; refine HRF.out.mono ?_; rintro e w3 ⟨⟨bb, off, L, rc, rfl, hL⟩, hl3⟩; have hL0 : (0 : Int) < (L : Int) := (by have := hL.2 rfl; omega); have hB3 : Below w.heap.size w w3 := (HBE.out.alloc HBE.out.size _).trans (hl3.mono (HBE.out.alloc HBE.out.size _).size))
    go_ret2
    exact ⟨⟨_, by rw [HE.out.1]; first | done | rfl, HVV.out _ hB3⟩, hB3⟩
   | false =>
    have HN2 : Hid (∀ (j : Nat) (z : ty.It), j < i + 1 → ps[j]? = some z → rf.inB (enT z.fTree) z.fTree.length (p.data.toList.take 13) = false) := fun j z hj hz => by
     rcases Nat.lt_or_ge j i with h | h
     ·exact HNA.out j z h hz
     ·obtain rfl : j = i := by omega
      rw [HX.out] at hz
      cases hz
      exact HB.out
    go_wp2_with (go_at_call 109; refine HRF.out.mono ?_; rintro e w3 ⟨⟨bb, off, L, rc, rfl, hL⟩, hl3⟩; have hL0 : ¬ (0 : Int) < (L : Int) := (fun h => by have := hL.1 (by omega); cases this); have hB3 : Below w.heap.size w w3 := (HBE.out.alloc HBE.out.size _).trans (hl3.mono (HBE.out.alloc HBE.out.size _).size))
    go_roundw
    case rel => exact ⟨i + 1, by omega, by go_num, HN2.out, hB3⟩
    case measure => simp [intOf] <;> omega
  ·have hil' : ¬ (i : Int) < (n : Int) := by omega
   have HAW : Hid (awB ps p = false) := aw_no fun j z hz => HNA.out j z (by have := (List.getElem?_eq_some_iff.1 hz).1; have := HNN.out; omega) hz
   clear HNA
   by_cases h300 : n = 300
   ·have HE : Hid (addC ps p t = 4 ∧ addL ps p fr t = ps) := add_full HNO.out HAW.out (HNN.out.trans h300)
    subst h300
    have HV : Hid (RdVa wr (.slice a 300 c) (addL ps p fr t)) := by show RdVa _ _ _; rw [HE.out.2]; exact HST.out _ hbe
    go_wp2
    go_ret2
    exact ⟨⟨_, by rw [HE.out.1]; first | done | rfl, HV.out⟩, HBE.out⟩
   have h300' : ¬ (n : Int) = 300 := by omega
   have HE : Hid (addC ps p t = 0 ∧ addL ps p fr t = insL ps (newI ps p fr t)) := add_yes HNO.out HAW.out (by rw [HNN.out]; exact h300)
   clear HAW hbe
   obtain ⟨W2, hW2⟩ : ∃ W2, W2 = (wr.alloc (.cells #[] 94)).alloc (.cells #[.string p, .string su, .slice none 0 0, .string fr, .slice (some ⟨tb, to_, none⟩) nt nt] 94) := ⟨_, rfl⟩
   have HW2 : Hid (W2 = (wr.alloc (.cells #[] 94)).alloc (.cells #[.string p, .string su, .slice none 0 0, .string fr, .slice (some ⟨tb, to_, none⟩) nt nt] 94)) := hW2
   have HZ2 : Hid (W2.heap.size = wr.heap.size + 2) := by show _ = _; rw [hW2]; simp
   have HB2 : Hid (Below w.heap.size w W2) := by show Below _ _ _; rw [hW2]; exact (HBE.out.alloc HBE.out.size _).alloc (by simp; have := HBE.out.size; omega) _
   have HG0 : Hid (W2.heap[wr.heap.size]? = some (.cells #[] 94 (0, 0))) := by show _ = _; rw [hW2, blk_alloc_lt _ _ _ (by simp)]; exact heap_alloc_new wr _
   have HX0 : Hid (W2.rowIs (wr.heap.size + 1) 94 5 (fun i => [Value.string p, .string su, .slice none 0 0, .string fr, .slice (some ⟨tb, to_, none⟩) nt nt][i]?.getD undef)) := by
    have h := World.rowIs_alloc (wr.alloc (.cells #[] 94)) #[Value.string p, .string su, .slice none 0 0, .string fr, .slice (some ⟨tb, to_, none⟩) nt nt] 94 (fun i => [Value.string p, .string su, .slice none 0 0, .string fr, .slice (some ⟨tb, to_, none⟩) nt nt][i]?.getD undef) (fun i hi => by
     match i, hi with
     | 0, _ => rfl
     | 1, _ => rfl
     | 2, _ => rfl
     | 3, _ => rfl
     | 4, _ => rfl)
    rw [← hW2, World.size_alloc] at h
    exact h
   clear hW2
   go_wp2_with (go_at_call 76; rw [← HW2.out]; refine (HPT.out _ HB2.out).mono ?_; rintro e w3 ⟨⟨v3, rfl, hv3⟩, hl3⟩; refine Hid.out ?_)
   refine Lib.hid ?_
   have HV3 : Hid (sr.OwnS W2.heap.size w3 v3 (pths ps)) := hv3
   have HL3 : Hid (Below W2.heap.size W2 w3) := hl3
   obtain ⟨W4, hW4⟩ : ∃ W4, W4 = w3.alloc (.cells #[.string p] 9) := ⟨_, rfl⟩
   have HW4 : Hid (W4 = w3.alloc (.cells #[.string p] 9)) := hW4
   have HL4 : Hid (Below w3.heap.size w3 W4) := by show Below _ _ _; rw [hW4]; exact (Below.refl _ _).alloc (Nat.le_refl _) _
   have HO4 : Hid (W4.ownsRow W2.heap.size 9 1 v3 (pths ps).length ((pths ps).map sr.strL)) := own_belowI HV3.out.1 HL4.out
   have HNW : Hid (∀ j u, ([p.data.toList].map sr.strL)[j]? = some u → W4.cell? ((⟨w3.heap.size, 0, none⟩ : Addr).add j) = some u) := by
    show ∀ j u, _ → _
    rw [hW4, List.map_cons, List.map_nil, strL_of]
    exact cells_newI w3 w3.heap.size rfl 9 [.string p]
   have HBW4 : Hid (Below w.heap.size w W4) := by
    have h1 := HB2.out.trans (HL3.out.mono HB2.out.size)
    exact h1.trans (HL4.out.mono h1.size)
   have HS4 : Hid (W2.heap.size ≤ W4.heap.size) := Nat.le_trans HL3.out.size HL4.out.size
   have HPN : Hid ((pths ps).length + 1 ≤ 1000000) := by show _ ≤ _; rw [HPL.out, HNN.out]; omega
   clear hv3 hl3 hW4
   go_wp2_with (first
    | (at_builtin; refine app_str_at _ rfl _ _ rfl W2.heap.size v3 (pths ps) rfl (by rw [← HW4.out]; exact HO4.out) HV3.out.2 ⟨w3.heap.size, 0, none⟩ 1 1 [p.data.toList] rfl rfl (by rw [← HW4.out]; exact HNW.out) HPN.out (by rw [← HW4.out]; exact HS4.out) ?_; intro v5 w5 hown5 hnn5 hg5 hbk5; refine Hid.out ?_)
    | go_in)
   refine Lib.hid ?_
   rw [← HW4.out] at hg5
   have HB5 : Hid (Below W2.heap.size W2 w5) := below_grownS (HL3.out.trans (HL4.out.mono HL3.out.size)) HO4.out hg5 HS4.out
   have HBW5 : Hid (Below w.heap.size w w5) := HB2.out.trans (HB5.out.mono HB2.out.size)
   have HR5 := Lib.hid (HRN.out w5 v5 HBW5.out (sr.StrR.own' hown5 hnn5))
   clear hown5 hnn5 hg5 hbk5 HRN HPT
   rw [HNT.out] at HR5
   go_wp2_with (go_at_call 109; refine HR5.out.mono ?_; rintro e w6 ⟨⟨v6, rfl, hv6⟩, hl6⟩; refine Hid.out ?_)
   refine Lib.hid ?_
   obtain ⟨rb, ro, rc, hve, _, _, hcr⟩ := hv6
   subst hve
   have HL6 : Hid (Below w5.heap.size w5 w6) := hl6
   have HB6 : Hid (Below W2.heap.size W2 w6) := HB5.out.trans (HL6.out.mono HB5.out.size)
   have HX6 : Hid (w6.rowIs (wr.heap.size + 1) 94 5 (fun i => [Value.string p, .string su, .slice none 0 0, .string fr, .slice (some ⟨tb, to_, none⟩) nt nt][i]?.getD undef)) := HX0.out.of_block (HB6.out.block _ HX0.out.lt)
   have HG6 : Hid (w6.heap[wr.heap.size]? = some (.cells #[] 94 (0, 0))) := (HB6.out.block _ (by have := HZ2.out; omega)).trans HG0.out
   have HTX : Hid (RdT w6 (some ⟨rb, ro, none⟩) (newI ps p fr t).fRefs) := by
    refine ⟨rb, ro, rfl, fun j y hy => ?_⟩
    have hy' : ((rf.rfs (enT t) t.length (pths ps ++ [p.data.toList])).map (fun l => (⟨l.toArray⟩ : ByteArray)))[j]? = some y := hy
    rw [List.getElem?_map] at hy'
    obtain ⟨l, hl, rfl⟩ := Option.map_eq_some_iff.1 hy'
    exact hcr j l (by rw [← HNT.out]; exact hl)
   have HRL : Hid ((newI ps p fr t).fRefs.length = (rf.rfs (enT t) nt (pths ps ++ [p.data.toList])).length) := by show ((rf.rfs (enT t) t.length (pths ps ++ [p.data.toList])).map _).length = _; rw [List.length_map, HNT.out]
   obtain ⟨RL, hRL⟩ : ∃ R, (rf.rfs (enT t) nt (pths ps ++ [p.data.toList])).length = R := ⟨_, rfl⟩
   rw [hRL] at HRL ⊢
   obtain ⟨W7, hW7⟩ : ∃ W7, W7 = w6.setCell ⟨wr.heap.size + 1, 2, none⟩ (.slice (some ⟨rb, ro, none⟩) RL rc) := ⟨_, rfl⟩
   have HW7 : Hid (W7 = w6.setCell ⟨wr.heap.size + 1, 2, none⟩ (.slice (some ⟨rb, ro, none⟩) RL rc)) := hW7
   have hx67 := HX6.out.set 2 (.slice (some ⟨rb, ro, none⟩) RL rc)
   rw [← hW7] at hx67
   have HX7 : Hid (W7.rowIs (wr.heap.size + 1) 94 5 (fun j => if j = 2 then .slice (some ⟨rb, ro, none⟩) RL rc else [Value.string p, .string su, .slice none 0 0, .string fr, .slice (some ⟨tb, to_, none⟩) nt nt][j]?.getD undef)) := hx67
   have hoth : ∀ q, q ≠ wr.heap.size + 1 → W7.heap[q]? = w6.heap[q]? := fun q hq => by rw [hW7]; exact blk_setCell_other _ _ _ _ hq
   have HZ7 : Hid (W7.heap.size = w6.heap.size) := by show _ = _; rw [hW7, World.size_setCell]
   have HG7 : Hid (W7.heap[wr.heap.size]? = some (.cells #[] 94 (0, 0))) := (hoth _ (by omega)).trans HG6.out
   have HE7 : Hid (∀ j, W7.cell? ⟨wr.heap.size, j, none⟩ = none) := empty_cells HG7.out
   have HT7 : Hid (RdT W7 (some ⟨rb, ro, none⟩) (newI ps p fr t).fRefs) := by
    obtain ⟨b', o', e', hc'⟩ := HTX.out
    cases e'
    refine ⟨rb, ro, rfl, fun j y hy => ?_⟩
    have h1 := hc' j y hy
    by_cases hq : rb = wr.heap.size + 1
    ·subst hq
     have hk : ro + j ≠ 2 := fun e => by
      rw [e, HX6.out.cell (i := 2) (by omega)] at h1
      cases h1
     rw [hW7]
     have h2 : (w6.setCell ⟨wr.heap.size + 1, 2, none⟩ (.slice (some ⟨wr.heap.size + 1, ro, none⟩) RL rc)).cell? ⟨wr.heap.size + 1, ro + j, none⟩ = w6.cell? ⟨wr.heap.size + 1, ro + j, none⟩ := by
      obtain ⟨cs, hcs, _, _⟩ := HX6.out
      simp [World.cell?, World.setCell, Array.getElem?_modify, hcs, Array.getElem?_setIfInBounds, Ne.symm hk]
     rw [h2]
     exact h1
    ·exact (World.cell?_of_block (a := ⟨rb, ro + j, none⟩) (hoth _ hq)).trans h1
   have HB7 : Hid (Below w.heap.size w W7) := by
    show Below _ _ _
    rw [hW7]
    have h6 : Below w.heap.size w w6 := HB2.out.trans (HB6.out.mono HB2.out.size)
    exact h6.setCell (show w.heap.size ≤ wr.heap.size + 1 by have := HBE.out.size; omega) _
   obtain ⟨K, hK⟩ : ∃ K, rkN ps p.data.toList = K := ⟨_, rfl⟩
   rw [hK] at HRK
   obtain ⟨xn, hxn⟩ : ∃ xn, newI ps p fr t = xn := ⟨_, rfl⟩
   have HXN : Hid (xn.fPath = p ∧ xn.fSum = su ∧ xn.fFrom = fr ∧ xn.fTree = t ∧ xn.fRefs.length = RL) := by
    rw [← hxn]
    exact ⟨rfl, HSS.out, rfl, rfl, HRL.out⟩
   have HIN : Hid (insL ps xn = ps.take K ++ xn :: ps.drop K) := by
    show insL ps xn = _
    unfold insL
    rw [HXN.out.1, hK]
   rw [hxn] at HT7 HE
   rw [HIN.out] at HE
   obtain ⟨zn, hzn⟩ : ∃ zn : Iz, zn = ⟨xn, some ⟨rb, ro, none⟩, rc, some ⟨tb, to_, none⟩, nt, 0, 0, 0, 0⟩ := ⟨_, rfl⟩
   have HZN : Hid (izC zn = [.string p, .string su, .slice (some ⟨rb, ro, none⟩) RL rc, .string fr, .slice (some ⟨tb, to_, none⟩) nt nt] ∧ zn.x = xn ∧ ∀ wr', KpB W7 wr.heap.size wr' → Below w.heap.size w wr' → RdZa wr' zn) := by
    rw [hzn]
    refine ⟨?_, rfl, fun wr' hk hb' => ⟨hk.texts HE7.out HT7.out, ?_⟩⟩
    ·obtain ⟨e1, e2, e3, e4, e5⟩ := HXN.out
     show [Value.string xn.fPath, .string xn.fSum, .slice _ xn.fRefs.length _, .string xn.fFrom, .slice _ xn.fTree.length _] = _
     rw [e1, e2, e3, e4, e5, HNT.out]
    ·show RdE wr' _ xn.fTree
     rw [HXN.out.2.2.2.1]
     exact HRE.out.below hb'
   have HXB : Hid (∀ wr', KpB W7 wr.heap.size wr' → (wr'.cell? ⟨wr.heap.size + 1, 0, none⟩ = some (.string p) ∧ wr'.cell? ⟨wr.heap.size + 1, 1, none⟩ = some (.string su) ∧ wr'.cell? ⟨wr.heap.size + 1, 2, none⟩ = some (.slice (some ⟨rb, ro, none⟩) RL rc) ∧ wr'.cell? ⟨wr.heap.size + 1, 3, none⟩ = some (.string fr) ∧ wr'.cell? ⟨wr.heap.size + 1, 4, none⟩ = some (.slice (some ⟨tb, to_, none⟩) nt nt))) := fun wr' hk => by
    have hne : wr.heap.size + 1 ≠ wr.heap.size := by omega
    exact ⟨hk.cell hne (HX7.out.cell (i := 0) (by omega)), hk.cell hne (HX7.out.cell (i := 1) (by omega)), hk.cell hne (HX7.out.cell (i := 2) (by omega)), hk.cell hne (HX7.out.cell (i := 3) (by omega)), hk.cell hne (HX7.out.cell (i := 4) (by omega))⟩
   have HOT : Hid (OtR w W7 wr.heap.size W7 (.slice (some ⟨wr.heap.size, 0, none⟩) 0 0) []) := ⟨⟨⟨rfl, .inr ⟨wr.heap.size, 0, #[], rfl, HBE.out.size, HG7.out, Nat.le_refl _, Nat.zero_le _, by simp, by simp [itC]⟩⟩, by intro e; cases e⟩, ⟨_, rfl, .inl rfl⟩, KpB.refl _ _, HB7.out⟩
   have x0 := HX6.out.cell (i := 2) (by omega)
   have f0 := HX6.out.frozen 2
   clear hRL hW7 hx67 hoth hK hxn hzn hcr hl6 HTX HT7 HE7 HX7 HG7 HG6 HX6 HB6 HL6 HR5 HB5 HBW5 HO4 HNW HBW4 HS4 HPN HL4 HL3 HV3 HW4 HX0 HG0 HZ2 HW2 HB2 HPL HPS HRL HXN HIN HB7 HZ7 HST
   go_wp2
   rw [← HW7.out]
   obtain ⟨g0, hg0⟩ : ∃ g, wr.heap.size = g := ⟨_, rfl⟩
   rw [hg0] at HXB HZN HOT ⊢
   clear hg0 HW7 x0 f0 HBE
   go_loopw [13, 15, 16] (fun v d y wr => ∃ (i : Nat) (zs : List Iz), i ≤ n ∧ y = .int .i64 (i : Int) ∧ d = .bool (decide (K < i)) ∧ zs.map Iz.x = insP ps xn K i ∧ zs.length ≤ i + 1 ∧ (∀ (j : Nat) (z : Iz), zs[j]? = some z → RdZa w z ∨ z = zn) ∧ OtR w W7 g0 wr v zs) (fun _ _ y _ => n - (intOf y).toNat)
   case atStart => exact ⟨0, [], Nat.zero_le _, rfl, by rw [decide_eq_false (by omega)], by rw [insP_le (Nat.zero_le _)]; rfl, by simp, fun j z h => by simp at h, HOT.out⟩
   case round =>
    clear HOT
    obtain ⟨i, zs, hi, rfl, rfl, hmap, hzl, hzz, hot⟩ := hrel
    have HMA : Hid (zs.map Iz.x = insP ps xn K i) := hmap
    have HZL : Hid (zs.length ≤ i + 1) := hzl
    have HZZ : Hid (∀ (j : Nat) (z : Iz), zs[j]? = some z → RdZa w z ∨ z = zn) := hzz
    have HOT : Hid (OtR w W7 g0 wr u13 zs) := hot
    have HBE : Hid (Below w.heap.size w wr) := hot.be
    clear hmap hzl hzz hot
    have HAZ : Hid (∀ (ys : List Iz) (z : Iz), (∀ (j : Nat) (z : Iz), ys[j]? = some z → RdZa w z ∨ z = zn) → (RdZa w z ∨ z = zn) → ∀ (j : Nat) (y : Iz), (ys ++ [z])[j]? = some y → RdZa w y ∨ y = zn) := fun ys z h1 h2 j y hy => by
     rcases Nat.lt_or_ge j ys.length with h | h
     ·rw [List.getElem?_append_left h] at hy; exact h1 j y hy
     ·rw [List.getElem?_append_right h] at hy
      rcases hjz : j - ys.length with _ | k
      ·rw [hjz] at hy; simp at hy; subst hy; exact h2
      ·rw [hjz] at hy; simp at hy
    by_cases hil : i < n
    ·have hil' : (i : Int) < (n : Int) := by omega
     have hi0 : (0 : Int) ≤ (i : Int) := by omega
     obtain ⟨x, hx⟩ : ∃ x, ps[i]? = some x := ⟨_, List.getElem?_eq_getElem (by rw [HNN.out]; exact hil)⟩
     have HX : Hid (ps[i]? = some x) := hx
     obtain ⟨b, o, a3, c3, xb, xo, rfl, hcl, hrd, _⟩ := HIT.out i x hx
     obtain ⟨zi, hzi⟩ : ∃ zi : Iz, zi = ⟨x, a3, c3, some ⟨xb, xo, none⟩, x.fTree.length, 0, 0, 0, 0⟩ := ⟨_, rfl⟩
     have HZI : Hid (izC zi = [.string x.fPath, .string x.fSum, .slice a3 x.fRefs.length c3, .string x.fFrom, .slice (some ⟨xb, xo, none⟩) x.fTree.length x.fTree.length] ∧ zi.x = x ∧ RdZa w zi) := by rw [hzi]; exact ⟨rfl, rfl, hrd⟩
     have HCL := Lib.hid hcl
     obtain ⟨P, hP⟩ : ∃ P, x.fPath = P := ⟨_, rfl⟩
     obtain ⟨S, hS⟩ : ∃ P, x.fSum = P := ⟨_, rfl⟩
     obtain ⟨F, hF⟩ : ∃ P, x.fFrom = P := ⟨_, rfl⟩
     obtain ⟨r3, hr3⟩ : ∃ P, x.fRefs.length = P := ⟨_, rfl⟩
     obtain ⟨xl, hxl⟩ : ∃ P, x.fTree.length = P := ⟨_, rfl⟩
     have HLO : Hid (i < K → P.data.toList < p.data.toList) := fun h => by rw [← hP]; exact HRK.out.lo i x h hx
     have HHI : Hid (K ≤ i → ¬ P.data.toList < p.data.toList) := fun h => by rw [← hP]; exact HRK.out.hi i x h hx
     have HNE : Hid (P.data.toList ≠ p.data.toList) := by rw [← hP]; exact HNO.out i x hx
     rw [hP, hS, hF, hr3, hxl] at HCL HZI
     clear hP hS hF hr3 hxl hzi hcl hrd hx
     obtain ⟨q0, q1, q2, q3, q4⟩ := HCL.out _ HBE.out
     by_cases hKi : K < i
     ·have hd : decide (K < i) = true := decide_eq_true hKi
      have HD2 : Hid (decide (K < i + 1) = true) := decide_eq_true (by omega)
      have HM2 : Hid ((zs ++ [zi]).map Iz.x = insP ps xn K (i + 1)) := by show _ = _; rw [List.map_append, HMA.out, insP_more hKi HX.out, List.map_cons, HZI.out.2.1]; rfl
      rw [hd]
      obtain ⟨W8, hW8⟩ : ∃ X, X = wr.alloc (.cells #[.string P, .string S, .slice a3 r3 c3, .string F, .slice (some ⟨xb, xo, none⟩) xl xl] 94) := ⟨_, rfl⟩
      have HW8 : Hid (W8 = wr.alloc (.cells #[.string P, .string S, .slice a3 r3 c3, .string F, .slice (some ⟨xb, xo, none⟩) xl xl] 94)) := hW8
      have HL8 : Hid (Below wr.heap.size wr W8) := by show Below _ _ _; rw [hW8]; exact (Below.refl _ _).alloc (Nat.le_refl _) _
      have HT8 : Hid (OtR w W7 g0 W8 u13 zs) := (HOT.out).below HL8.out
      have HN8 : Hid (∀ j u, (izC zi)[j]? = some u → W8.cell? ((⟨wr.heap.size, 0, none⟩ : Addr).add j) = some u) := by
       show ∀ j u, _ → _
       rw [hW8, HZI.out.1]
       exact cells_newI wr _ rfl _ _
      have HZ8 : Hid ((zs).length ≤ 400000000) := by show _ ≤ _; have := HZL.out; simp; omega
      clear hW8
      go_wp2_with (first
       | (at_builtin; refine app_it_at _ rfl _ _ rfl w.heap.size u13 (zs) rfl (by rw [← HW8.out]; exact HT8.out.row) ⟨wr.heap.size, 0, none⟩ 1 zi rfl (by rw [← HW8.out]; exact HN8.out) HZ8.out (by rw [← HW8.out]; exact HT8.out.be.size) ?_; intro v9 w9 hr9 hg9 hb9; refine Hid.out ?_)
       | go_in)
      refine Lib.hid ?_
      rw [← HW8.out] at hg9 hb9
      have HO9 : Hid (OtR w W7 g0 w9 v9 (zs ++ [zi])) := HT8.out.app hr9 hg9 hb9
      clear hr9 hg9 hb9
      go_wp2_with fail
      go_roundw
      case rel => exact ⟨i + 1, zs ++ [zi], by omega, by go_num, by rw [HD2.out], HM2.out, by have := HZL.out; simp; omega, HAZ.out zs zi HZZ.out (.inl HZI.out.2.2), HO9.out⟩
      case measure => simp [intOf] <;> omega
     ·have hd : decide (K < i) = false := decide_eq_false hKi
      rw [hd]
      by_cases hiK : i < K
      ·have hbl : Op.bytesLess P.toList p.toList = true := by rw [blI]; exact decide_eq_true (HLO.out hiK)
       have HD2 : Hid (decide (K < i + 1) = false) := decide_eq_false (by omega)
       have HM2 : Hid ((zs ++ [zi]).map Iz.x = insP ps xn K (i + 1)) := by show _ = _; rw [List.map_append, HMA.out, insP_step hiK HX.out, List.map_cons, HZI.out.2.1]; rfl
       obtain ⟨W8, hW8⟩ : ∃ X, X = wr.alloc (.cells #[.string P, .string S, .slice a3 r3 c3, .string F, .slice (some ⟨xb, xo, none⟩) xl xl] 94) := ⟨_, rfl⟩
       have HW8 : Hid (W8 = wr.alloc (.cells #[.string P, .string S, .slice a3 r3 c3, .string F, .slice (some ⟨xb, xo, none⟩) xl xl] 94)) := hW8
       have HL8 : Hid (Below wr.heap.size wr W8) := by show Below _ _ _; rw [hW8]; exact (Below.refl _ _).alloc (Nat.le_refl _) _
       have HT8 : Hid (OtR w W7 g0 W8 u13 zs) := (HOT.out).below HL8.out
       have HN8 : Hid (∀ j u, (izC zi)[j]? = some u → W8.cell? ((⟨wr.heap.size, 0, none⟩ : Addr).add j) = some u) := by
        show ∀ j u, _ → _
        rw [hW8, HZI.out.1]
        exact cells_newI wr _ rfl _ _
       have HZ8 : Hid ((zs).length ≤ 400000000) := by show _ ≤ _; have := HZL.out; simp; omega
       clear hW8
       go_wp2_with (first
        | (at_builtin; refine app_it_at _ rfl _ _ rfl w.heap.size u13 (zs) rfl (by rw [← HW8.out]; exact HT8.out.row) ⟨wr.heap.size, 0, none⟩ 1 zi rfl (by rw [← HW8.out]; exact HN8.out) HZ8.out (by rw [← HW8.out]; exact HT8.out.be.size) ?_; intro v9 w9 hr9 hg9 hb9; refine Hid.out ?_)
        | go_in)
       refine Lib.hid ?_
       rw [← HW8.out] at hg9 hb9
       have HO9 : Hid (OtR w W7 g0 w9 v9 (zs ++ [zi])) := HT8.out.app hr9 hg9 hb9
       clear hr9 hg9 hb9
       go_wp2_with fail
       go_roundw
       case rel => exact ⟨i + 1, zs ++ [zi], by omega, by go_num, by rw [HD2.out], HM2.out, by have := HZL.out; simp; omega, HAZ.out zs zi HZZ.out (.inl HZI.out.2.2), HO9.out⟩
       case measure => simp [intOf] <;> omega
      ·obtain rfl : i = K := by omega
       have hbl : Op.bytesLess P.toList p.toList = false := by rw [blI]; exact decide_eq_false (HHI.out (Nat.le_refl _))
       have hbq : (P.toList == p.toList) = false := by rw [beq_dec]; exact decide_eq_false (fun e => HNE.out (by rw [e]))
       have HD2 : Hid (decide (i < i + 1) = true) := decide_eq_true (by omega)
       have HM2 : Hid ((zs ++ [zn] ++ [zi]).map Iz.x = insP ps xn i (i + 1)) := by show _ = _; rw [List.map_append, List.map_append, HMA.out, insP_at HX.out, List.map_cons, List.map_cons, HZI.out.2.1, HZN.out.2.1]; rfl
       obtain ⟨y0, y1, y2, y3, y4⟩ := HXB.out _ HOT.out.kp
       obtain ⟨W8, hW8⟩ : ∃ X, X = wr.alloc (.cells #[.string p, .string su, .slice (some ⟨rb, ro, none⟩) RL rc, .string fr, .slice (some ⟨tb, to_, none⟩) nt nt] 94) := ⟨_, rfl⟩
       have HW8 : Hid (W8 = wr.alloc (.cells #[.string p, .string su, .slice (some ⟨rb, ro, none⟩) RL rc, .string fr, .slice (some ⟨tb, to_, none⟩) nt nt] 94)) := hW8
       have HL8 : Hid (Below wr.heap.size wr W8) := by show Below _ _ _; rw [hW8]; exact (Below.refl _ _).alloc (Nat.le_refl _) _
       have HT8 : Hid (OtR w W7 g0 W8 u13 zs) := (HOT.out).below HL8.out
       have HN8 : Hid (∀ j u, (izC zn)[j]? = some u → W8.cell? ((⟨wr.heap.size, 0, none⟩ : Addr).add j) = some u) := by
        show ∀ j u, _ → _
        rw [hW8, HZN.out.1]
        exact cells_newI wr _ rfl _ _
       have HZ8 : Hid ((zs).length ≤ 400000000) := by show _ ≤ _; have := HZL.out; simp; omega
       clear hW8
       go_wp2_with (first
        | (at_builtin; refine app_it_at _ rfl _ _ rfl w.heap.size u13 (zs) rfl (by rw [← HW8.out]; exact HT8.out.row) ⟨wr.heap.size, 0, none⟩ 1 zn rfl (by rw [← HW8.out]; exact HN8.out) HZ8.out (by rw [← HW8.out]; exact HT8.out.be.size) ?_; intro v9 w9 hr9 hg9 hb9; refine Hid.out ?_)
        | go_in)
       refine Lib.hid ?_
       rw [← HW8.out] at hg9 hb9
       have HO9 : Hid (OtR w W7 g0 w9 v9 (zs ++ [zn])) := HT8.out.app hr9 hg9 hb9
       clear hr9 hg9 hb9
       obtain ⟨z0, z1, z2, z3, z4⟩ := HCL.out _ HO9.out.be
       clear q0 q1 q2 q3 q4 y0 y1 y2 y3 y4
       obtain ⟨WA, hWA⟩ : ∃ X, X = w9.alloc (.cells #[.string P, .string S, .slice a3 r3 c3, .string F, .slice (some ⟨xb, xo, none⟩) xl xl] 94) := ⟨_, rfl⟩
       have HWA : Hid (WA = w9.alloc (.cells #[.string P, .string S, .slice a3 r3 c3, .string F, .slice (some ⟨xb, xo, none⟩) xl xl] 94)) := hWA
       have HLA : Hid (Below w9.heap.size w9 WA) := by show Below _ _ _; rw [hWA]; exact (Below.refl _ _).alloc (Nat.le_refl _) _
       have HTA : Hid (OtR w W7 g0 WA v9 (zs ++ [zn])) := (HO9.out).below HLA.out
       have HNA : Hid (∀ j u, (izC zi)[j]? = some u → WA.cell? ((⟨w9.heap.size, 0, none⟩ : Addr).add j) = some u) := by
        show ∀ j u, _ → _
        rw [hWA, HZI.out.1]
        exact cells_newI w9 _ rfl _ _
       have HZA : Hid ((zs ++ [zn]).length ≤ 400000000) := by show _ ≤ _; have := HZL.out; simp; omega
       clear hWA
       go_wp2_with (first
        | (at_builtin; refine app_it_at _ rfl _ _ rfl w.heap.size v9 (zs ++ [zn]) rfl (by rw [← HWA.out]; exact HTA.out.row) ⟨w9.heap.size, 0, none⟩ 1 zi rfl (by rw [← HWA.out]; exact HNA.out) HZA.out (by rw [← HWA.out]; exact HTA.out.be.size) ?_; intro vB wB hrB hgB hbB; refine Hid.out ?_)
        | go_in)
       refine Lib.hid ?_
       rw [← HWA.out] at hgB hbB
       have HOB : Hid (OtR w W7 g0 wB vB (zs ++ [zn] ++ [zi])) := HTA.out.app hrB hgB hbB
       clear hrB hgB hbB
       go_wp2_with fail
       go_roundw
       case rel => exact ⟨i + 1, zs ++ [zn] ++ [zi], by omega, by go_num, by rw [HD2.out], HM2.out, by have h9 := congrArg List.length HM2.out; rw [List.length_map] at h9; rw [h9]; unfold insP; rw [if_neg (by omega)]; simp; omega, HAZ.out (zs ++ [zn]) zi (HAZ.out zs zn HZZ.out (.inr rfl)) (.inl HZI.out.2.2), HOB.out⟩
       case measure => simp [intOf] <;> omega
    ·have hil' : ¬ (i : Int) < (n : Int) := by omega
     obtain rfl : i = n := by omega
     have HFV : Hid (∀ (ys : List Iz) (v : Value) (W : World), OtR w W7 g0 W v ys → (∀ (j : Nat) (z : Iz), ys[j]? = some z → RdZa w z ∨ z = zn) → ys.map Iz.x = addL ps p fr t → RdVa W v (addL ps p fr t)) := fun ys v W ho h1 h2 => by
      rw [← h2]
      refine rdva_of ho.row fun j z hz => ?_
      rcases h1 j z hz with h | rfl
      ·exact h.below ho.be
      ·exact HZN.out.2.2 W ho.kp ho.be
     by_cases hKi : K < i
     ·have hd : decide (K < i) = true := decide_eq_true hKi
      have HV : Hid (RdVa wr u13 (addL ps p fr t)) := HFV.out zs u13 wr HOT.out HZZ.out (by rw [HMA.out, HE.out.2, ← HNN.out]; exact insP_end (by rw [HNN.out]; exact hKi))
      rw [hd]
      go_wp2
      go_ret2
      exact ⟨⟨_, by rw [HE.out.1]; first | done | rfl, HV.out⟩, HBE.out⟩
     ·have hd : decide (K < i) = false := decide_eq_false hKi
      rw [hd]
      have HM2 : Hid ((zs ++ [zn]).map Iz.x = addL ps p fr t) := by show _ = _; rw [List.map_append, HMA.out, HE.out.2, List.map_cons, HZN.out.2.1, ← HNN.out]; exact insP_last (by rw [HNN.out]; omega)
      obtain ⟨y0, y1, y2, y3, y4⟩ := HXB.out _ HOT.out.kp
      obtain ⟨W8, hW8⟩ : ∃ X, X = wr.alloc (.cells #[.string p, .string su, .slice (some ⟨rb, ro, none⟩) RL rc, .string fr, .slice (some ⟨tb, to_, none⟩) nt nt] 94) := ⟨_, rfl⟩
      have HW8 : Hid (W8 = wr.alloc (.cells #[.string p, .string su, .slice (some ⟨rb, ro, none⟩) RL rc, .string fr, .slice (some ⟨tb, to_, none⟩) nt nt] 94)) := hW8
      have HL8 : Hid (Below wr.heap.size wr W8) := by show Below _ _ _; rw [hW8]; exact (Below.refl _ _).alloc (Nat.le_refl _) _
      have HT8 : Hid (OtR w W7 g0 W8 u13 zs) := (HOT.out).below HL8.out
      have HN8 : Hid (∀ j u, (izC zn)[j]? = some u → W8.cell? ((⟨wr.heap.size, 0, none⟩ : Addr).add j) = some u) := by
       show ∀ j u, _ → _
       rw [hW8, HZN.out.1]
       exact cells_newI wr _ rfl _ _
      have HZ8 : Hid ((zs).length ≤ 400000000) := by show _ ≤ _; have := HZL.out; simp; omega
      clear hW8
      go_wp2_with (first
       | (at_builtin; refine app_it_at _ rfl _ _ rfl w.heap.size u13 (zs) rfl (by rw [← HW8.out]; exact HT8.out.row) ⟨wr.heap.size, 0, none⟩ 1 zn rfl (by rw [← HW8.out]; exact HN8.out) HZ8.out (by rw [← HW8.out]; exact HT8.out.be.size) ?_; intro v9 w9 hr9 hg9 hb9; refine Hid.out ?_)
       | go_in)
      refine Lib.hid ?_
      rw [← HW8.out] at hg9 hb9
      have HO9 : Hid (OtR w W7 g0 w9 v9 (zs ++ [zn])) := HT8.out.app hr9 hg9 hb9
      clear hr9 hg9 hb9
      have HV : Hid (RdVa w9 v9 (addL ps p fr t)) := HFV.out _ v9 w9 HO9.out (HAZ.out zs zn HZZ.out (.inr rfl)) HM2.out
      go_wp2
      go_ret2
      exact ⟨⟨_, by rw [HE.out.1]; first | done | rfl, HV.out⟩, HO9.out.be⟩
end Go.Proofs.YtpfnnjfapcnbnaaGreatDoor.so
