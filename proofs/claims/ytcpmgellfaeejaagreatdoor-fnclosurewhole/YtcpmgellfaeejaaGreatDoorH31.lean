import Derived.Test.YtcpmgellfaeejaaGreatDoorH29
import Derived.Test.YtcpmgellfaeejaaGreatDoorH30
import Derived.Test.YtcpmgellfaeejaaGreatDoorH18
import Derived.Maps.AppendAt
import Derived.Test.YtcpmgellfaeejaaGreatDoorH01
import Derived.Deep.RegionHeld3
namespace Go.Proofs.YtcpmgellfaeejaaGreatDoor.sc
open Go.Proofs.YtcpmgellfaeejaaGreatDoor.so
open Go.ChangeShapes Go.WideShapes Go.ChangeAt Go.RowKit Go.Deep Go.Shelf Go.Maps
set_option linter.unusedVariables false
set_option linter.unusedSimpArgs false
noncomputable def cmpI (p q : List UInt8) : Int := if p < q then -1 else if q < p then 1 else 0
theorem cmpI_lt {p q : List UInt8} (h : p < q) : cmpI p q = -1 := by unfold cmpI; rw [if_pos h]
theorem cmpI_gt {p q : List UInt8} (h : q < p) : cmpI p q = 1 := by unfold cmpI; rw [if_neg (fun h2 => List.lt_irrefl _ (List.lt_trans h h2)), if_pos h]
theorem cmpI_eq (p : List UInt8) : cmpI p p = 0 := by unfold cmpI; rw [if_neg (List.lt_irrefl _), if_neg (List.lt_irrefl _)]
theorem lt_triI (p q : List UInt8) : p < q ∨ p = q ∨ q < p := by
 by_cases h : p < q
 ·exact .inl h
 ·by_cases h2 : q < p
  ·exact .inr (.inr h2)
  ·exact .inr (.inl (List.le_antisymm (List.not_lt.1 h2) (List.not_lt.1 h)))
theorem blI (x y : ByteArray) : Op.bytesLess x.toList y.toList = decide (x.data.toList < y.data.toList) := by rw [ByteArray.toList_eq, ByteArray.toList_eq, Go.Proofs.bytesLess_eq]
theorem nanI_any (p : ByteArray) (w : World) : Calls Tryz.prog 126 #[.string p] w fun e w' => e = .returned (.bool false) ∧ w' = w := by
 go_enter Tryz.func126, Tryz.ntmps126
 go_wp2
 go_ret
 first | exact ⟨rfl, rfl⟩ | exact ⟨by simp, rfl⟩
set_option maxRecDepth 100000 in
theorem cmpI_any (p q : ByteArray) (w : World) : Calls Tryz.prog 108 #[.string p, .string q] w fun e w' => e = .returned (.int .i64 (cmpI p.data.toList q.data.toList)) ∧ w' = w := by
 have HNA : Hid (∀ x W, Calls Tryz.prog 126 #[.string x] W fun e w' => e = .returned (.bool false) ∧ w' = W) := fun x W => nanI_any x W
 obtain ⟨r, hr⟩ : ∃ r, cmpI p.data.toList q.data.toList = r := ⟨_, rfl⟩
 rw [hr]
 have HR : Hid (cmpI p.data.toList q.data.toList = r) := hr
 clear hr
 rcases lt_triI p.data.toList q.data.toList with h | h | h
 ·have h1 : Op.bytesLess p.toList q.toList = true := by rw [blI]; simpa using h
  have e : r = -1 := HR.out.symm.trans (cmpI_lt h)
  subst e
  clear h HR
  go_enter Tryz.func108, Tryz.ntmps108
  go_wp2_with (go_at_call 126; refine (HNA.out _ _).mono ?_; rintro e w1 ⟨rfl, rfl⟩)
  go_ret
  exact ⟨rfl, rfl⟩
 ·have h1 : Op.bytesLess p.toList q.toList = false := by rw [blI, h]; exact decide_eq_false (List.lt_irrefl _)
  have h2 : (p.toList == q.toList) = true := by rw [ByteArray.toList_eq, ByteArray.toList_eq]; simpa using h
  have e : r = 0 := HR.out.symm.trans (by rw [h]; exact cmpI_eq _)
  subst e
  clear h HR
  go_enter Tryz.func108, Tryz.ntmps108
  go_wp2_with (go_at_call 126; refine (HNA.out _ _).mono ?_; rintro e w1 ⟨rfl, rfl⟩)
  go_ret
  exact ⟨rfl, rfl⟩
 ·have h1 : Op.bytesLess p.toList q.toList = false := by rw [blI]; exact decide_eq_false (fun h2 => List.lt_irrefl _ (List.lt_trans h h2))
  have h2 : (p.toList == q.toList) = false := by
   rw [ByteArray.toList_eq, ByteArray.toList_eq, beq_eq_false_iff_ne]
   intro e
   rw [e] at h
   exact List.lt_irrefl _ h
  have e : r = 1 := HR.out.symm.trans (cmpI_gt h)
  subst e
  clear h HR
  go_enter Tryz.func108, Tryz.ntmps108
  go_wp2_with (go_at_call 126; refine (HNA.out _ _).mono ?_; rintro e w1 ⟨rfl, rfl⟩)
  go_ret
  exact ⟨rfl, rfl⟩
set_option maxRecDepth 100000 in
theorem in1_any (p v1 v3 q : ByteArray) (v2 v4 : Value) (w : World) :
  Calls Tryz.prog 107 #[.agg #[.string p, .string v1, v2, .string v3, v4], .string q] w fun e w' => e = .returned (.int .i64 (cmpI p.data.toList q.data.toList)) ∧ Below w.heap.size w w' := by
 have HC : Hid (∀ W, Calls Tryz.prog 108 #[.string p, .string q] W fun e w' => e = .returned (.int .i64 (cmpI p.data.toList q.data.toList)) ∧ w' = W) := fun W => cmpI_any p q W
 obtain ⟨r, hr⟩ : ∃ r, cmpI p.data.toList q.data.toList = r := ⟨_, rfl⟩
 rw [hr] at HC ⊢
 clear hr
 go_enter Tryz.func107, Tryz.ntmps107
 go_wp2_with (go_at_call 108; refine (HC.out _).mono ?_; rintro e w1 ⟨rfl, rfl⟩)
 go_ret
 exact ⟨rfl, (Below.refl _ _).alloc (Nat.le_refl _) _⟩
def ItR (w : World) (a : Option Addr) (ps : List ty.It) : Prop := ∀ (i : Nat) (x : ty.It), ps[i]? = some x → ∃ b o a2 c2 a4 c4, a = some ⟨b, o, none⟩ ∧ w.cell? ⟨b, o + i * 5, none⟩ = some (.string x.fPath) ∧ w.cell? ⟨b, o + i * 5 + 1, none⟩ = some (.string x.fSum) ∧ w.cell? ⟨b, o + i * 5 + 2, none⟩ = some (.slice a2 x.fRefs.length c2) ∧ w.cell? ⟨b, o + i * 5 + 3, none⟩ = some (.string x.fFrom) ∧ w.cell? ⟨b, o + i * 5 + 4, none⟩ = some (.slice a4 x.fTree.length c4)
theorem ItR.of {lo : Nat} {w W : World} {a : Option Addr} {ps : List ty.It} (h : ty.SrcIt (some lo) w a ps) (hb : Below w.heap.size w W) : ItR W a ps := fun i x hx => by
 rcases h.below hb with h | ⟨b, o, e, _, hc⟩
 ·cases h.1
 ·obtain ⟨a2, c2, a4, c4, q0, q1, q2, q3, q4, _⟩ := hc i x hx
  exact ⟨b, o, a2, c2, a4, c4, e, q0, q1, q2, q3, q4⟩
set_option maxHeartbeats 4000000 in
set_option maxRecDepth 100000 in
theorem bsI_any (lo0 : Nat) (a : Option Addr) (c : Nat) (ps : List ty.It) (q : ByteArray) (J : Nat) (w : World) (hb : ty.SrcIt (some lo0) w a ps) (hn : ps.length ≤ 300) (hasc : ∀ (i j : Nat) (x y : ty.It), j < i → ps[j]? = some y → ps[i]? = some x → y.fPath.data.toList < x.fPath.data.toList) (hJ : ∃ x, ps[J]? = some x ∧ x.fPath.data.toList = q.data.toList) :
  Calls Tryz.prog 106 #[.slice a ps.length c, .string q, .func (.func 107) #[] #[]] w fun e w' => e = .returned (.tuple #[.int .i64 (J : Int), .bool true]) ∧ Below w.heap.size w w' := by
 have HR : Hid (∀ W, Below w.heap.size w W → ItR W a ps) := fun W h => ItR.of hb h
 have HC : Hid (∀ p v1 v3 v2 v4 W, Calls Tryz.prog 107 #[.agg #[.string p, .string v1, v2, .string v3, v4], .string q] W fun e w' => e = .returned (.int .i64 (cmpI p.data.toList q.data.toList)) ∧ Below W.heap.size W w') := fun p v1 v3 v2 v4 W => in1_any p v1 v3 q v2 v4 W
 obtain ⟨xJ, hxJ, hqJ⟩ := hJ
 have HLT : Hid (∀ (j : Nat) (y : ty.It), ps[j]? = some y → (y.fPath.data.toList < q.data.toList ↔ j < J) ∧ (y.fPath.data.toList = q.data.toList → j = J)) := fun j y hy => by
  rcases Nat.lt_trichotomy j J with h | h | h
  ·have h1 := hasc J j xJ y h hy hxJ
   rw [hqJ] at h1
   exact ⟨⟨fun _ => h, fun _ => h1⟩, fun e => by rw [e] at h1; exact absurd h1 (List.lt_irrefl _)⟩
  ·subst h
   rw [hxJ] at hy
   cases hy
   rw [hqJ]
   exact ⟨⟨fun h => absurd h (List.lt_irrefl _), fun h => by omega⟩, fun _ => rfl⟩
  ·have h1 := hasc j J y xJ h hxJ hy
   rw [hqJ] at h1
   exact ⟨⟨fun h2 => absurd (List.lt_trans h1 h2) (List.lt_irrefl _), fun h => by omega⟩, fun e => by rw [e] at h1; exact absurd h1 (List.lt_irrefl _)⟩
 have HQE : Hid (∀ x, ps[J]? = some x → x.fPath.data.toList = q.data.toList) := fun x h => by rw [hxJ] at h; cases h; exact hqJ
 have hJn : J < ps.length := (List.getElem?_eq_some_iff.1 hxJ).1
 obtain ⟨n, hnn⟩ : ∃ n, ps.length = n := ⟨_, rfl⟩
 have HN : Hid (ps.length = n) := hnn
 rw [hnn] at hn hJn ⊢
 clear hb hasc hxJ hqJ hnn
 go_enter Tryz.func106, Tryz.ntmps106
 go_wp2
 go_loopw [9, 10, 11] (fun x y _ wr => ∃ lo hi : Nat, x = .int .i64 (lo : Int) ∧ y = .int .i64 (hi : Int) ∧ lo ≤ J ∧ J ≤ hi ∧ hi ≤ n ∧ Below w.heap.size w wr) (fun x y _ _ => (intOf y - intOf x).toNat)
 case atStart => exact ⟨0, n, rfl, rfl, Nat.zero_le _, by omega, Nat.le_refl _, Below.refl _ _⟩
 case round =>
  obtain ⟨lo, hi, rfl, rfl, h1, h2, hhn, hbel⟩ := hrel
  have HBE : Hid (Below w.heap.size w wr) := hbel
  by_cases hl : lo < hi
  ·have hl' : (lo : Int) < (hi : Int) := by omega
   obtain ⟨m, hm⟩ : ∃ m : Nat, (lo + hi) / 2 = m := ⟨_, rfl⟩
   have hm1 : lo ≤ m := by omega
   have hm2 : m < hi := by omega
   have hmi : ((lo : Int) + (hi : Int)) / 2 = (m : Int) := by omega
   have hm0 : (0 : Int) ≤ (m : Int) := by omega
   have hmn : (m : Int) < (n : Int) := by omega
   obtain ⟨x, hx⟩ : ∃ x, ps[m]? = some x := ⟨_, List.getElem?_eq_getElem (by rw [HN.out]; omega)⟩
   obtain ⟨b, o, a2, c2, a4, c4, rfl, c0, c1, d2, d3, d4⟩ := HR.out wr hbel m x hx
   have hlt := (HLT.out m x hx).1
   have HCM : Hid (∀ W, Calls Tryz.prog 107 #[.agg #[.string x.fPath, .string x.fSum, .slice a2 x.fRefs.length c2, .string x.fFrom, .slice a4 x.fTree.length c4], .string q] W fun e w' => e = .returned (.int .i64 (cmpI x.fPath.data.toList q.data.toList)) ∧ Below W.heap.size W w') := fun W => HC.out _ _ _ _ _ W
   obtain ⟨P, hP⟩ : ∃ z, x.fPath = z := ⟨_, rfl⟩
   obtain ⟨z1, hz1⟩ : ∃ z, x.fSum = z := ⟨_, rfl⟩
   obtain ⟨z2, hz2⟩ : ∃ z, x.fRefs.length = z := ⟨_, rfl⟩
   obtain ⟨z3, hz3⟩ : ∃ z, x.fFrom = z := ⟨_, rfl⟩
   obtain ⟨z4, hz4⟩ : ∃ z, x.fTree.length = z := ⟨_, rfl⟩
   rw [hP] at c0 hlt HCM
   rw [hz1] at c1 HCM
   rw [hz2] at d2 HCM
   rw [hz3] at d3 HCM
   rw [hz4] at d4 HCM
   clear hm hx hP hz1 hz2 hz3 hz4 hbel
   by_cases hmJ : m < J
   ·rw [cmpI_lt (hlt.2 hmJ)] at HCM
    clear hlt
    go_wp2_with (go_at_call 107; refine (HCM.out _).mono ?_; rintro e w1 ⟨rfl, hl1⟩)
    go_roundw
    case rel => exact ⟨m + 1, hi, by go_num, by first | rfl | trivial, by omega, by omega, hhn, HBE.out.trans (hl1.mono HBE.out.size)⟩
    case measure => simp [intOf] <;> omega
   ·have hnl : ¬ P.data.toList < q.data.toList := fun h => hmJ (hlt.1 h)
    have hnn : ¬ cmpI P.data.toList q.data.toList < 0 := by
     rcases lt_triI P.data.toList q.data.toList with h | h | h
     ·exact absurd h hnl
     ·rw [h, cmpI_eq]; omega
     ·rw [cmpI_gt h]; omega
    obtain ⟨r, hr⟩ : ∃ r, cmpI P.data.toList q.data.toList = r := ⟨_, rfl⟩
    rw [hr] at HCM hnn
    clear hlt hr hnl
    go_wp2_with (go_at_call 107; refine (HCM.out _).mono ?_; rintro e w1 ⟨rfl, hl1⟩)
    go_roundw
    case rel => exact ⟨lo, m, by first | rfl | trivial, by first | rfl | trivial | go_num, by omega, by omega, by omega, HBE.out.trans (hl1.mono HBE.out.size)⟩
    case measure => simp [intOf] <;> omega
  ·have hl' : ¬ (lo : Int) < (hi : Int) := by omega
   obtain rfl : lo = hi := by omega
   obtain rfl : lo = J := by omega
   have hln' : (lo : Int) < (n : Int) := by omega
   have hl0 : (0 : Int) ≤ (lo : Int) := by omega
   obtain ⟨x, hx⟩ : ∃ x, ps[lo]? = some x := ⟨_, List.getElem?_eq_getElem (by rw [HN.out]; omega)⟩
   obtain ⟨b, o, a2, c2, a4, c4, rfl, c0, c1, d2, d3, d4⟩ := HR.out wr hbel lo x hx
   have hxe : x.fPath.data.toList = q.data.toList := by
    exact HQE.out x hx
   have HCM : Hid (∀ W, Calls Tryz.prog 107 #[.agg #[.string x.fPath, .string x.fSum, .slice a2 x.fRefs.length c2, .string x.fFrom, .slice a4 x.fTree.length c4], .string q] W fun e w' => e = .returned (.int .i64 (cmpI x.fPath.data.toList q.data.toList)) ∧ Below W.heap.size W w') := fun W => HC.out _ _ _ _ _ W
   rw [hxe, cmpI_eq] at HCM
   generalize x.fPath = P at *
   generalize x.fSum = z1 at *
   generalize x.fRefs.length = z2 at *
   generalize x.fFrom = z3 at *
   generalize x.fTree.length = z4 at *
   clear hx hxe hbel
   go_wp2_with (go_at_call 107; refine (HCM.out _).mono ?_; rintro e w1 ⟨rfl, hl1⟩)
   go_ret2
   exact ⟨rfl, HBE.out.trans (hl1.mono HBE.out.size)⟩
set_option maxRecDepth 100000 in
theorem inum_any (lo0 : Nat) (a : Option Addr) (c : Nat) (ps : List ty.It) (q : ByteArray) (J : Nat) (w : World) (hb : ty.SrcIt (some lo0) w a ps) (hn : ps.length ≤ 300) (hasc : ∀ (i j : Nat) (x y : ty.It), j < i → ps[j]? = some y → ps[i]? = some x → y.fPath.data.toList < x.fPath.data.toList) (hJ : ∃ x, ps[J]? = some x ∧ x.fPath.data.toList = q.data.toList) :
  Calls Tryz.prog 64 #[.slice a ps.length c, .string q] w fun e w' => e = .returned (.tuple #[.int .i64 (J : Int), .bool true]) ∧ Below w.heap.size w w' := by
 have HB : Hid (Calls Tryz.prog 106 #[.slice a ps.length c, .string q, .func (.func 107) #[] #[]] w fun e w' => e = .returned (.tuple #[.int .i64 (J : Int), .bool true]) ∧ Below w.heap.size w w') := bsI_any lo0 a c ps q J w hb hn hasc hJ
 clear hb hasc hJ
 go_enter Tryz.func64, Tryz.ntmps64
 go_wp2_with (go_at_call 106; refine HB.out.mono ?_; rintro e w1 ⟨rfl, hl1⟩)
 go_ret2
 exact ⟨rfl, hl1⟩
end Go.Proofs.YtcpmgellfaeejaaGreatDoor.sc

namespace Go.Proofs.YtcpmgellfaeejaaGreatDoor.sc
open Go.Proofs.YtcpmgellfaeejaaGreatDoor.so
open Go.ChangeShapes Go.WideShapes Go.ChangeAt Go.RowKit Go.Deep Go.Shelf Go.Maps
set_option linter.unusedVariables false
set_option linter.unusedSimpArgs false
def uF (Pf : Nat → ByteArray) (V : Nat → Value) (j : Nat) : Value := if j % 5 = 0 then .string (Pf (j / 5)) else if j % 5 = 2 then V (j / 5) else if j % 5 = 4 then .slice none 0 0 else .string ⟨#[]⟩
structure TuV (B U n : Nat) (Pf : Nat → ByteArray) (L : Nat → List ByteArray) (V : Nat → Value) (w : World) : Prop where
 row : w.rowIs U 42 (n * 5) (uF Pf V)
 own : ∀ j, j < n → w.ownsRow B 9 1 (V j) (L j).length ((L j).map Value.string)
 dis : ∀ j k, j < n → k < n → j ≠ k → ∀ b, (V j).ownBlock = some b → (V k).ownBlock ≠ some b
def TuS (B U n : Nat) (Pf : Nat → ByteArray) (L : Nat → List ByteArray) (w : World) : Prop := ∃ V, TuV B U n Pf L V w
theorem grown_cell (w : World) (b o : Nat) (v : Value) : w.grownBy (w.setCell ⟨b, o, none⟩ v) (some b) := ⟨rfl, rfl, rfl, by simp, fun j hj hne => blk_setCell_other _ _ _ _ (fun e => hne (by rw [e]))⟩
theorem TuV.below {B U n : Nat} {Pf : Nat → ByteArray} {L : Nat → List ByteArray} {V : Nat → Value} {w w' : World} (h : TuV B U n Pf L V w) (hb : Below w.heap.size w w') : TuV B U n Pf L V w' :=
 ⟨h.row.of_block (hb.block _ h.row.lt), fun j hj => World.ownsRow.kept (h.own j hj) (row := none) ⟨hb.os, hb.tape, hb.output, hb.size, fun i hi _ => hb.block i hi⟩ (Classical.em _), h.dis⟩
theorem TuV.set0 {B U n : Nat} {Pf : Nat → ByteArray} {L : Nat → List ByteArray} {V : Nat → Value} {w : World} (h : TuV B U n Pf L V w) (hU : U < B) (i : Nat) (P : ByteArray) : TuV B U n (fun j => if j = i then P else Pf j) L V (w.setCell ⟨U, i * 5, none⟩ (.string P)) := by
 refine ⟨(h.row.set (i * 5) (.string P)).congr fun j hj => ?_, fun j hj => World.ownsRow.kept (h.own j hj) (row := some U) (grown_cell w U (i * 5) (.string P)) (.inr fun e => ?_), h.dis⟩
 ·unfold uF
  by_cases e : j = i * 5
  ·subst e
   simp
  ·rw [if_neg e]
   by_cases h0 : j % 5 = 0
   ·rw [if_pos h0, if_pos h0]
    show Value.string (Pf (j / 5)) = Value.string (if j / 5 = i then P else Pf (j / 5))
    rw [if_neg (by omega)]
   ·rw [if_neg h0, if_neg h0]
 ·have := ((h.own j hj).lt U e).1
  omega
theorem TuV.set2 {B U n : Nat} {Pf : Nat → ByteArray} {L : Nat → List ByteArray} {V : Nat → Value} {w : World} {at' : Nat} {v : Value} {P : ByteArray} (hr : w.rowIs U 42 (n * 5) (uF Pf V)) (hU : U < B)
  (ho : ∀ j, j < n → j ≠ at' → w.ownsRow B 9 1 (V j) (L j).length ((L j).map Value.string)) (hv : w.ownsRow B 9 1 v (L at' ++ [P]).length ((L at' ++ [P]).map Value.string))
  (hd : ∀ j k, j < n → k < n → j ≠ k → ∀ b, (V j).ownBlock = some b → (V k).ownBlock ≠ some b) (hd2 : ∀ k, k < n → k ≠ at' → ∀ b, v.ownBlock = some b → (V k).ownBlock ≠ some b) :
  TuV B U n Pf (fun j => if j = at' then L at' ++ [P] else L j) (fun j => if j = at' then v else V j) (w.setCell ⟨U, at' * 5 + 2, none⟩ v) := by
 refine ⟨(hr.set (at' * 5 + 2) v).congr fun j hj => ?_, fun j hj => ?_, fun j k hj hk hne b hb => ?_⟩
 ·unfold uF
  by_cases e : j = at' * 5 + 2
  ·subst e
   have e1 : (at' * 5 + 2) % 5 = 2 := by omega
   have e2 : (at' * 5 + 2) / 5 = at' := by omega
   simp [e1, e2]
  ·rw [if_neg e]
   by_cases h0 : j % 5 = 0
   ·rw [if_pos h0, if_pos h0]
   ·rw [if_neg h0, if_neg h0]
    by_cases h2 : j % 5 = 2
    ·rw [if_pos h2, if_pos h2]
     show V (j / 5) = if j / 5 = at' then v else V (j / 5)
     rw [if_neg (by omega)]
    ·rw [if_neg h2, if_neg h2]
 ·by_cases e : j = at'
  ·subst e
   simp only [if_pos]
   exact World.ownsRow.kept hv (row := some U) (grown_cell w U _ _) (.inr fun e => by have := (hv.lt U e).1; omega)
  ·simp only [if_neg e]
   exact World.ownsRow.kept (ho j hj e) (row := some U) (grown_cell w U _ _) (.inr fun e' => by have := ((ho j hj e).lt U e').1; omega)
 ·by_cases e : j = at'
  ·subst e
   simp only [if_pos] at hb
   simp only [if_neg (Ne.symm hne)]
   exact hd2 k hk (Ne.symm hne) b hb
  ·simp only [if_neg e] at hb
   by_cases e2 : k = at'
   ·subst e2
    simp only [if_pos]
    intro hb2
    exact hd2 j hj e b hb2 hb
   ·simp only [if_neg e2]
    exact hd j k hj hk hne b hb
theorem TuV.grow {B U n : Nat} {Pf : Nat → ByteArray} {L : Nat → List ByteArray} {V : Nat → Value} {W : World} (h : TuV B U n Pf L V W) (hU : U < B) {at' : Nat} (hat : at' < n) {P : ByteArray} {ad : Addr} (hy : W.cell? ad = some (.string P)) (hB : B ≤ W.heap.size) (hl : (L at').length ≤ 2000000) :
  ∃ v6 W6, (Builtin.append_ #[33, 33] 33 #[V at', .slice (some ad) 1 1]).run Tryz.prog W = .ok v6 W6 ∧ (∃ a6 l6 c6, v6 = .slice a6 l6 c6) ∧ W6.rowIs U 42 (n * 5) (uF Pf V) ∧ TuS B U n Pf (fun j => if j = at' then L at' ++ [P] else L j) (W6.setCell ⟨U, at' * 5 + 2, none⟩ v6) ∧ (∀ B0, B0 ≤ U → B0 ≤ W.heap.size → Below B0 W (W6.setCell ⟨U, at' * 5 + 2, none⟩ v6)) ∧ ∀ I C, W.heap[I]? = some (.cells C 42) → I ≠ U → (W6.setCell ⟨U, at' * 5 + 2, none⟩ v6).heap[I]? = some (.cells C 42) := by
 obtain ⟨i0, hi, hz0, hz1, hz2⟩ := sr.info_parts sr.info9
 have hnews : ∀ j u, [Value.string P][j]? = some u → W.cell? (ad.add j) = some u := fun j u hj => by
  match j with
  | 0 => simp at hj; subst hj; simpa [Addr.add] using hy
  | j + 1 => simp at hj
 have hone : ∀ u ∈ [Value.string P], u.oneCell' = true := fun u hu => by
  simp only [List.mem_singleton] at hu
  subst hu
  rfl
 obtain ⟨v', w', hr, h1, h2, h3, h4⟩ := run_append_own_at (P := Tryz.prog) W B 33 33 9 i0 _ 1 16 Tryz.underlying33 hi hz0 hz1 hz2 rfl (by omega) (V at') (L at').length ((L at').map Value.string) (h.own at' hat) ad 1 1 [.string P] rfl hnews hone (by unfold maxLen; omega) (by omega) hB
 have hne : some U ≠ (V at').ownBlock := fun e => by have := ((h.own at' hat).lt U e.symm).1; omega
 have hrow : w'.rowIs U 42 (n * 5) (uF Pf V) := h.row.of_block (h2.block U h.row.lt hne)
 have hsh : ∃ a6 l6 c6, v' = .slice a6 l6 c6 := by
  rcases h1.2 with ⟨e2, _⟩ | ⟨g, cap, cur, e2, _⟩
  ·exact ⟨_, _, _, e2⟩
  ·exact ⟨_, _, _, e2⟩
 refine ⟨v', w', hr, hsh, hrow, ⟨_, TuV.set2 hrow hU (fun j hj hja => World.ownsRow.kept (h.own j hj) h2 ?_) (by rw [List.length_append, List.map_append]; exact h1) h.dis (fun k hk hka b hb => ?_)⟩, fun B0 hB0 hB0' => ?_, fun I C hI hIU => ?_⟩
 ·by_cases e : (V j).ownBlock = none
  ·exact .inl e
  ·refine .inr fun e2 => ?_
   obtain ⟨b, hb⟩ : ∃ b, (V j).ownBlock = some b := Option.ne_none_iff_exists'.1 e
   exact h.dis j at' hj hat hja b hb (by rw [← e2]; exact hb)
 ·rcases h4 with e | e
  ·rw [e] at hb
   exact h.dis at' k hat hk (Ne.symm hka) b hb
  ·rw [e] at hb
   have : W.heap.size = b := Option.some.inj hb
   intro hb2
   have := ((h.own k hk).lt b hb2).2
   omega
 ·have hb1 : Below B0 W w' := (Below.refl B0 W).grown h2 hB0' (fun k hk => by have := ((h.own at' hat).lt k hk).1; omega)
  exact hb1.setCell hB0 _
 ·have h5 : some I ≠ (V at').ownBlock := fun e => by
   rcases (h.own at' hat).2 with ⟨e2, _⟩ | ⟨g, cap, cur, e2, _, hg, _⟩
   ·rw [e2] at e; cases e
   ·rw [e2] at e
    have : I = g := Option.some.inj e
    rw [this, hg] at hI
    cases hI
  rw [blk_setCell_other _ _ _ _ hIU, h2.block I (Array.getElem?_eq_some_iff.1 hI).1 h5]
  exact hI
theorem wp_appS {o : Oper} {a : Act} {W W6 : World} {v v6 : Value} {ad : Addr} {K : Act → World → Prop} {Q : Exit → Act → World → Prop} (s x : Operand) (ho : o.op = .call { callee := .builtin .append, args := #[s, x], argTypes := #[33, 33] }) (hty : o.type = 33) (hs : a.eval s = v) (hx : a.eval x = .slice (some ad) 1 1)
  (hr : (Builtin.append_ #[33, 33] 33 #[v, .slice (some ad) 1 1]).run Tryz.prog W = .ok v6 W6) (h : K (a.put o.dst v6) W6) : o.wp Tryz.prog a W K Q := by
 unfold Oper.wp execOp
 simp only [ho, hty, resolve, invoke, builtin, Sem.run_bind, Sem.run_pure, Result.andThen_ok, List.map_toArray, List.map_cons, List.map_nil, hs, hx, hr]
 exact h
def pB (ps : List ty.It) (j : Nat) : ByteArray := (ps[j]?.map fun x => x.fPath).getD ⟨#[]⟩
def pF (ps : List ty.It) (i j : Nat) : ByteArray := if j < i then pB ps j else ⟨#[]⟩
def lF (ps : List ty.It) (i j : Nat) : List ByteArray := ((ps.take i).filter fun z => decide ((pB ps j).data.toList ∈ refL z)).map fun z => z.fPath
def lK (ps : List ty.It) (i k : Nat) (x : ty.It) (j : Nat) : List ByteArray := lF ps i j ++ (if (pB ps j).data.toList ∈ (refL x).take k then [x.fPath] else [])
theorem pB_some {ps : List ty.It} {j : Nat} {x : ty.It} (h : ps[j]? = some x) : pB ps j = x.fPath := by unfold pB; rw [h]; rfl
theorem pF_zero (ps : List ty.It) : pF ps 0 = fun _ => ⟨#[]⟩ := by funext j; unfold pF; rw [if_neg (by omega)]
theorem pF_succ (ps : List ty.It) {i : Nat} {x : ty.It} (h : ps[i]? = some x) : (fun j => if j = i then x.fPath else pF ps i j) = pF ps (i + 1) := by
 funext j
 unfold pF
 by_cases e : j = i
 ·subst e
  rw [if_pos rfl, if_pos (by omega), pB_some h]
 ·rw [if_neg e]
  by_cases h1 : j < i
  ·rw [if_pos h1, if_pos (by omega)]
  ·rw [if_neg h1, if_neg (by omega)]
theorem lF_zero (ps : List ty.It) : lF ps 0 = fun _ => [] := by funext j; simp [lF]
theorem lK_zero (ps : List ty.It) (i : Nat) (x : ty.It) : lK ps i 0 x = lF ps i := by funext j; simp [lK]
theorem lK_all (ps : List ty.It) {i : Nat} {x : ty.It} (h : ps[i]? = some x) {k : Nat} (hk : (refL x).length ≤ k) : lK ps i k x = lF ps (i + 1) := by
 funext j
 unfold lK lF
 rw [List.take_of_length_le hk, List.take_add_one, h, Option.toList_some, List.filter_append, List.map_append]
 congr 1
 by_cases e : (pB ps j).data.toList ∈ refL x
 ·rw [if_pos e, List.filter_cons_of_pos (by simpa using e)]
  rfl
 ·rw [if_neg e, List.filter_cons_of_neg (by simpa using e)]
  rfl
theorem lF_len (ps : List ty.It) (i j : Nat) : (lF ps i j).length ≤ ps.length := by
 unfold lF
 rw [List.length_map]
 refine Nat.le_trans (List.length_filter_le _ _) ?_
 rw [List.length_take]
 omega
theorem lK_len (ps : List ty.It) (i k : Nat) (x : ty.It) (j : Nat) : (lK ps i k x j).length ≤ ps.length + 1 := by
 have h := lF_len ps i j
 unfold lK
 rw [List.length_append]
 split <;> simp <;> omega
theorem lK_step {ps : List ty.It} {i k J : Nat} {x : ty.It} {r : List UInt8} (hr : (refL x)[k]? = some r) (hnd : (refL x).Nodup) (hJ : (pB ps J).data.toList = r) (hun : ∀ j, j < ps.length → (pB ps j).data.toList = r → j = J) (hJn : J < ps.length) : ∀ j, j < ps.length → (if j = J then lK ps i k x J ++ [x.fPath] else lK ps i k x j) = lK ps i (k + 1) x j := fun j hj => by
 have hk := (List.getElem?_eq_some_iff.1 hr).1
 have htk : (refL x).take (k + 1) = (refL x).take k ++ [r] := by rw [List.take_add_one, hr]; rfl
 have hno : r ∉ (refL x).take k := fun hm => by
  obtain ⟨m, hm'⟩ := List.getElem?_of_mem hm
  have hml := (List.getElem?_eq_some_iff.1 hm').1
  rw [List.length_take] at hml
  rw [List.getElem?_take_of_lt (by omega)] at hm'
  have := (List.getElem?_inj (by omega) hnd).1 (hm'.trans hr.symm)
  omega
 unfold lK
 rw [htk]
 by_cases e : j = J
 ·subst e
  rw [if_pos rfl, hJ, if_neg hno, if_pos (by simp), List.append_nil]
 ·rw [if_neg e]
  have hne : (pB ps j).data.toList ≠ r := fun e2 => e (hun j hj e2)
  congr 1
  by_cases h1 : (pB ps j).data.toList ∈ (refL x).take k
  ·rw [if_pos h1, if_pos (List.mem_append_left _ h1)]
  ·rw [if_neg h1, if_neg (fun h => by rcases List.mem_append.1 h with h | h; exact h1 h; exact hne (by simpa using h))]
theorem TuS.congr {B U n : Nat} {Pf : Nat → ByteArray} {L L' : Nat → List ByteArray} {w : World} (h : TuS B U n Pf L w) (e : ∀ j, j < n → L j = L' j) : TuS B U n Pf L' w := by
 obtain ⟨V, h1, h2, h3⟩ := h
 exact ⟨V, h1, fun j hj => by rw [← e j hj]; exact h2 j hj, h3⟩
def usL (ps : List ty.It) : List ty.It := (List.range ps.length).map fun j => ⟨pB ps j, ⟨#[]⟩, lF ps ps.length j, ⟨#[]⟩, []⟩
end Go.Proofs.YtcpmgellfaeejaaGreatDoor.sc

namespace Go.Proofs.YtcpmgellfaeejaaGreatDoor.sc
open Go.Proofs.YtcpmgellfaeejaaGreatDoor.so
open Go.ChangeShapes Go.WideShapes Go.ChangeAt Go.RowKit Go.Deep Go.Shelf Go.Maps
set_option linter.unusedVariables false
set_option linter.unusedSimpArgs false
theorem uF_two (Pf : Nat → ByteArray) (V : Nat → Value) (J : Nat) : uF Pf V (J * 5 + 2) = V J := by
 unfold uF
 rw [if_neg (by omega), if_pos (by omega)]
 have : (J * 5 + 2) / 5 = J := by omega
 rw [this]
theorem uF_zero (Pf : Nat → ByteArray) (V : Nat → Value) (J : Nat) : uF Pf V (J * 5) = .string (Pf J) := by
 unfold uF
 rw [if_pos (by omega)]
 have : (J * 5) / 5 = J := by omega
 rw [this]
theorem TuS.below {B U n : Nat} {Pf : Nat → ByteArray} {L : Nat → List ByteArray} {w w' : World} (h : TuS B U n Pf L w) (hb : Below w.heap.size w w') : TuS B U n Pf L w' := by
 obtain ⟨V, hV⟩ := h
 exact ⟨V, hV.below hb⟩
theorem TuS.zero (w : World) (n : Nat) (ps : List ty.It) : TuS (w.heap.size + 1) w.heap.size n (pF ps 0) (lF ps 0) (w.alloc (.cells (madeCells (Value.agg #[.string ⟨#[]⟩, .string ⟨#[]⟩, .slice none 0 0, .string ⟨#[]⟩, .slice none 0 0]).cells (n * 5)) 42)) := by
 refine ⟨fun _ => .slice none 0 0, (ty.rowIs_madeN w #[.string ⟨#[]⟩, .string ⟨#[]⟩, .slice none 0 0, .string ⟨#[]⟩, .slice none 0 0] n 5 42 rfl (by omega)).congr fun j hj => ?_, fun j hj => ?_, fun j k _ _ _ b hb => by cases hb⟩
 ·rw [pF_zero]
  unfold uF
  have h5 : j % 5 < 5 := Nat.mod_lt _ (by omega)
  match hm : j % 5, h5 with
  | 0, _ => rfl
  | 1, _ => rfl
  | 2, _ => rfl
  | 3, _ => rfl
  | 4, _ => rfl
 ·rw [lF_zero]
  exact World.ownsRow_nil _ _ 9 1
set_option maxRecDepth 100000 in
set_option maxHeartbeats 16000000 in
theorem turned_any (lo : Nat) (a : Option Addr) (c : Nat) (ps : List ty.It) (w : World) (hb : ty.SrcIt (some lo) w a ps) (hn : ps.length ≤ 300) (hasc : ∀ (i j : Nat) (x y : ty.It), j < i → ps[j]? = some y → ps[i]? = some x → y.fPath.data.toList < x.fPath.data.toList) (hrf : ∀ x ∈ ps, x.fRefs.length ≤ 300 ∧ (refL x).Nodup ∧ ∀ r ∈ refL x, r ∈ pths ps) :
  Calls Tryz.prog 52 #[.slice a ps.length c] w fun e w' => e = .returned (.slice (some ⟨w.heap.size, 0, none⟩) ps.length ps.length) ∧ TuS (w.heap.size + 1) w.heap.size ps.length (pF ps ps.length) (lF ps ps.length) w' ∧ Below w.heap.size w w' := by
 have hmk := ty.makeN (P := Tryz.prog) 24 42 (.agg #[.string ⟨#[]⟩, .string ⟨#[]⟩, .slice none 0 0, .string ⟨#[]⟩, .slice none 0 0]) 5 96 Tryz.underlying24 ty.infoIt .i64 .i64 ps.length (by omega) (by omega)
 have HSR : Hid (ty.SrcIt (some lo) w a ps) := hb
 have HRF : Hid (∀ x ∈ ps, x.fRefs.length ≤ 300 ∧ (refL x).Nodup ∧ ∀ r ∈ refL x, r ∈ pths ps) := hrf
 have HUN : Hid (∀ i j, i < ps.length → j < ps.length → (pB ps i).data.toList = (pB ps j).data.toList → i = j) := fun i j hi hj e => by
  rw [pB_some (List.getElem?_eq_getElem hi), pB_some (List.getElem?_eq_getElem hj)] at e
  rcases Nat.lt_trichotomy i j with h | h | h
  ·have := hasc j i _ _ h (List.getElem?_eq_getElem hi) (List.getElem?_eq_getElem hj)
   rw [e] at this
   exact absurd this (List.lt_irrefl _)
  ·exact h
  ·have := hasc i j _ _ h (List.getElem?_eq_getElem hj) (List.getElem?_eq_getElem hi)
   rw [e] at this
   exact absurd this (List.lt_irrefl _)
 have HNU : Hid (∀ (q : ByteArray) (J : Nat) (W : World), Below w.heap.size w W → J < ps.length → (pB ps J).data.toList = q.data.toList → Calls Tryz.prog 64 #[.slice a ps.length c, .string q] W fun e w' => e = .returned (.tuple #[.int .i64 (J : Int), .bool true]) ∧ Below W.heap.size W w') := fun q J W h hJ e => inum_any lo a c ps q J W (hb.below h) hn hasc ⟨_, List.getElem?_eq_getElem hJ, by rw [← pB_some (List.getElem?_eq_getElem hJ)]; exact e⟩
 have HT0 : Hid (TuS (w.heap.size + 1) w.heap.size ps.length (pF ps 0) (lF ps 0) (w.alloc (.cells (madeCells (Value.agg #[.string ⟨#[]⟩, .string ⟨#[]⟩, .slice none 0 0, .string ⟨#[]⟩, .slice none 0 0]).cells (ps.length * 5)) 42))) := TuS.zero w ps.length ps
 have HB0 : Hid (∀ ob, Below w.heap.size w (w.alloc ob)) := fun ob => (Below.refl _ _).alloc (Nat.le_refl _) _
 obtain ⟨U, hU⟩ : ∃ U, w.heap.size = U := ⟨_, rfl⟩
 have HUU : Hid (w.heap.size = U) := hU
 have hUw : w.heap.size ≤ U := by omega
 rw [hU] at HT0
 obtain ⟨n, hnn⟩ : ∃ n, ps.length = n := ⟨_, rfl⟩
 have HN : Hid (ps.length = n) := hnn
 rw [hnn] at hn hmk HUN HNU HT0 ⊢
 clear hb hasc hrf hnn
 go_enter Tryz.func52, Tryz.ntmps52
 go_wp2
 clear hmk
 try rw [HUU.out]
 go_loopw [4, 7, 8, 9, 15] (fun _ _ _ _ y wr => ∃ i : Nat, i ≤ n ∧ y = .int .i64 (i : Int) ∧ TuS (U + 1) U n (pF ps i) (lF ps i) wr ∧ Below w.heap.size w wr) (fun _ _ _ _ y _ => n - (intOf y).toNat)
 case atStart => exact ⟨0, Nat.zero_le _, rfl, HT0.out, HB0.out _⟩
 case round =>
  obtain ⟨i, hi, rfl, hts, hbel⟩ := hrel
  have HTS : Hid (TuS (U + 1) U n (pF ps i) (lF ps i) wr) := hts
  have HBE : Hid (Below w.heap.size w wr) := hbel
  by_cases hil : i < n
  ·have hil' : (i : Int) < (n : Int) := by omega
   have hi0 : (0 : Int) ≤ (i : Int) := by omega
   obtain ⟨x, hx⟩ : ∃ x, ps[i]? = some x := ⟨_, List.getElem?_eq_getElem (by rw [HN.out]; exact hil)⟩
   obtain ⟨b, o, rfl, hc⟩ : ∃ b o, a = some ⟨b, o, none⟩ ∧ ∀ (j : Nat) (y : ty.It), ps[j]? = some y → ty.CIt (some lo) w b (o + j * 5) y := by
    rcases HSR.out with h | ⟨b, o, e, _, h⟩
    ·cases h.1
    ·exact ⟨b, o, e, h⟩
   obtain ⟨a2, c2, a4, c4, q0, q1, q2, q3, q4, s2, s4, t2, t4⟩ := hc i x hx
   obtain ⟨rb, ro, rfl, hrc⟩ : ∃ rb ro, a2 = some ⟨rb, ro, none⟩ ∧ ∀ (j : Nat) (y : ByteArray), x.fRefs[j]? = some y → w.cell? ⟨rb, ro + j, none⟩ = some (.string y) := by
    rcases s2 with h | ⟨b, o, e, _, h⟩
    ·cases h.1
    ·exact ⟨b, o, e, h⟩
   have HRC : Hid (∀ (j : Nat) (y : ByteArray), x.fRefs[j]? = some y → ∀ W, Below w.heap.size w W → W.cell? ⟨rb, ro + j, none⟩ = some (.string y)) := fun j y hy W h => (h.cell (p := ⟨rb, _, none⟩) (World.block_lt_of_cell? _ _ (hrc j y hy))).trans (hrc j y hy)
   have K : ∀ {p v}, w.cell? ⟨b, p, none⟩ = some v → wr.cell? ⟨b, p, none⟩ = some v := fun {p v} k => (hbel.cell (p := ⟨b, p, none⟩) (World.block_lt_of_cell? _ _ k)).trans k
   have r0 := K q0
   have r1 := K q1
   have r2 := K q2
   have r3 := K q3
   have r4 := K q4
   have hxr := HRF.out x (List.mem_of_getElem? hx)
   have hm2 := hxr.1
   have HXR : Hid ((refL x).Nodup ∧ ∀ r ∈ refL x, r ∈ pths ps) := hxr.2
   have HXX : Hid (ps[i]? = some x) := hx
   have HPS : Hid ((fun j => if j = i then x.fPath else pF ps i j) = pF ps (i + 1)) := pF_succ ps hx
   obtain ⟨m2, hmm2⟩ : ∃ m, x.fRefs.length = m := ⟨_, rfl⟩
   have HM2 : Hid (x.fRefs.length = m2) := hmm2
   obtain ⟨P, hP⟩ : ∃ z, x.fPath = z := ⟨_, rfl⟩
   have HPP : Hid (x.fPath = P) := hP
   obtain ⟨z1, hz1⟩ : ∃ z, x.fSum = z := ⟨_, rfl⟩
   obtain ⟨z3, hz3⟩ : ∃ z, x.fFrom = z := ⟨_, rfl⟩
   obtain ⟨m4, hmm4⟩ : ∃ m, x.fTree.length = m := ⟨_, rfl⟩
   rw [hP] at r0 HPS
   rw [hz1] at r1
   rw [hmm2] at r2 hm2
   rw [hz3] at r3
   rw [hmm4] at r4
   obtain ⟨V, hV⟩ := hts
   have hUl : U < wr.heap.size := hV.row.lt
   have hu0 : wr.cell? ⟨U, i * 5, none⟩ = some (.string (pF ps i i)) := by
    have := hV.row.cell (i := i * 5) (by omega)
    rw [uF_zero] at this
    exact this
   have hf0 : wr.frozen? ⟨U, i * 5, none⟩ = false := hV.row.frozen _
   have hu1 : ∀ ob, (wr.alloc ob).cell? ⟨U, i * 5, none⟩ = some (.string (pF ps i i)) := fun ob => (((Below.refl _ wr).alloc (Nat.le_refl _) ob).cell (p := ⟨U, i * 5, none⟩) hUl).trans hu0
   have hf1 : ∀ ob, (wr.alloc ob).frozen? ⟨U, i * 5, none⟩ = false := fun ob => (hV.row.alloc ob).frozen _
   have hn1 : ¬ U = wr.heap.size := by omega
   have hn2 : ¬ wr.heap.size = U := by omega
   obtain ⟨wo, rfl⟩ : ∃ wo, wo = wr := ⟨_, rfl⟩
   obtain ⟨I, hI⟩ : ∃ I, wo.heap.size = I := ⟨_, rfl⟩
   obtain ⟨C, hC⟩ : ∃ C : Array Value, #[.string P, .string z1, .slice (some ⟨rb, ro, none⟩) m2 c2, .string z3, .slice a4 m4 c4] = C := ⟨_, rfl⟩
   have HT1 : Hid (TuS (U + 1) U n (pF ps (i + 1)) (lK ps i 0 x) ((wo.setCell ⟨U, i * 5, none⟩ (.string P)).alloc (.cells #[.string P, .string z1, .slice (some ⟨rb, ro, none⟩) m2 c2, .string z3, .slice a4 m4 c4] 42))) := by
    rw [lK_zero, ← HPS.out]
    exact ⟨V, (hV.set0 (Nat.lt_succ_self U) i P).below ((Below.refl _ _).alloc (Nat.le_refl _) _)⟩
   have HI1 : Hid (((wo.setCell ⟨U, i * 5, none⟩ (.string P)).alloc (.cells #[.string P, .string z1, .slice (some ⟨rb, ro, none⟩) m2 c2, .string z3, .slice a4 m4 c4] 42)).heap[I]? = some (.cells C 42)) := by
    show _ = _
    have e : (wo.setCell ⟨U, i * 5, none⟩ (.string P)).heap.size = I := by rw [← hI]; simp
    rw [← e, ← hC]
    exact blk_new _ _
   have HB1 : Hid (Below w.heap.size w ((wo.setCell ⟨U, i * 5, none⟩ (.string P)).alloc (.cells #[.string P, .string z1, .slice (some ⟨rb, ro, none⟩) m2 c2, .string z3, .slice a4 m4 c4] 42))) := (HBE.out.setCell hUw _).alloc (HBE.out.setCell hUw _).size _
   have HC0 : Hid (C[0]? = some (.string P)) := by show _ = _; rw [← hC]; rfl
   have hIU : U < I := by omega
   have HIE : Hid (wo.heap.size = I) := hI
   clear hc hrc s2 s4 t2 t4 q0 q1 q2 q3 q4 K hx hxr hbel hmm2 hP hz1 hz3 hmm4 hV hC hI hu0 hf0
   go_wp2
   go_loopw [7, 8, 9, 29] (fun _ _ _ y wr => ∃ k : Nat, k ≤ m2 ∧ y = .int .i64 (k : Int) ∧ TuS (U + 1) U n (pF ps (i + 1)) (lK ps i k x) wr ∧ wr.heap[I]? = some (.cells C 42) ∧ Below w.heap.size w wr) (fun _ _ _ y _ => m2 - (intOf y).toNat)
   case atStart => exact ⟨0, Nat.zero_le _, rfl, HT1.out, HI1.out, HB1.out⟩
   case round =>
    obtain ⟨k, hk, rfl, hts, hib, hbel⟩ := hrel
    have HT2 : Hid (TuS (U + 1) U n (pF ps (i + 1)) (lK ps i k x) wr) := hts
    have HI2 : Hid (wr.heap[I]? = some (.cells C 42)) := hib
    have HB2 : Hid (Below w.heap.size w wr) := hbel
    clear hts hib
    by_cases hkl : k < m2
    ·have hkl' : (k : Int) < (m2 : Int) := by omega
     have hk0 : (0 : Int) ≤ (k : Int) := by omega
     obtain ⟨r, hr⟩ : ∃ r, x.fRefs[k]? = some r := ⟨_, List.getElem?_eq_getElem (by rw [HM2.out]; exact hkl)⟩
     have p0 := HRC.out k r hr wr hbel
     have hrr : (refL x)[k]? = some r.data.toList := by unfold refL; rw [List.getElem?_map, hr]; rfl
     obtain ⟨J, hJn, hJr⟩ : ∃ J, J < n ∧ (pB ps J).data.toList = r.data.toList := by
      have h1 := HXR.out.2 _ (List.mem_of_getElem? hrr)
      obtain ⟨J, hJ⟩ := List.getElem?_of_mem h1
      have hJl := (List.getElem?_eq_some_iff.1 hJ).1
      rw [pths_len, HN.out] at hJl
      refine ⟨J, hJl, ?_⟩
      rw [pB_some (List.getElem?_eq_getElem (by rw [HN.out]; exact hJl))]
      have e : (pths ps)[J]? = some (ps[J]'(by rw [HN.out]; exact hJl)).fPath.data.toList := pth_some (List.getElem?_eq_getElem _)
      rw [hJ] at e
      exact (Option.some.inj e).symm
     have HLS : Hid (∀ j, j < n → (if j = J then lK ps i k x J ++ [P] else lK ps i k x j) = lK ps i (k + 1) x j) := fun j hj => by
      rw [← HPP.out]
      exact lK_step hrr HXR.out.1 hJr (fun j' hj' e => HUN.out j' J (by rw [← HN.out]; exact hj') hJn (e.trans hJr.symm)) (by rw [HN.out]; exact hJn) j (by rw [HN.out]; exact hj)
     have HNJ := Lib.hid (HNU.out r J wr HB2.out hJn hJr)
     have hJi : (J : Int) < (n : Int) := by omega
     have hJ0 : (0 : Int) ≤ (J : Int) := by omega
     clear hr hrr hJr hbel
     go_wp2_with (go_at_call 64; refine HNJ.out.mono ?_; rintro e w3 ⟨rfl, hl3⟩; refine Hid.out ?_)
     refine Lib.hid ?_
     have HTd : Hid (TuS (U + 1) U n (pF ps (i + 1)) (lK ps i k x) w3.drew) := (HT2.out.below hl3).below (Below.refl _ _).drew
     have HId : Hid (w3.drew.heap[I]? = some (.cells C 42)) := (hl3.block I (Array.getElem?_eq_some_iff.1 HI2.out).1).trans HI2.out
     have HBd : Hid (Below w.heap.size w w3.drew) := (HB2.out.trans (hl3.mono HB2.out.size)).drew
     have HSd : Hid (w3.drew.heap.size = w3.heap.size) := rfl
     clear hl3 HNJ
     go_wp2_with fail
     refine wp_region_held_drew (S := fun _ => True) (by kernel_rfl) (trivial) (fun hHeld => ?_)
     obtain ⟨wd, hwd⟩ : ∃ z, w3.drew = z := ⟨_, rfl⟩
     rw [hwd] at HTd HId HBd HSd
     rw [hwd]
     clear hwd
     obtain ⟨V, hV⟩ := HTd.out
     have l6 : wd.cell? ⟨U, J * 5 + 2, none⟩ = some (V J) := by
      have := hV.row.cell (i := J * 5 + 2) (by omega)
      rw [uF_two] at this
      exact this
     have l8 : wd.cell? ⟨wo.heap.size, 0, none⟩ = some (.string P) := by
      rw [HIE.out]
      simp only [World.cell?, HId.out]
      exact HC0.out
     have hVa : TuV (U + 1) U n (pF ps (i + 1)) (lK ps i k x) V (wd.alloc (.cells #[.string P] 9)) := hV.below ((Below.refl _ _).alloc (Nat.le_refl _) _)
     have m6 : (wd.alloc (.cells #[.string P] 9)).cell? ⟨U, J * 5 + 2, none⟩ = some (V J) := by
      have := hVa.row.cell (i := J * 5 + 2) (by omega)
      rw [uF_two] at this
      exact this
     obtain ⟨_, W6, hap, ⟨a6, l6, c6, rfl⟩, hrow6, ht6, hb6, hi6⟩ := hVa.grow (Nat.lt_succ_self U) hJn (P := P) (ad := ⟨wd.heap.size, 0, none⟩) (by rw [World.cell?_alloc_new]; rfl) (by have := hV.row.lt; simp; omega) (by have := lK_len ps i k x J; have := HN.out; omega)
     have c7 : W6.cell? ⟨U, J * 5 + 2, none⟩ = some (V J) := by
      have := hrow6.cell (i := J * 5 + 2) (by omega)
      rw [uF_two] at this
      exact this
     have q7 : W6.frozen? ⟨U, J * 5 + 2, none⟩ = false := hrow6.frozen _
     have HT6 : Hid (TuS (U + 1) U n (pF ps (i + 1)) (lK ps i (k + 1) x) (W6.setCell ⟨U, J * 5 + 2, none⟩ (.slice a6 l6 c6))) := ht6.congr HLS.out
     have HI6 : Hid ((W6.setCell ⟨U, J * 5 + 2, none⟩ (.slice a6 l6 c6)).heap[I]? = some (.cells C 42)) := hi6 I C (by rw [← HId.out]; exact ((Below.refl _ wd).alloc (Nat.le_refl _) _).block I (Array.getElem?_eq_some_iff.1 HId.out).1) (by omega)
     have HB6 : Hid (Below w.heap.size w (W6.setCell ⟨U, J * 5 + 2, none⟩ (.slice a6 l6 c6))) := (HBd.out.alloc HBd.out.size _).trans (hb6 w.heap.size hUw (HBd.out.alloc HBd.out.size _).size)
     clear hV hVa hrow6 ht6 hb6 hi6 HLS
     refine tq (i := 0) rfl (v := ?v1) ?hy1 ?r1
     case hy1 => (intro w hSw; (try dsimp only at hSw); go_simp; try with_reducible rfl)
     try simp only [aP]
     refine tq (i := 1) rfl (v := ?v2) ?hy2 ?r2
     case hy2 => (intro w hSw; (try dsimp only at hSw); go_simp; try with_reducible rfl)
     try simp only [aP]
     refine tq (i := 2) rfl (v := ?v3) ?hy3 ?r3
     case hy3 => (intro w hSw; (try dsimp only at hSw); go_simp; try with_reducible rfl)
     try simp only [aP]
     refine tq (i := 3) rfl (v := ?v4) ?hy4 ?r4
     case hy4 => (intro w hSw; (try dsimp only at hSw); go_simp; try with_reducible rfl)
     try simp only [aP]
     refine tq (i := 4) rfl (v := ?v5) ?hy5 ?r5
     case hy5 => (intro w hSw; (try dsimp only at hSw); go_simp; try with_reducible rfl)
     try simp only [aP]
     refine tq (i := 5) rfl (v := ?v6) ?hy6 ?r6
     case hy6 => (intro w hSw; (try dsimp only at hSw); go_simp; try with_reducible rfl)
     try simp only [aP]
     refine tq (i := 7) rfl (v := ?v7) ?hy7 ?r7
     case hy7 => (intro w hSw; (try dsimp only at hSw); go_simp; try with_reducible rfl)
     try simp only [aP]
     refine wpAnyH_ready (rs := [6, 8]) (by kernel_rfl) (by simp) ?_
     refine cq rfl (fun K hK => ?_) (cq rfl (fun K hK => ?_) AllReadyH.nil)
     ·go_simp
      skip
      try go_wp2_with fail
      refine hK.out _ _ trivial (fun hHeld => ?_)
      clear hK K
      try simp only [aP]
      refine wpAnyH_ready (rs := [8]) (by kernel_rfl) (by simp) ?_
      refine cq rfl (fun K hK => ?_) AllReadyH.nil
      go_simp
      skip
      try go_wp2_with fail
      refine hK.out _ _ (trivial) (fun hHeld => ?_)
      clear hK K
      try simp only [aP]
      refine wpAnyH_ready (rs := [9]) (by kernel_rfl) (by simp) ?_
      refine cq rfl (fun K hK => ?_) AllReadyH.nil
      go_simp
      skip
      try go_wp2_with fail
      refine hK.out _ _ (trivial) (fun hHeld => ?_)
      clear hK K
      try simp only [aP]
      refine wpAnyH_ready (rs := [10]) (by kernel_rfl) (by simp) ?_
      refine cq rfl (fun K hK => ?_) AllReadyH.nil
      refine wp_appS _ _ rfl rfl rfl rfl hap ?_
      try go_wp2_with fail
      refine hK.out _ _ (trivial) (fun hHeld => ?_)
      clear hK K
      try simp only [aP]
      refine tq (i := 11) rfl (v := ?v8) ?hy8 ?r8
      case hy8 => (intro w hSw; (try dsimp only at hSw); go_simp; try with_reducible rfl)
      try simp only [aP]
      refine tq (i := 12) rfl (v := ?v9) ?hy9 ?r9
      case hy9 => (intro w hSw; (try dsimp only at hSw); go_simp; try with_reducible rfl)
      try simp only [aP]
      refine wpAnyH_ready (rs := [13]) (by kernel_rfl) (by simp) ?_
      refine cq rfl (fun K hK => ?_) AllReadyH.nil
      go_simp
      skip
      try go_wp2_with fail
      refine hK.out _ _ (trivial) (fun hHeld => ?_)
      clear hK K
      try simp only [aP]
      refine wpAnyH_done (by kernel_rfl) ?_ _
      go_wp2
      go_roundw
      case rel => exact ⟨k + 1, by omega, by go_num, HT6.out, HI6.out, HB6.out⟩
      case measure => simp [intOf]; omega
     ·go_simp
      skip
      try go_wp2_with fail
      refine hK.out _ _ trivial (fun hHeld => ?_)
      clear hK K
      try simp only [aP]
      refine wpAnyH_ready (rs := [6, 9]) (by kernel_rfl) (by simp) ?_
      refine cq rfl (fun K hK => ?_) (cq rfl (fun K hK => ?_) AllReadyH.nil)
      ·go_simp
       skip
       try go_wp2_with fail
       refine hK.out _ _ trivial (fun hHeld => ?_)
       clear hK K
       try simp only [aP]
       refine wpAnyH_ready (rs := [9]) (by kernel_rfl) (by simp) ?_
       refine cq rfl (fun K hK => ?_) AllReadyH.nil
       go_simp
       skip
       try go_wp2_with fail
       refine hK.out _ _ (trivial) (fun hHeld => ?_)
       clear hK K
       try simp only [aP]
       refine wpAnyH_ready (rs := [10]) (by kernel_rfl) (by simp) ?_
       refine cq rfl (fun K hK => ?_) AllReadyH.nil
       refine wp_appS _ _ rfl rfl rfl rfl hap ?_
       try go_wp2_with fail
       refine hK.out _ _ (trivial) (fun hHeld => ?_)
       clear hK K
       try simp only [aP]
       refine tq (i := 11) rfl (v := ?v10) ?hy10 ?r10
       case hy10 => (intro w hSw; (try dsimp only at hSw); go_simp; try with_reducible rfl)
       try simp only [aP]
       refine tq (i := 12) rfl (v := ?v11) ?hy11 ?r11
       case hy11 => (intro w hSw; (try dsimp only at hSw); go_simp; try with_reducible rfl)
       try simp only [aP]
       refine wpAnyH_ready (rs := [13]) (by kernel_rfl) (by simp) ?_
       refine cq rfl (fun K hK => ?_) AllReadyH.nil
       go_simp
       skip
       try go_wp2_with fail
       refine hK.out _ _ (trivial) (fun hHeld => ?_)
       clear hK K
       try simp only [aP]
       refine wpAnyH_done (by kernel_rfl) ?_ _
       go_wp2
       go_roundw
       case rel => exact ⟨k + 1, by omega, by go_num, HT6.out, HI6.out, HB6.out⟩
       case measure => simp [intOf]; omega
      ·go_simp
       skip
       try go_wp2_with fail
       refine hK.out _ _ trivial (fun hHeld => ?_)
       clear hK K
       try simp only [aP]
       refine wpAnyH_ready (rs := [6]) (by kernel_rfl) (by simp) ?_
       refine cq rfl (fun K hK => ?_) AllReadyH.nil
       go_simp
       skip
       try go_wp2_with fail
       refine hK.out _ _ (trivial) (fun hHeld => ?_)
       clear hK K
       try simp only [aP]
       refine wpAnyH_ready (rs := [10]) (by kernel_rfl) (by simp) ?_
       refine cq rfl (fun K hK => ?_) AllReadyH.nil
       refine wp_appS _ _ rfl rfl rfl rfl hap ?_
       try go_wp2_with fail
       refine hK.out _ _ (trivial) (fun hHeld => ?_)
       clear hK K
       try simp only [aP]
       refine tq (i := 11) rfl (v := ?v12) ?hy12 ?r12
       case hy12 => (intro w hSw; (try dsimp only at hSw); go_simp; try with_reducible rfl)
       try simp only [aP]
       refine tq (i := 12) rfl (v := ?v13) ?hy13 ?r13
       case hy13 => (intro w hSw; (try dsimp only at hSw); go_simp; try with_reducible rfl)
       try simp only [aP]
       refine wpAnyH_ready (rs := [13]) (by kernel_rfl) (by simp) ?_
       refine cq rfl (fun K hK => ?_) AllReadyH.nil
       go_simp
       skip
       try go_wp2_with fail
       refine hK.out _ _ (trivial) (fun hHeld => ?_)
       clear hK K
       try simp only [aP]
       refine wpAnyH_done (by kernel_rfl) ?_ _
       go_wp2
       go_roundw
       case rel => exact ⟨k + 1, by omega, by go_num, HT6.out, HI6.out, HB6.out⟩
       case measure => simp [intOf]; omega
    ·have hkl' : ¬ (k : Int) < (m2 : Int) := by omega
     obtain rfl : k = m2 := by omega
     have HT3 : Hid (TuS (U + 1) U n (pF ps (i + 1)) (lF ps (i + 1)) wr) := by
      show TuS _ _ _ _ _ _
      rw [← lK_all ps HXX.out (k := k) (by unfold refL; rw [List.length_map, HM2.out]; exact Nat.le_refl _)]
      exact HT2.out
     clear hbel
     go_wp2
     go_roundw
     case rel => exact ⟨i + 1, by omega, by go_num, HT3.out, HB2.out⟩
     case measure => simp [intOf]; omega
  ·have hil' : ¬ (i : Int) < (n : Int) := by omega
   obtain rfl : i = n := by omega
   clear hbel hts
   go_wp2
   go_ret
   exact ⟨rfl, HTS.out, by rw [← HUU.out]; exact HBE.out⟩
end Go.Proofs.YtcpmgellfaeejaaGreatDoor.sc
