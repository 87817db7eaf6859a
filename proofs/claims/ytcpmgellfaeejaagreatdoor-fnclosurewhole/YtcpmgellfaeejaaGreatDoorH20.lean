import Derived.Test.YtcpmgellfaeejaaGreatDoorH18
import Derived.Test.YtcpmgellfaeejaaGreatDoorH08
import Derived.Test.YtcpmgellfaeejaaGreatDoorH19
import Derived.Test.YtcpmgellfaeejaaGreatDoorH02
import Derived.Maps.AppendAt
import Derived.Deep.Cut
import Derived.Deep.CutBlock
import Derived.Deep.CutRange
namespace Go.Proofs.YtcpmgellfaeejaaGreatDoor.so
open Go.ChangeShapes Go.WideShapes Go.ChangeAt Go.RowKit Go.Deep Go.Shelf Go.Maps
set_option linter.unusedVariables false
set_option linter.unusedSimpArgs false
def hasB (ps : List ty.It) (p : ByteArray) : Bool := decide (p.data.toList ∈ pths ps)
theorem st_facts {ps : List ty.It} (h : stB ps = true) : ps.length ≤ 300 ∧ ap.asB (ps.map fun y => y.fPath) = true := by
 unfold stB at h
 simp only [Bool.and_eq_true, decide_eq_true_eq] at h
 exact ⟨h.1, h.2.1⟩
noncomputable def cmpI (p q : List UInt8) : Int := if p < q then -1 else if q < p then 1 else 0
theorem cmpI_lt {p q : List UInt8} (h : p < q) : cmpI p q = -1 := by unfold cmpI; rw [if_pos h]
theorem cmpI_gt {p q : List UInt8} (h : q < p) : cmpI p q = 1 := by unfold cmpI; rw [if_neg (fun h2 => List.lt_irrefl _ (List.lt_trans h h2)), if_pos h]
theorem cmpI_eq (p : List UInt8) : cmpI p p = 0 := by unfold cmpI; rw [if_neg (List.lt_irrefl _), if_neg (List.lt_irrefl _)]
theorem lt_triI (p q : List UInt8) : p < q ∨ p = q ∨ q < p := by
 by_cases h : p < q
 ·exact .inl h
 ·by_cases h2 : q < p
  ·exact .inr (.inr h2)
  ·exact .inr (.inl (List.le_antisymm (List.not_lt.1 h2) (List.not_lt.1 h)))
theorem cmpI_zero {p q : List UInt8} : cmpI p q = 0 ↔ p = q := by
 constructor
 ·intro h
  rcases lt_triI p q with h1 | h1 | h1
  ·rw [cmpI_lt h1] at h; cases h
  ·exact h1
  ·rw [cmpI_gt h1] at h; cases h
 ·rintro rfl; exact cmpI_eq _
theorem blI (x y : ByteArray) : Op.bytesLess x.toList y.toList = decide (x.data.toList < y.data.toList) := by rw [ByteArray.toList_eq, ByteArray.toList_eq, Go.Proofs.bytesLess_eq]
theorem nanI_any (p : ByteArray) (w : World) : Calls Tryz.prog 126 #[.string p] w fun e w' => e = .returned (.bool false) ∧ w' = w := by
 go_enter Tryz.func126, Tryz.ntmps126
 go_wp2
 go_ret
 first | exact ⟨rfl, rfl⟩ | exact ⟨by simp, rfl⟩
set_option maxRecDepth 100000 in
theorem cmpI_any (p q : ByteArray) (w : World) : Calls Tryz.prog 108 #[.string p, .string q] w fun e w' => e = .returned (.int .i64 (cmpI p.data.toList q.data.toList)) ∧ w' = w := by
 have HNA : Hid (∀ x W, Calls Tryz.prog 126 #[.string x] W fun e w' => e = .returned (.bool false) ∧ w' = W) := fun x W => nanI_any x W
 obtain ⟨r, hr⟩ : ∃ r, cmpI p.data.toList q.data.toList = r := ⟨_, rfl⟩
 rw [hr]
 have HR : Hid (cmpI p.data.toList q.data.toList = r) := hr
 clear hr
 rcases lt_triI p.data.toList q.data.toList with h | h | h
 ·have h1 : Op.bytesLess p.toList q.toList = true := by rw [blI]; simpa using h
  have e : r = -1 := HR.out.symm.trans (cmpI_lt h)
  subst e
  clear h HR
  go_enter Tryz.func108, Tryz.ntmps108
  go_wp2_with (go_at_call 126; refine (HNA.out _ _).mono ?_; rintro e w1 ⟨rfl, rfl⟩)
  go_ret
  exact ⟨rfl, rfl⟩
 ·have h1 : Op.bytesLess p.toList q.toList = false := by rw [blI, h]; exact decide_eq_false (List.lt_irrefl _)
  have h2 : (p.toList == q.toList) = true := by rw [ByteArray.toList_eq, ByteArray.toList_eq]; simpa using h
  have e : r = 0 := HR.out.symm.trans (by rw [h]; exact cmpI_eq _)
  subst e
  clear h HR
  go_enter Tryz.func108, Tryz.ntmps108
  go_wp2_with (go_at_call 126; refine (HNA.out _ _).mono ?_; rintro e w1 ⟨rfl, rfl⟩)
  go_ret
  exact ⟨rfl, rfl⟩
 ·have h1 : Op.bytesLess p.toList q.toList = false := by rw [blI]; exact decide_eq_false (fun h2 => List.lt_irrefl _ (List.lt_trans h h2))
  have h2 : (p.toList == q.toList) = false := by
   rw [ByteArray.toList_eq, ByteArray.toList_eq, beq_eq_false_iff_ne]
   intro e
   rw [e] at h
   exact List.lt_irrefl _ h
  have e : r = 1 := HR.out.symm.trans (cmpI_gt h)
  subst e
  clear h HR
  go_enter Tryz.func108, Tryz.ntmps108
  go_wp2_with (go_at_call 126; refine (HNA.out _ _).mono ?_; rintro e w1 ⟨rfl, rfl⟩)
  go_ret
  exact ⟨rfl, rfl⟩
set_option maxRecDepth 100000 in
theorem in1_any (p v1 v3 q : ByteArray) (v2 v4 : Value) (w : World) :
  Calls Tryz.prog 107 #[.agg #[.string p, .string v1, v2, .string v3, v4], .string q] w fun e w' => e = .returned (.int .i64 (cmpI p.data.toList q.data.toList)) ∧ Below w.heap.size w w' := by
 have HC : Hid (∀ W, Calls Tryz.prog 108 #[.string p, .string q] W fun e w' => e = .returned (.int .i64 (cmpI p.data.toList q.data.toList)) ∧ w' = W) := fun W => cmpI_any p q W
 obtain ⟨r, hr⟩ : ∃ r, cmpI p.data.toList q.data.toList = r := ⟨_, rfl⟩
 rw [hr] at HC ⊢
 clear hr
 go_enter Tryz.func107, Tryz.ntmps107
 go_wp2_with (go_at_call 108; refine (HC.out _).mono ?_; rintro e w1 ⟨rfl, rfl⟩)
 go_ret
 exact ⟨rfl, (Below.refl _ _).alloc (Nat.le_refl _) _⟩
def ItR (w : World) (a : Option Addr) (ps : List ty.It) : Prop := ∀ (i : Nat) (x : ty.It), ps[i]? = some x → ∃ b o a2 c2 a4 c4, a = some ⟨b, o, none⟩ ∧ w.cell? ⟨b, o + i * 5, none⟩ = some (.string x.fPath) ∧ w.cell? ⟨b, o + i * 5 + 1, none⟩ = some (.string x.fSum) ∧ w.cell? ⟨b, o + i * 5 + 2, none⟩ = some (.slice a2 x.fRefs.length c2) ∧ w.cell? ⟨b, o + i * 5 + 3, none⟩ = some (.string x.fFrom) ∧ w.cell? ⟨b, o + i * 5 + 4, none⟩ = some (.slice a4 x.fTree.length c4)
theorem ItR.of {w W : World} {a : Option Addr} {ps : List ty.It} (h : ty.SrcIt none w a ps) (hb : Below w.heap.size w W) : ItR W a ps := fun i x hx => by
 rcases h.below hb with h | ⟨b, o, e, _, hc⟩
 ·rw [h.2] at hx; simp at hx
 ·obtain ⟨a2, c2, a4, c4, q0, q1, q2, q3, q4, _⟩ := hc i x hx
  exact ⟨b, o, a2, c2, a4, c4, e, q0, q1, q2, q3, q4⟩
structure RkI (ps : List ty.It) (q : List UInt8) (J : Nat) : Prop where
 le : J ≤ ps.length
 lo : ∀ (j : Nat) (y : ty.It), j < J → ps[j]? = some y → y.fPath.data.toList < q
 hi : ∀ (j : Nat) (y : ty.It), J ≤ j → ps[j]? = some y → ¬ y.fPath.data.toList < q
def AscI (ps : List ty.It) : Prop := ∀ (i j : Nat) (x y : ty.It), j < i → ps[j]? = some y → ps[i]? = some x → y.fPath.data.toList < x.fPath.data.toList
theorem mem_pths {ps : List ty.It} {q : List UInt8} : q ∈ pths ps ↔ ∃ (i : Nat) (x : ty.It), ps[i]? = some x ∧ x.fPath.data.toList = q := by
 unfold pths
 rw [List.mem_map]
 constructor
 ·rintro ⟨x, hx, e⟩
  obtain ⟨i, hi⟩ := List.getElem?_of_mem hx
  exact ⟨i, x, hi, e⟩
 ·rintro ⟨i, x, hi, e⟩
  exact ⟨x, List.mem_of_getElem? hi, e⟩
theorem RkI.found {ps : List ty.It} {q : List UInt8} {J : Nat} (h : RkI ps q J) (ha : AscI ps) {x : ty.It} (hx : ps[J]? = some x) : x.fPath.data.toList = q ↔ q ∈ pths ps := by
 rw [mem_pths]
 constructor
 ·intro e; exact ⟨J, x, hx, e⟩
 ·rintro ⟨i, y, hy, e⟩
  rcases Nat.lt_trichotomy i J with h1 | h1 | h1
  ·exact absurd (h.lo i y h1 hy) (by rw [e]; exact List.lt_irrefl _)
  ·subst h1; rw [hx] at hy; cases hy; exact e
  ·have := ha i J y x h1 hx hy
   rw [e] at this
   exact absurd this (h.hi J x (Nat.le_refl _) hx)
theorem RkI.last {ps : List ty.It} {q : List UInt8} {J : Nat} (h : RkI ps q J) (hJ : J = ps.length) : ¬ q ∈ pths ps := by
 rw [mem_pths]
 rintro ⟨i, y, hy, e⟩
 have := h.lo i y (by have := (List.getElem?_eq_some_iff.1 hy).1; omega) hy
 rw [e] at this
 exact List.lt_irrefl _ this
set_option maxHeartbeats 4000000 in
set_option maxRecDepth 100000 in
theorem bsI_any (a : Option Addr) (c : Nat) (ps : List ty.It) (q : ByteArray) (w : World) (hb : ty.SrcIt none w a ps) (hn : ps.length ≤ 300) (hasc : AscI ps) :
  Calls Tryz.prog 106 #[.slice a ps.length c, .string q, .func (.func 107) #[] #[]] w fun e w' => (∃ J : Nat, RkI ps q.data.toList J ∧ e = .returned (.tuple #[.int .i64 (J : Int), .bool (hasB ps q)])) ∧ Below w.heap.size w w' := by
 have HR : Hid (∀ W, Below w.heap.size w W → ItR W a ps) := fun W h => ItR.of hb h
 have HC : Hid (∀ p v1 v3 v2 v4 W, Calls Tryz.prog 107 #[.agg #[.string p, .string v1, v2, .string v3, v4], .string q] W fun e w' => e = .returned (.int .i64 (cmpI p.data.toList q.data.toList)) ∧ Below W.heap.size W w') := fun p v1 v3 v2 v4 W => in1_any p v1 v3 q v2 v4 W
 have HUP : Hid (∀ (i j : Nat) (x y : ty.It), j ≤ i → ps[j]? = some y → ps[i]? = some x → x.fPath.data.toList < q.data.toList → y.fPath.data.toList < q.data.toList) := fun i j x y hji hy hx hlt => by
  rcases Nat.lt_or_ge j i with h | h
  ·exact List.lt_trans (hasc i j x y h hy hx) hlt
  ·obtain rfl : j = i := by omega
   rw [hy] at hx; cases hx; exact hlt
 have HFO : Hid (∀ (J : Nat), RkI ps q.data.toList J → ∀ x, ps[J]? = some x → hasB ps q = decide (x.fPath.data.toList = q.data.toList)) := fun J h x hx => by
  unfold hasB
  exact decide_eq_decide.2 (h.found hasc hx).symm
 have HLA : Hid (∀ (J : Nat), RkI ps q.data.toList J → J = ps.length → hasB ps q = false) := fun J h e => decide_eq_false (h.last e)
 obtain ⟨n, hnn⟩ : ∃ n, ps.length = n := ⟨_, rfl⟩
 have HN : Hid (ps.length = n) := hnn
 obtain ⟨V, hV⟩ : ∃ V, hasB ps q = V := ⟨_, rfl⟩
 rw [hV] at HFO HLA ⊢
 rw [hnn] at hn ⊢
 clear hb hasc hnn hV
 go_enter Tryz.func106, Tryz.ntmps106
 go_wp2
 go_loopw [9, 10, 11] (fun x y _ wr => ∃ lo hi : Nat, x = .int .i64 (lo : Int) ∧ y = .int .i64 (hi : Int) ∧ lo ≤ hi ∧ hi ≤ n ∧ (∀ (j : Nat) (y : ty.It), j < lo → ps[j]? = some y → y.fPath.data.toList < q.data.toList) ∧ (∀ (j : Nat) (y : ty.It), hi ≤ j → ps[j]? = some y → ¬ y.fPath.data.toList < q.data.toList) ∧ Below w.heap.size w wr) (fun x y _ _ => (intOf y - intOf x).toNat)
 case atStart => exact ⟨0, n, rfl, rfl, Nat.zero_le _, Nat.le_refl _, fun j y h => by omega, fun j y h hy => by have := (List.getElem?_eq_some_iff.1 hy).1; have := HN.out; omega, Below.refl _ _⟩
 case round =>
  obtain ⟨lo, hi, rfl, rfl, h1, hhn, hlo, hhi, hbel⟩ := hrel
  have HBE : Hid (Below w.heap.size w wr) := hbel
  have HLO : Hid (∀ (j : Nat) (y : ty.It), j < lo → ps[j]? = some y → y.fPath.data.toList < q.data.toList) := hlo
  have HHI : Hid (∀ (j : Nat) (y : ty.It), hi ≤ j → ps[j]? = some y → ¬ y.fPath.data.toList < q.data.toList) := hhi
  clear hlo hhi
  by_cases hl : lo < hi
  ·have hl' : (lo : Int) < (hi : Int) := by omega
   obtain ⟨m, hm⟩ : ∃ m : Nat, (lo + hi) / 2 = m := ⟨_, rfl⟩
   have hm1 : lo ≤ m := by omega
   have hm2 : m < hi := by omega
   have hmi : ((lo : Int) + (hi : Int)) / 2 = (m : Int) := by omega
   have hm0 : (0 : Int) ≤ (m : Int) := by omega
   have hmn : (m : Int) < (n : Int) := by omega
   obtain ⟨x, hx⟩ : ∃ x, ps[m]? = some x := ⟨_, List.getElem?_eq_getElem (by rw [HN.out]; omega)⟩
   obtain ⟨b, o, a2, c2, a4, c4, rfl, c0, c1, d2, d3, d4⟩ := HR.out wr hbel m x hx
   have HX : Hid (ps[m]? = some x) := hx
   have HCM : Hid (∀ W, Calls Tryz.prog 107 #[.agg #[.string x.fPath, .string x.fSum, .slice a2 x.fRefs.length c2, .string x.fFrom, .slice a4 x.fTree.length c4], .string q] W fun e w' => e = .returned (.int .i64 (cmpI x.fPath.data.toList q.data.toList)) ∧ Below W.heap.size W w') := fun W => HC.out _ _ _ _ _ W
   obtain ⟨P, hP⟩ : ∃ z, x.fPath = z := ⟨_, rfl⟩
   have HPX : Hid (x.fPath = P) := hP
   obtain ⟨z1, hz1⟩ : ∃ z, x.fSum = z := ⟨_, rfl⟩
   obtain ⟨z2, hz2⟩ : ∃ z, x.fRefs.length = z := ⟨_, rfl⟩
   obtain ⟨z3, hz3⟩ : ∃ z, x.fFrom = z := ⟨_, rfl⟩
   obtain ⟨z4, hz4⟩ : ∃ z, x.fTree.length = z := ⟨_, rfl⟩
   rw [hP] at c0 HCM
   rw [hz1] at c1 HCM
   rw [hz2] at d2 HCM
   rw [hz3] at d3 HCM
   rw [hz4] at d4 HCM
   clear hm hx hP hz1 hz2 hz3 hz4 hbel
   by_cases hmJ : P.data.toList < q.data.toList
   ·rw [cmpI_lt hmJ] at HCM
    have HNL : Hid (∀ (j : Nat) (y : ty.It), j < m + 1 → ps[j]? = some y → y.fPath.data.toList < q.data.toList) := fun j y hj hy => HUP.out m j x y (by omega) hy HX.out (by rw [HPX.out]; exact hmJ)
    clear hmJ
    go_wp2_with (go_at_call 107; refine (HCM.out _).mono ?_; rintro e w1 ⟨rfl, hl1⟩)
    go_roundw
    case rel => exact ⟨m + 1, hi, by go_num, by first | rfl | trivial, by omega, hhn, HNL.out, HHI.out, HBE.out.trans (hl1.mono HBE.out.size)⟩
    case measure => simp [intOf] <;> omega
   ·have hnn : ¬ cmpI P.data.toList q.data.toList < 0 := by
     rcases lt_triI P.data.toList q.data.toList with h | h | h
     ·exact absurd h hmJ
     ·rw [h, cmpI_eq]; omega
     ·rw [cmpI_gt h]; omega
    have HNH : Hid (∀ (j : Nat) (y : ty.It), m ≤ j → ps[j]? = some y → ¬ y.fPath.data.toList < q.data.toList) := fun j y hj hy hlt => hmJ (by have := HUP.out j m y x hj HX.out hy hlt; rwa [HPX.out] at this)
    obtain ⟨r, hr⟩ : ∃ r, cmpI P.data.toList q.data.toList = r := ⟨_, rfl⟩
    rw [hr] at HCM hnn
    clear hmJ hr
    go_wp2_with (go_at_call 107; refine (HCM.out _).mono ?_; rintro e w1 ⟨rfl, hl1⟩)
    go_roundw
    case rel => exact ⟨lo, m, by first | rfl | trivial, by first | rfl | trivial | go_num, by omega, by omega, HLO.out, HNH.out, HBE.out.trans (hl1.mono HBE.out.size)⟩
    case measure => simp [intOf] <;> omega
  ·have hl' : ¬ (lo : Int) < (hi : Int) := by omega
   obtain rfl : lo = hi := by omega
   have HRK : Hid (RkI ps q.data.toList lo) := ⟨by have := HN.out; omega, HLO.out, HHI.out⟩
   by_cases hln : lo < n
   ·have hln' : (lo : Int) < (n : Int) := by omega
    have hl0 : (0 : Int) ≤ (lo : Int) := by omega
    obtain ⟨x, hx⟩ : ∃ x, ps[lo]? = some x := ⟨_, List.getElem?_eq_getElem (by rw [HN.out]; omega)⟩
    obtain ⟨b, o, a2, c2, a4, c4, rfl, c0, c1, d2, d3, d4⟩ := HR.out wr hbel lo x hx
    have HVE : Hid (V = decide (cmpI x.fPath.data.toList q.data.toList = 0)) := by
     show _ = _
     rw [HFO.out lo HRK.out x hx]
     exact decide_eq_decide.2 cmpI_zero.symm
    have HCM : Hid (∀ W, Calls Tryz.prog 107 #[.agg #[.string x.fPath, .string x.fSum, .slice a2 x.fRefs.length c2, .string x.fFrom, .slice a4 x.fTree.length c4], .string q] W fun e w' => e = .returned (.int .i64 (cmpI x.fPath.data.toList q.data.toList)) ∧ Below W.heap.size W w') := fun W => HC.out _ _ _ _ _ W
    generalize x.fPath = P at *
    generalize x.fSum = z1 at *
    generalize x.fRefs.length = z2 at *
    generalize x.fFrom = z3 at *
    generalize x.fTree.length = z4 at *
    generalize cmpI P.data.toList q.data.toList = r at *
    clear hx hbel
    go_wp2_with (go_at_call 107; refine (HCM.out _).mono ?_; rintro e w1 ⟨rfl, hl1⟩)
    go_ret2
    exact ⟨⟨lo, HRK.out, by rw [HVE.out]; first | rfl | simp | (congr 3; simp)⟩, HBE.out.trans (hl1.mono HBE.out.size)⟩
   ·have hln' : ¬ (lo : Int) < (n : Int) := by omega
    have HVE : Hid (V = false) := HLA.out lo HRK.out (by have := HN.out; omega)
    clear hbel
    go_wp2
    go_ret2
    exact ⟨⟨lo, HRK.out, by rw [HVE.out]; rfl⟩, HBE.out⟩
set_option maxRecDepth 100000 in
theorem inum_any (a : Option Addr) (c : Nat) (ps : List ty.It) (q : ByteArray) (w : World) (hb : ty.SrcIt none w a ps) (hn : ps.length ≤ 300) (hasc : AscI ps) :
  Calls Tryz.prog 64 #[.slice a ps.length c, .string q] w fun e w' => (∃ J : Nat, RkI ps q.data.toList J ∧ e = .returned (.tuple #[.int .i64 (J : Int), .bool (hasB ps q)])) ∧ Below w.heap.size w w' := by
 have HB : Hid (Calls Tryz.prog 106 #[.slice a ps.length c, .string q, .func (.func 107) #[] #[]] w fun e w' => (∃ J : Nat, RkI ps q.data.toList J ∧ e = .returned (.tuple #[.int .i64 (J : Int), .bool (hasB ps q)])) ∧ Below w.heap.size w w') := bsI_any a c ps q w hb hn hasc
 clear hb hasc
 generalize hasB ps q = V at *
 generalize ps.length = n at *
 go_enter Tryz.func64, Tryz.ntmps64
 go_wp2_with (go_at_call 106; refine HB.out.mono ?_; rintro e w1 ⟨⟨J, hJ, rfl⟩, hl1⟩)
 go_ret2
 exact ⟨⟨J, hJ, rfl⟩, hl1⟩
set_option maxRecDepth 100000 in
set_option maxHeartbeats 2000000 in
theorem sfind_any (a : Option Addr) (c : Nat) (ps : List ty.It) (t : ByteArray) (w : World) (hb : ty.SrcIt none w a ps) (hn : ps.length ≤ 1048576) :
  Calls Tryz.prog 26 #[.slice a ps.length c, .string t] w fun e w' => (∃ r : Int, e = .returned (.int .i64 r) ∧ (0 ≤ r ∧ hasB ps t = true ∨ r = -1 ∧ hasB ps t = false)) ∧ w' = w := by
 have HB : Hid (ty.SrcIt none w a ps) := hb
 have HNO : Hid ((∀ (j : Nat) (z : ty.It), ps[j]? = some z → z.fPath.data.toList ≠ t.data.toList) → hasB ps t = false) := fun h => decide_eq_false fun hm => by
  obtain ⟨i, x, hx, e⟩ := mem_pths.1 hm
  exact h i x hx e
 have HYE : Hid (∀ (i : Nat) (x : ty.It), ps[i]? = some x → x.fPath.data.toList = t.data.toList → hasB ps t = true) := fun i x h1 h2 => decide_eq_true (mem_pths.2 ⟨i, x, h1, h2⟩)
 obtain ⟨V, hV⟩ : ∃ V, hasB ps t = V := ⟨_, rfl⟩
 rw [hV] at HNO HYE ⊢
 obtain ⟨n, hnn⟩ : ∃ n, ps.length = n := ⟨_, rfl⟩
 have HN : Hid (ps.length = n) := hnn
 rw [hnn] at hn ⊢
 clear hb hnn hV
 go_enter Tryz.func26, Tryz.ntmps26
 go_wp2
 go_loopw [5] (fun y wr => ∃ i : Nat, i ≤ n ∧ y = .int .i64 (i : Int) ∧ (∀ (j : Nat) (z : ty.It), j < i → ps[j]? = some z → z.fPath.data.toList ≠ t.data.toList) ∧ wr = w) (fun y _ => n - (intOf y).toNat)
 case atStart => exact ⟨0, Nat.zero_le _, rfl, fun j z h => by omega, rfl⟩
 case round =>
  obtain ⟨i, hi, rfl, hno, rfl⟩ := hrel
  have HA : Hid (∀ (j : Nat) (z : ty.It), j < i → ps[j]? = some z → z.fPath.data.toList ≠ t.data.toList) := hno
  clear hno
  by_cases hil : i < n
  ·have hil' : (i : Int) < (n : Int) := by omega
   have hi0 : (0 : Int) ≤ (i : Int) := by omega
   obtain ⟨x, hx⟩ : ∃ x, ps[i]? = some x := ⟨_, List.getElem?_eq_getElem (by rw [HN.out]; exact hil)⟩
   rcases HB.out with ⟨_, h⟩ | ⟨b, o, rfl, _, hc⟩
   ·rw [h] at hx; simp at hx
   obtain ⟨a2, c2, a4, c4, g0, g1, g2, g3, g4, _, _, _, _⟩ := hc i x hx
   have HX : Hid (ps[i]? = some x) := hx
   obtain ⟨P, hP⟩ : ∃ P, x.fPath = P := ⟨_, rfl⟩
   have HPP : Hid (x.fPath = P) := hP
   rw [hP] at g0
   generalize x.fRefs.length = m2 at *
   generalize x.fTree.length = m4 at *
   generalize x.fSum = q1 at *
   generalize x.fFrom = q3 at *
   clear hc hx hP g1 g2 g3 g4
   cases he : (P.toList == t.toList) with
   | true =>
    have HR : Hid (V = true) := HYE.out i x HX.out (by rw [HPP.out, ← ByteArray.toList_eq, ← ByteArray.toList_eq]; simpa using he)
    go_wp2
    go_ret
    exact ⟨⟨_, rfl, .inl ⟨hi0, HR.out⟩⟩, rfl⟩
   | false =>
    have HN2 : Hid (∀ (j : Nat) (z : ty.It), j < i + 1 → ps[j]? = some z → z.fPath.data.toList ≠ t.data.toList) := fun j z hj hz => by
     rcases Nat.lt_or_ge j i with h | h
     ·exact HA.out j z h hz
     ·obtain rfl : j = i := by omega
      rw [HX.out] at hz
      cases hz
      rw [HPP.out, ← ByteArray.toList_eq, ← ByteArray.toList_eq]
      simpa using he
    go_wp2
    go_roundw
    case rel => exact ⟨i + 1, by omega, by go_num, HN2.out, by first | rfl | trivial⟩
    case measure => simp [intOf] <;> omega
  ·have hil' : ¬ (i : Int) < (n : Int) := by omega
   have HF : Hid (V = false) := HNO.out fun j z hz => HA.out j z (by have := (List.getElem?_eq_some_iff.1 hz).1; have := HN.out; omega) hz
   go_wp2
   go_ret
   exact ⟨⟨_, rfl, .inr ⟨rfl, HF.out⟩⟩, rfl⟩
end Go.Proofs.YtcpmgellfaeejaaGreatDoor.so

namespace Go.Proofs.YtcpmgellfaeejaaGreatDoor.so
open Go.ChangeShapes Go.WideShapes Go.ChangeAt Go.RowKit Go.Deep Go.Shelf Go.Maps
set_option linter.unusedVariables false
set_option linter.unusedSimpArgs false
def FdI (ps : List ty.It) (q : List UInt8) (r : Int) : Prop := (r = -1 ∧ ∀ (j : Nat) (z : ty.It), ps[j]? = some z → z.fPath.data.toList ≠ q) ∨ ∃ (i : Nat) (x : ty.It), r = (i : Int) ∧ ps[i]? = some x ∧ x.fPath.data.toList = q
noncomputable def newI (ps : List ty.It) (p fr : ByteArray) (t : List ty.Et) : ty.It := ⟨p, tt.tsB (enT t) t.length, (rf.rfs (enT t) t.length (pths ps ++ [p.data.toList])).map (fun l => ⟨l.toArray⟩), fr, t⟩
noncomputable def rkN (ps : List ty.It) (q : List UInt8) : Nat := (ps.takeWhile fun y => decide (y.fPath.data.toList < q)).length
noncomputable def insL (ps : List ty.It) (x : ty.It) : List ty.It := ps.take (rkN ps x.fPath.data.toList) ++ x :: ps.drop (rkN ps x.fPath.data.toList)
noncomputable def awB (ps : List ty.It) (p : ByteArray) : Bool := ps.any fun y => rf.inB (enT y.fTree) y.fTree.length (p.data.toList.take 13)
noncomputable def hadC (ps : List ty.It) (p su : ByteArray) : Int := if ((ps.find? fun x => decide (x.fPath.data.toList = p.data.toList)).map (fun x => x.fSum)) = some su then 1 else 2
noncomputable def addC (ps : List ty.It) (p : ByteArray) (t : List ty.Et) : Int := if hasB ps p = true then hadC ps p (tt.tsB (enT t) t.length) else if awB ps p = true then 3 else if ps.length = 300 then 4 else 0
noncomputable def addL (ps : List ty.It) (p fr : ByteArray) (t : List ty.Et) : List ty.It := if addC ps p t = 0 then insL ps (newI ps p fr t) else ps
noncomputable def aitB (ps : List ty.It) (p fr : ByteArray) (t : List ty.Et) : Bool := stB ps && (wd.aokB p && (frB fr && tt.treeB (enT t) t.length))
theorem has_fd {ps : List ty.It} {p : ByteArray} {i : Nat} {x : ty.It} (hx : ps[i]? = some x) (e : x.fPath.data.toList = p.data.toList) : hasB ps p = true := decide_eq_true (mem_pths.2 ⟨i, x, hx, e⟩)
theorem has_no {ps : List ty.It} {p : ByteArray} (h : ∀ (j : Nat) (z : ty.It), ps[j]? = some z → z.fPath.data.toList ≠ p.data.toList) : hasB ps p = false := decide_eq_false fun hm => by
 obtain ⟨i, x, hx, e⟩ := mem_pths.1 hm
 exact h i x hx e
theorem asc_one {ps : List ty.It} (ha : AscI ps) {i j : Nat} {x y : ty.It} (hx : ps[i]? = some x) (hy : ps[j]? = some y) (e : x.fPath.data.toList = y.fPath.data.toList) : i = j := by
 rcases Nat.lt_trichotomy i j with h | h | h
 ·have := ha j i y x h hx hy; rw [e] at this; exact absurd this (List.lt_irrefl _)
 ·exact h
 ·have := ha i j x y h hy hx; rw [e] at this; exact absurd this (List.lt_irrefl _)
theorem had_eq {ps : List ty.It} (ha : AscI ps) {p su : ByteArray} {i : Nat} {x : ty.It} (hx : ps[i]? = some x) (e : x.fPath.data.toList = p.data.toList) : hadC ps p su = if x.fSum = su then 1 else 2 := by
 unfold hadC
 have hf : (ps.find? fun x => decide (x.fPath.data.toList = p.data.toList)) = some x := by
  cases hq : ps.find? fun x => decide (x.fPath.data.toList = p.data.toList) with
  | none =>
   have := List.find?_eq_none.1 hq x (List.mem_of_getElem? hx)
   simp [e] at this
  | some y =>
   have h1 := List.find?_some hq
   have h2 := List.mem_of_find?_eq_some hq
   obtain ⟨j, hj⟩ := List.getElem?_of_mem h2
   have h3 : y.fPath.data.toList = p.data.toList := of_decide_eq_true h1
   have h4 := asc_one ha hx hj (e.trans h3.symm)
   subst h4
   rw [hx] at hj
   exact hj.symm
 rw [hf]
 simp only [Option.map_some, Option.some.injEq]
set_option maxRecDepth 100000 in
set_option maxHeartbeats 2000000 in
theorem sfindI_any (a : Option Addr) (c : Nat) (ps : List ty.It) (t : ByteArray) (w : World) (hb : ty.SrcIt none w a ps) (hn : ps.length ≤ 1048576) :
  Calls Tryz.prog 26 #[.slice a ps.length c, .string t] w fun e w' => (∃ r : Int, e = .returned (.int .i64 r) ∧ FdI ps t.data.toList r) ∧ w' = w := by
 have HB : Hid (ty.SrcIt none w a ps) := hb
 have HNO : Hid ((∀ (j : Nat) (z : ty.It), ps[j]? = some z → z.fPath.data.toList ≠ t.data.toList) → FdI ps t.data.toList (-1)) := fun h => .inl ⟨rfl, h⟩
 have HYE : Hid (∀ (i : Nat) (x : ty.It), ps[i]? = some x → x.fPath.data.toList = t.data.toList → FdI ps t.data.toList (i : Int)) := fun i x h1 h2 => .inr ⟨i, x, rfl, h1, h2⟩
 obtain ⟨n, hnn⟩ : ∃ n, ps.length = n := ⟨_, rfl⟩
 have HN : Hid (ps.length = n) := hnn
 rw [hnn] at hn ⊢
 clear hb hnn
 go_enter Tryz.func26, Tryz.ntmps26
 go_wp2
 go_loopw [5] (fun y wr => ∃ i : Nat, i ≤ n ∧ y = .int .i64 (i : Int) ∧ (∀ (j : Nat) (z : ty.It), j < i → ps[j]? = some z → z.fPath.data.toList ≠ t.data.toList) ∧ wr = w) (fun y _ => n - (intOf y).toNat)
 case atStart => exact ⟨0, Nat.zero_le _, rfl, fun j z h => by omega, rfl⟩
 case round =>
  obtain ⟨i, hi, rfl, hno, rfl⟩ := hrel
  have HA : Hid (∀ (j : Nat) (z : ty.It), j < i → ps[j]? = some z → z.fPath.data.toList ≠ t.data.toList) := hno
  clear hno
  by_cases hil : i < n
  ·have hil' : (i : Int) < (n : Int) := by omega
   have hi0 : (0 : Int) ≤ (i : Int) := by omega
   obtain ⟨x, hx⟩ : ∃ x, ps[i]? = some x := ⟨_, List.getElem?_eq_getElem (by rw [HN.out]; exact hil)⟩
   rcases HB.out with ⟨_, h⟩ | ⟨b, o, rfl, _, hc⟩
   ·rw [h] at hx; simp at hx
   obtain ⟨a2, c2, a4, c4, g0, g1, g2, g3, g4, _, _, _, _⟩ := hc i x hx
   have HX : Hid (ps[i]? = some x) := hx
   obtain ⟨P, hP⟩ : ∃ P, x.fPath = P := ⟨_, rfl⟩
   have HPP : Hid (x.fPath = P) := hP
   rw [hP] at g0
   generalize x.fRefs.length = m2 at *
   generalize x.fTree.length = m4 at *
   generalize x.fSum = q1 at *
   generalize x.fFrom = q3 at *
   clear hc hx hP g1 g2 g3 g4
   cases he : (P.toList == t.toList) with
   | true =>
    have HR : Hid (FdI ps t.data.toList (i : Int)) := HYE.out i x HX.out (by rw [HPP.out, ← ByteArray.toList_eq, ← ByteArray.toList_eq]; simpa using he)
    go_wp2
    go_ret
    exact ⟨⟨_, rfl, HR.out⟩, rfl⟩
   | false =>
    have HN2 : Hid (∀ (j : Nat) (z : ty.It), j < i + 1 → ps[j]? = some z → z.fPath.data.toList ≠ t.data.toList) := fun j z hj hz => by
     rcases Nat.lt_or_ge j i with h | h
     ·exact HA.out j z h hz
     ·obtain rfl : j = i := by omega
      rw [HX.out] at hz
      cases hz
      rw [HPP.out, ← ByteArray.toList_eq, ← ByteArray.toList_eq]
      simpa using he
    go_wp2
    go_roundw
    case rel => exact ⟨i + 1, by omega, by go_num, HN2.out, by first | rfl | trivial⟩
    case measure => simp [intOf] <;> omega
  ·have hil' : ¬ (i : Int) < (n : Int) := by omega
   have HF : Hid (FdI ps t.data.toList (-1)) := HNO.out fun j z hz => HA.out j z (by have := (List.getElem?_eq_some_iff.1 hz).1; have := HN.out; omega) hz
   go_wp2
   go_ret
   exact ⟨⟨_, rfl, HF.out⟩, rfl⟩
end Go.Proofs.YtcpmgellfaeejaaGreatDoor.so

namespace Go.Proofs.YtcpmgellfaeejaaGreatDoor.sr
open Go.ChangeShapes Go.WideShapes Go.ChangeAt Go.RowKit Go.Deep
set_option linter.unusedVariables false
set_option linter.unusedSimpArgs false
set_option maxRecDepth 100000 in
theorem l3has_any (xs : List (List UInt8)) (v : Value) (s : ByteArray) (w : World) (hR : StrR w v xs) :
  Calls Tryz.prog 88 #[v, .string s] w fun e w' => e = .returned (.bool (decide (s.data.toList ∈ xs))) ∧ w' = w := by
 obtain ⟨bb, off, cap, rfl, h1, h2, hc⟩ := hR
 have HC : Hid (∀ i, i < xs.length → w.cell? ⟨bb, off + i, none⟩ = some (strL (xAt xs i))) := fun i hi => hc i _ (xAt_some hi)
 unfold maxLen at h2
 clear hc
 go_enter Tryz.func88, Tryz.ntmps88
 go_wp2
 go_loopw [5] (fun x wr => ∃ (i : Nat), i ≤ xs.length ∧ x = .int .i64 (i : Int) ∧ (∀ j, j < i → xAt xs j ≠ s.data.toList) ∧ wr = w) (fun x _ => xs.length - (intOf x).toNat)
 case atStart => exact ⟨0, Nat.zero_le _, rfl, fun j h => by omega, rfl⟩
 case round =>
  obtain ⟨i, hi, rfl, hno, rfl⟩ := hrel
  have HNO : Hid (∀ j, j < i → xAt xs j ≠ s.data.toList) := hno
  clear hno
  by_cases h : i < xs.length
  ·have h' : (i : Int) < (xs.length : Int) := by omega
   have ce := HC.out i h
   rw [strL] at ce
   obtain ⟨u, hu⟩ : ∃ u : ByteArray, (⟨(xAt xs i).toArray⟩ : ByteArray) = u := ⟨_, rfl⟩
   rw [hu] at ce
   have HU : Hid (u.toList = xAt xs i) := by show _ = _; rw [← hu, ByteArray.toList_eq]
   clear hu
   cases he : (u.toList == s.toList) with
   | true =>
    have HY : Hid (decide (s.data.toList ∈ xs) = true) := by
     show _ = _
     rw [decide_eq_true_eq]
     have e : xAt xs i = s.data.toList := by rw [← HU.out, ← ByteArray.toList_eq]; simpa using he
     rw [← e]
     exact List.mem_of_getElem? (xAt_some h)
    go_wp2
    go_ret
    exact ⟨ret_bool HY.out.symm, rfl⟩
   | false =>
    have HX : Hid (xAt xs i ≠ s.data.toList) := by
     intro e
     rw [← HU.out, ← ByteArray.toList_eq] at e
     simp [e] at he
    go_wp2
    go_roundw
    case rel => exact ⟨i + 1, by omega, by go_num, fun j hj => by
     rcases Nat.lt_or_ge j i with h | h
     ·exact HNO.out j h
     ·obtain rfl : j = i := by omega
      exact HX.out, by first | rfl | trivial⟩
    case measure => simp [intOf]; omega
  ·have h' : ¬ (i : Int) < (xs.length : Int) := by omega
   obtain rfl : i = xs.length := by omega
   have HY : Hid (decide (s.data.toList ∈ xs) = false) := by
    show _ = _
    rw [decide_eq_false_iff_not]
    intro hm
    obtain ⟨j, hj, e⟩ := List.mem_iff_getElem.1 hm
    exact HNO.out j hj (by simp [xAt, hj, e])
   go_wp2
   go_ret
   exact ⟨ret_bool HY.out.symm, rfl⟩
end Go.Proofs.YtcpmgellfaeejaaGreatDoor.sr

namespace Go.Proofs.YtcpmgellfaeejaaGreatDoor.so
open Go.ChangeShapes Go.WideShapes Go.ChangeAt Go.RowKit Go.Deep Go.Shelf Go.Maps
set_option linter.unusedVariables false
set_option linter.unusedSimpArgs false
noncomputable def verA (ps : List ty.It) : List (List UInt8) := if ps.length ≤ 300 then misN ps ps.length else []
theorem app_str_at (w : World) {ops : Array Oper} {rest : List Oper} {o : Oper} {a : Act} {Q : Exit → Act → World → Prop} (hgd : o.guard = none) (s x : Operand)
  (ho : o.op = .call { callee := .builtin .append, args := #[s, x], argTypes := #[33, 33] })
  (base : Nat) (v : Value) (xs : List (List UInt8)) (hs : a.eval s = v) (hown : w.ownsRow base 9 1 v xs.length (xs.map sr.strL)) (hv : v ≠ .slice none 0 0)
  (ad : Addr) (m c : Nat) (ys : List (List UInt8)) (hx : a.eval x = .slice (some ad) m c) (hm : ys.length = m) (hnews : ∀ j u, (ys.map sr.strL)[j]? = some u → w.cell? (ad.add j) = some u) (hlen : xs.length + m ≤ 1000000) (hbase : base ≤ w.heap.size)
  (h : ∀ v' w', w'.ownsRow base 9 1 v' (xs ++ ys).length ((xs ++ ys).map sr.strL) → v' ≠ .slice none 0 0 → w.grownBy w' v.ownBlock → (v'.ownBlock = v.ownBlock ∨ v'.ownBlock = some w.heap.size) → wpList Tryz.prog ops Q rest (a.put o.dst v') w') : wpList Tryz.prog ops Q (o :: rest) a w := by
 obtain ⟨i0, hi, hz0, hz1, hz2⟩ := sr.info_parts sr.info9
 refine wpList_append_own_at w hgd s x 33 ho base 9 i0 _ 1 16 Tryz.underlying33 hi hz0 hz1 hz2 rfl (by omega) v xs.length (xs.map sr.strL) hs hown ad m c (ys.map sr.strL) hx (by simpa using hm) hnews (sr.strL_one _) (by unfold maxLen; omega) (by omega) hbase ?_
 intro v' w' h1 h2 h3 h4
 exact h _ _ (by rw [List.length_append, List.map_append, hm]; exact h1) (fun e => hv (h3.1 e).1) h2 h4
set_option maxRecDepth 100000 in
set_option maxHeartbeats 4000000 in
theorem iver_any (lo : Nat) (a : Option Addr) (c : Nat) (ps : List ty.It) (w : World) (hb : ty.SrcIt (some lo) w a ps) (hw : ty.wtIt ps ≤ 1048576) (hm : tt.ML w) (hT : wd.TabB w) :
  Calls Tryz.prog 12 #[.slice a ps.length c] w fun e w' => (∃ v, e = .returned v ∧ sr.OwnS w.heap.size w' v (verA ps)) ∧ Below w.heap.size w w' := by
 have hl0 := ty.wtIt_len ps
 by_cases h3 : ps.length ≤ 300
 ·have h3' : ¬ (300 : Int) < (ps.length : Int) := by omega
  have HMI : Hid (∀ W : World, W = w → Calls Tryz.prog 46 #[.slice a ps.length c] W fun e w' => (∃ v, e = .returned v ∧ sr.OwnS W.heap.size w' v (misN ps ps.length)) ∧ Below W.heap.size W w') := fun W h => by subst h; exact mis_any lo a c ps W hb hw (by omega) hm hT
  have HA : Hid (verA ps = misN ps ps.length) := by show _ = _; unfold verA; rw [if_pos h3]
  rw [HA.out]
  clear hb hm hT hw
  go_enter Tryz.func12, Tryz.ntmps12
  go_wp2_with (go_at_call 46; refine (HMI.out _ rfl).mono ?_; rintro e w2 ⟨⟨v, rfl, hv⟩, hl2⟩)
  go_ret
  exact ⟨⟨_, rfl, hv⟩, hl2⟩
 ·have h3' : (300 : Int) < (ps.length : Int) := by omega
  have HA : Hid (verA ps = []) := by show _ = _; unfold verA; rw [if_neg h3]
  have HN0 : Hid (sr.OwnS w.heap.size (w.alloc (.cells #[] 9)) (.slice (some ⟨w.heap.size, 0, none⟩) 0 0) []) := rf.nil_row w
  rw [HA.out]
  clear hb hm hT hw
  go_enter Tryz.func12, Tryz.ntmps12
  go_wp2
  go_ret
  exact ⟨⟨_, rfl, HN0.out⟩, (Below.refl _ _).alloc (Nat.le_refl _) _⟩
end Go.Proofs.YtcpmgellfaeejaaGreatDoor.so

namespace Go.Proofs.YtcpmgellfaeejaaGreatDoor.so
open Go.ChangeShapes Go.WideShapes Go.ChangeAt Go.RowKit Go.Deep Go.Shelf Go.Maps
set_option linter.unusedVariables false
set_option linter.unusedSimpArgs false
theorem rk_of {ps : List ty.It} (ha : AscI ps) (q : List UInt8) : RkI ps q (rkN ps q) := by
 have key : ∀ l : List ty.It, AscI l → (rkN l q ≤ l.length ∧ (∀ (j : Nat) (y : ty.It), j < rkN l q → l[j]? = some y → y.fPath.data.toList < q) ∧ ∀ (j : Nat) (y : ty.It), rkN l q ≤ j → l[j]? = some y → ¬ y.fPath.data.toList < q) := by
  intro l
  induction l with
  | nil => intro _; exact ⟨Nat.le_refl _, fun j y h hy => by simp at hy, fun j y h hy => by simp at hy⟩
  | cons b l ih =>
   intro hal
   have hal' : AscI l := fun i j x y hji hy hx => hal (i + 1) (j + 1) x y (by omega) (by simpa using hy) (by simpa using hx)
   obtain ⟨h1, h2, h3⟩ := ih hal'
   by_cases hb : b.fPath.data.toList < q
   ·have e : rkN (b :: l) q = rkN l q + 1 := by unfold rkN; rw [List.takeWhile_cons, if_pos (by simpa using hb)]; rfl
    rw [e]
    refine ⟨by simpa using h1, fun j y hj hy => ?_, fun j y hj hy => ?_⟩
    ·rcases j with _ | j
     ·cases hy; exact hb
     ·exact h2 j y (by omega) (by simpa using hy)
    ·rcases j with _ | j
     ·omega
     ·exact h3 j y (by omega) (by simpa using hy)
   ·have e : rkN (b :: l) q = 0 := by unfold rkN; rw [List.takeWhile_cons, if_neg (by simpa using hb)]; rfl
    rw [e]
    refine ⟨Nat.zero_le _, fun j y hj => by omega, fun j y _ hy hlt => ?_⟩
    rcases j with _ | j
    ·cases hy; exact hb hlt
    ·exact hb (List.lt_trans (hal (j + 1) 0 y b (by omega) rfl hy) hlt)
 obtain ⟨h1, h2, h3⟩ := key ps ha
 exact ⟨h1, h2, h3⟩
theorem aokL_eq (p : ByteArray) : sr.aokL p.data.toList = wd.aokB p := by unfold sr.aokL; rw [Array.toArray_toList]
theorem rfs_one {E : Nat → tt.En} {n : Nat} {p : ByteArray} (hp : wd.aokB p = true) : (0 < (rf.rfs E n [p.data.toList]).length) ↔ rf.inB E n (p.data.toList.take 13) = true := by
 rw [rf.rfs_spec, List.filter_cons_of_pos (by rw [aokL_eq]; exact hp), List.filter_nil]
 cases hv : rf.inB E n (p.data.toList.take 13) with
 | true => rw [List.filter_cons_of_pos (by simpa using hv), List.filter_nil]; simp [sr.fadd]
 | false => rw [List.filter_cons_of_neg (by simp [hv]), List.filter_nil]; simp
theorem app_it_at (w : World) {ops : Array Oper} {rest : List Oper} {o : Oper} {a : Act} {Q : Exit → Act → World → Prop} (hgd : o.guard = none) (s x : Operand)
  (ho : o.op = .call { callee := .builtin .append, args := #[s, x], argTypes := #[24, 24] })
  (base : Nat) (v : Value) (zs : List Iz) (hs : a.eval s = v) (hown : RwI base w v zs)
  (ad : Addr) (c : Nat) (z : Iz) (hx : a.eval x = .slice (some ad) 1 c) (hnews : ∀ j u, (izC z)[j]? = some u → w.cell? (ad.add j) = some u)
  (h63 : zs.length ≤ 400000000) (hbase : base ≤ w.heap.size)
  (h : ∀ v' w', RwI base w' v' (zs ++ [z]) → w.grownBy w' v.ownBlock → (v'.ownBlock = v.ownBlock ∨ v'.ownBlock = some w.heap.size) → wpList Tryz.prog ops Q rest (a.put o.dst v') w') : wpList Tryz.prog ops Q (o :: rest) a w := by
 obtain ⟨i, hi, hzz⟩ := Option.map_eq_some_iff.1 ty.infoIt
 simp only [Prod.mk.injEq] at hzz
 obtain ⟨hz, hsi, hb⟩ := hzz
 refine wpList_append_own_at w hgd s x 24 ho base 42 i _ 5 96 Tryz.underlying24 hi hz hsi hb rfl (by decide) v zs.length (itC zs) hs hown.own ad 1 c (izC z) hx rfl hnews (izC_one z) (by unfold maxLen; omega) (by omega) hbase (fun v' w' p q r r2 => h v' w' ⟨?_, fun e => hown.nn (r.1 e).1⟩ q r2)
 rw [itC_app, show itC [z] = izC z by rw [itC, itC, List.append_nil], List.length_append]
 exact p
structure KpB (W : World) (g0 : Nat) (wr : World) : Prop where
 sz : W.heap.size ≤ wr.heap.size
 bl : ∀ p, p < W.heap.size → p ≠ g0 → wr.heap[p]? = W.heap[p]?
theorem KpB.refl (W : World) (g0 : Nat) : KpB W g0 W := ⟨Nat.le_refl _, fun _ _ _ => rfl⟩
theorem KpB.below {W wr wr' : World} {g0 : Nat} (h : KpB W g0 wr) (hb : Below wr.heap.size wr wr') : KpB W g0 wr' := ⟨Nat.le_trans h.sz hb.size, fun p hp hn => (hb.block p (Nat.lt_of_lt_of_le hp h.sz)).trans (h.bl p hp hn)⟩
theorem KpB.grown {W wr wr' : World} {g0 g : Nat} (h : KpB W g0 wr) (hg : wr.grownBy wr' (some g)) (hgg : g = g0 ∨ W.heap.size ≤ g) : KpB W g0 wr' := ⟨Nat.le_trans h.sz hg.size, fun p hp hn => (hg.block p (Nat.lt_of_lt_of_le hp h.sz) (fun e => by have e := Option.some.inj e; rcases hgg with h | h <;> omega)).trans (h.bl p hp hn)⟩
theorem KpB.cell {W wr : World} {g0 b i : Nat} {v : Value} (h : KpB W g0 wr) (hn : b ≠ g0) (hc : W.cell? ⟨b, i, none⟩ = some v) : wr.cell? ⟨b, i, none⟩ = some v := (World.cell?_of_block (a := ⟨b, i, none⟩) (h.bl b (World.block_lt_of_cell? _ _ hc) hn)).trans hc
theorem KpB.texts {W wr : World} {g0 : Nat} {a : Option Addr} {l : List ByteArray} (h : KpB W g0 wr) (hE : ∀ j, W.cell? ⟨g0, j, none⟩ = none) (hR : RdT W a l) : RdT wr a l := by
 obtain ⟨b, o, e, hc⟩ := hR
 refine ⟨b, o, e, fun j y hy => h.cell (fun e2 => ?_) (hc j y hy)⟩
 subst e2
 have := hc j y hy
 rw [hE] at this
 cases this
end Go.Proofs.YtcpmgellfaeejaaGreatDoor.so
