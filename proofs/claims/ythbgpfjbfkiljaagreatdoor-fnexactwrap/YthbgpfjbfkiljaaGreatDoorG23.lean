import Derived.Test.YthbgpfjbfkiljaaGreatDoorG22
import Derived.Test.YthbgpfjbfkiljaaGreatDoorG09
import Derived.Test.YthbgpfjbfkiljaaGreatDoorG01
import Derived.Test.YthbgpfjbfkiljaaGreatDoorG13
import Derived.Test.YthbgpfjbfkiljaaGreatDoorG14
set_option linter.unusedVariables false
set_option linter.unusedSimpArgs false
set_option maxRecDepth 100000
set_option maxHeartbeats 16000000
namespace Go.Proofs.YthbgpfjbfkiljaaGreatDoor.so
open Go.ChangeShapes Go.WideShapes Go.ChangeAt Go.RowKit Go.Deep Go.Shelf Go.Maps
def geX (x : ty.Ge) : pf.Gn := ⟨x.fN, x.fPath⟩
def prX (x : ty.Pr) : pf.Pr := ⟨x.fName, x.fNow, x.fGens.map geX⟩
theorem src_gen {md : Option Nat} {w : World} {a : Option Addr} {l : List ty.Ge} (h : ty.SrcGe md w a l) : pf.SrcG w a (l.map geX) := by
 rcases h with ⟨_, rfl⟩ | ⟨b, o, e, _, hc⟩
 ·exact .inl rfl
 ·refine .inr ⟨b, o, e, fun i x hx => ?_⟩
  rw [List.getElem?_map] at hx
  cases hy : l[i]? with
  | none => rw [hy] at hx; cases hx
  | some y =>
   rw [hy] at hx
   cases hx
   obtain ⟨q0, q1⟩ := hc i y hy
   exact ⟨q0, q1⟩
theorem src_prof {md : Option Nat} {w : World} {a : Option Addr} {l : List ty.Pr} (h : ty.SrcPr md w a l) : pf.SrcP w a (l.map prX) := by
 rcases h with ⟨_, rfl⟩ | ⟨b, o, e, _, hc⟩
 ·exact .inl rfl
 ·refine .inr ⟨b, o, e, fun i x hx => ?_⟩
  rw [List.getElem?_map] at hx
  cases hy : l[i]? with
  | none => rw [hy] at hx; cases hx
  | some y =>
   rw [hy] at hx
   cases hx
   obtain ⟨a2, c2, q0, q1, q2, s2, _⟩ := hc i y hy
   exact ⟨a2, c2, q0, q1, by rw [q2]; simp [prX], src_gen s2⟩
theorem wt_gen (l : List ty.Ge) : pf.wtG (l.map geX) = ty.wtGe l := by
 unfold pf.wtG pf.wtS ty.wtGe ty.wtkGe
 rw [List.take_length, List.take_length, List.length_map, List.map_map]
 rfl
theorem wt_prof (l : List ty.Pr) : pf.wtP (l.map prX) = ty.wtPr l := by
 unfold pf.wtP pf.wtSP ty.wtPr ty.wtkPr
 rw [List.take_length, List.take_length, List.length_map, List.map_map]
 congr 2
 apply List.map_congr_left
 intro x _
 show pf.wt1 (prX x) = ty.wt1Pr x
 unfold pf.wt1 ty.wt1Pr
 show x.fName.size + pf.wtG (x.fGens.map geX) = _
 rw [wt_gen]
noncomputable def peB (x : ty.Pe) : Bool := wd.aokB x.fPath && (frB x.fFrom && tt.treeB (enT x.fTree) x.fTree.length)
def nxB (x : ty.Nx) : Bool := nm.nameB x.fName && wd.aokB x.fPath
def hasB (ps : List ty.It) (p : ByteArray) : Bool := decide (p.data.toList ∈ pths ps)
def genB (ps : List ty.It) (l : List ty.Ge) : Bool := l.all fun g => hasB ps g.fPath
def gensB (ps : List ty.It) (l : List ty.Pr) : Bool := l.all fun p => genB ps p.fGens
noncomputable def begP (l : List ty.Pe) : Bool := decide (l.length ≤ 20) && l.all peB
def begN (l : List ty.Nx) : Bool := decide (l.length ≤ 20) && l.all nxB
noncomputable def woB (x : ty.Wo) : Bool := stB x.fStore && (pf.psB (x.fProfiles.map prX) && (begP x.fPending && (begN x.fNexts && gensB x.fStore x.fProfiles)))
theorem st_facts {ps : List ty.It} (h : stB ps = true) : ps.length ≤ 300 ∧ ap.asB (ps.map fun y => y.fPath) = true := by
 unfold stB at h
 simp only [Bool.and_eq_true, decide_eq_true_eq] at h
 exact ⟨h.1, h.2.1⟩
noncomputable def cmpI (p q : List UInt8) : Int := if p < q then -1 else if q < p then 1 else 0
theorem cmpI_lt {p q : List UInt8} (h : p < q) : cmpI p q = -1 := by unfold cmpI; rw [if_pos h]
theorem cmpI_gt {p q : List UInt8} (h : q < p) : cmpI p q = 1 := by unfold cmpI; rw [if_neg (fun h2 => List.lt_irrefl _ (List.lt_trans h h2)), if_pos h]
theorem cmpI_eq (p : List UInt8) : cmpI p p = 0 := by unfold cmpI; rw [if_neg (List.lt_irrefl _), if_neg (List.lt_irrefl _)]
theorem lt_triI (p q : List UInt8) : p < q ∨ p = q ∨ q < p := by
 by_cases h : p < q
 ·exact .inl h
 ·by_cases h2 : q < p
  ·exact .inr (.inr h2)
  ·exact .inr (.inl (List.le_antisymm (List.not_lt.1 h2) (List.not_lt.1 h)))
theorem cmpI_zero {p q : List UInt8} : cmpI p q = 0 ↔ p = q := by
 constructor
 ·intro h
  rcases lt_triI p q with h1 | h1 | h1
  ·rw [cmpI_lt h1] at h; cases h
  ·exact h1
  ·rw [cmpI_gt h1] at h; cases h
 ·rintro rfl; exact cmpI_eq _
theorem blI (x y : ByteArray) : Op.bytesLess x.toList y.toList = decide (x.data.toList < y.data.toList) := by rw [ByteArray.toList_eq, ByteArray.toList_eq, Go.Proofs.bytesLess_eq]
theorem nanI_any (p : ByteArray) (w : World) : Calls Tryz.prog 159 #[.string p] w fun e w' => e = .returned (.bool false) ∧ w' = w := by
 go_enter Tryz.func159, Tryz.ntmps159
 go_wp2
 go_ret
 first | exact ⟨rfl, rfl⟩ | exact ⟨by simp, rfl⟩
theorem cmpI_any (p q : ByteArray) (w : World) : Calls Tryz.prog 136 #[.string p, .string q] w fun e w' => e = .returned (.int .i64 (cmpI p.data.toList q.data.toList)) ∧ w' = w := by
 have HNA : Hid (∀ x W, Calls Tryz.prog 159 #[.string x] W fun e w' => e = .returned (.bool false) ∧ w' = W) := fun x W => nanI_any x W
 obtain ⟨r, hr⟩ : ∃ r, cmpI p.data.toList q.data.toList = r := ⟨_, rfl⟩
 rw [hr]
 have HR := Lib.hid hr
 clear hr
 rcases lt_triI p.data.toList q.data.toList with h | h | h
 ·have h1 : Op.bytesLess p.toList q.toList = true := by rw [blI]; simpa using h
  have e : r = -1 := HR.out.symm.trans (cmpI_lt h)
  subst e
  clear h HR
  go_enter Tryz.func136, Tryz.ntmps136
  go_wp2_with (go_at_call 159; refine (HNA.out _ _).mono ?_; rintro e w1 ⟨rfl, rfl⟩)
  go_ret
  exact ⟨rfl, rfl⟩
 ·have h1 : Op.bytesLess p.toList q.toList = false := by rw [blI, h]; exact decide_eq_false (List.lt_irrefl _)
  have h2 : (p.toList == q.toList) = true := by rw [ByteArray.toList_eq, ByteArray.toList_eq]; simpa using h
  have e : r = 0 := HR.out.symm.trans (by rw [h]; exact cmpI_eq _)
  subst e
  clear h HR
  go_enter Tryz.func136, Tryz.ntmps136
  go_wp2_with (go_at_call 159; refine (HNA.out _ _).mono ?_; rintro e w1 ⟨rfl, rfl⟩)
  go_ret
  exact ⟨rfl, rfl⟩
 ·have h1 : Op.bytesLess p.toList q.toList = false := by rw [blI]; exact decide_eq_false (fun h2 => List.lt_irrefl _ (List.lt_trans h h2))
  have h2 : (p.toList == q.toList) = false := by
   rw [ByteArray.toList_eq, ByteArray.toList_eq, beq_eq_false_iff_ne]
   intro e
   rw [e] at h
   exact List.lt_irrefl _ h
  have e : r = 1 := HR.out.symm.trans (cmpI_gt h)
  subst e
  clear h HR
  go_enter Tryz.func136, Tryz.ntmps136
  go_wp2_with (go_at_call 159; refine (HNA.out _ _).mono ?_; rintro e w1 ⟨rfl, rfl⟩)
  go_ret
  exact ⟨rfl, rfl⟩
theorem in1_any (p v1 v3 q : ByteArray) (v2 v4 : Value) (w : World) :
  Calls Tryz.prog 135 #[.agg #[.string p, .string v1, v2, .string v3, v4], .string q] w fun e w' => e = .returned (.int .i64 (cmpI p.data.toList q.data.toList)) ∧ Below w.heap.size w w' := by
 have HC := Lib.hid fun (W : World) => cmpI_any p q W
 obtain ⟨r, hr⟩ : ∃ r, cmpI p.data.toList q.data.toList = r := ⟨_, rfl⟩
 rw [hr] at HC ⊢
 clear hr
 go_enter Tryz.func135, Tryz.ntmps135
 go_wp2_with (go_at_call 136; refine (HC.out _).mono ?_; rintro e w1 ⟨rfl, rfl⟩)
 go_ret
 exact ⟨rfl, (Below.refl _ _).alloc (Nat.le_refl _) _⟩
def ItR (w : World) (a : Option Addr) (ps : List ty.It) : Prop := ∀ (i : Nat) (x : ty.It), ps[i]? = some x → ∃ b o a2 c2 a4 c4, a = some ⟨b, o, none⟩ ∧ w.cell? ⟨b, o + i * 5, none⟩ = some (.string x.fPath) ∧ w.cell? ⟨b, o + i * 5 + 1, none⟩ = some (.string x.fSum) ∧ w.cell? ⟨b, o + i * 5 + 2, none⟩ = some (.slice a2 x.fRefs.length c2) ∧ w.cell? ⟨b, o + i * 5 + 3, none⟩ = some (.string x.fFrom) ∧ w.cell? ⟨b, o + i * 5 + 4, none⟩ = some (.slice a4 x.fTree.length c4)
theorem ItR.of {w W : World} {a : Option Addr} {ps : List ty.It} (h : ty.SrcIt none w a ps) (hb : Below w.heap.size w W) : ItR W a ps := fun i x hx => by
 rcases h.below hb with h | ⟨b, o, e, _, hc⟩
 ·rw [h.2] at hx; simp at hx
 ·obtain ⟨a2, c2, a4, c4, q0, q1, q2, q3, q4, _⟩ := hc i x hx
  exact ⟨b, o, a2, c2, a4, c4, e, q0, q1, q2, q3, q4⟩
structure RkI (ps : List ty.It) (q : List UInt8) (J : Nat) : Prop where
 le : J ≤ ps.length
 lo : ∀ (j : Nat) (y : ty.It), j < J → ps[j]? = some y → y.fPath.data.toList < q
 hi : ∀ (j : Nat) (y : ty.It), J ≤ j → ps[j]? = some y → ¬ y.fPath.data.toList < q
def AscI (ps : List ty.It) : Prop := ∀ (i j : Nat) (x y : ty.It), j < i → ps[j]? = some y → ps[i]? = some x → y.fPath.data.toList < x.fPath.data.toList
theorem mem_pths {ps : List ty.It} {q : List UInt8} : q ∈ pths ps ↔ ∃ (i : Nat) (x : ty.It), ps[i]? = some x ∧ x.fPath.data.toList = q := by
 unfold pths
 rw [List.mem_map]
 constructor
 ·rintro ⟨x, hx, e⟩
  obtain ⟨i, hi⟩ := List.getElem?_of_mem hx
  exact ⟨i, x, hi, e⟩
 ·rintro ⟨i, x, hi, e⟩
  exact ⟨x, List.mem_of_getElem? hi, e⟩
theorem RkI.found {ps : List ty.It} {q : List UInt8} {J : Nat} (h : RkI ps q J) (ha : AscI ps) {x : ty.It} (hx : ps[J]? = some x) : x.fPath.data.toList = q ↔ q ∈ pths ps := by
 rw [mem_pths]
 constructor
 ·intro e; exact ⟨J, x, hx, e⟩
 ·rintro ⟨i, y, hy, e⟩
  rcases Nat.lt_trichotomy i J with h1 | h1 | h1
  ·exact absurd (h.lo i y h1 hy) (by rw [e]; exact List.lt_irrefl _)
  ·subst h1; rw [hx] at hy; cases hy; exact e
  ·have := ha i J y x h1 hx hy
   rw [e] at this
   exact absurd this (h.hi J x (Nat.le_refl _) hx)
theorem RkI.last {ps : List ty.It} {q : List UInt8} {J : Nat} (h : RkI ps q J) (hJ : J = ps.length) : ¬ q ∈ pths ps := by
 rw [mem_pths]
 rintro ⟨i, y, hy, e⟩
 have := h.lo i y (by have := (List.getElem?_eq_some_iff.1 hy).1; omega) hy
 rw [e] at this
 exact List.lt_irrefl _ this
theorem bsI_any (a : Option Addr) (c : Nat) (ps : List ty.It) (q : ByteArray) (w : World) (hb : ty.SrcIt none w a ps) (hn : ps.length ≤ 300) (hasc : AscI ps) :
  Calls Tryz.prog 134 #[.slice a ps.length c, .string q, .func (.func 135) #[] #[]] w fun e w' => (∃ J : Nat, RkI ps q.data.toList J ∧ e = .returned (.tuple #[.int .i64 (J : Int), .bool (hasB ps q)])) ∧ Below w.heap.size w w' := by
 have HR : Hid (∀ W, Below w.heap.size w W → ItR W a ps) := fun W h => ItR.of hb h
 have HC : Hid (∀ p v1 v3 v2 v4 W, Calls Tryz.prog 135 #[.agg #[.string p, .string v1, v2, .string v3, v4], .string q] W fun e w' => e = .returned (.int .i64 (cmpI p.data.toList q.data.toList)) ∧ Below W.heap.size W w') := fun p v1 v3 v2 v4 W => in1_any p v1 v3 q v2 v4 W
 have HUP : Hid (∀ (i j : Nat) (x y : ty.It), j ≤ i → ps[j]? = some y → ps[i]? = some x → x.fPath.data.toList < q.data.toList → y.fPath.data.toList < q.data.toList) := fun i j x y hji hy hx hlt => by
  rcases Nat.lt_or_ge j i with h | h
  ·exact List.lt_trans (hasc i j x y h hy hx) hlt
  ·obtain rfl : j = i := by omega
   rw [hy] at hx; cases hx; exact hlt
 have HFO : Hid (∀ (J : Nat), RkI ps q.data.toList J → ∀ x, ps[J]? = some x → hasB ps q = decide (x.fPath.data.toList = q.data.toList)) := fun J h x hx => by
  unfold hasB
  exact decide_eq_decide.2 (h.found hasc hx).symm
 have HLA : Hid (∀ (J : Nat), RkI ps q.data.toList J → J = ps.length → hasB ps q = false) := fun J h e => decide_eq_false (h.last e)
 obtain ⟨n, hnn⟩ : ∃ n, ps.length = n := ⟨_, rfl⟩
 have HN : Hid (ps.length = n) := hnn
 obtain ⟨V, hV⟩ : ∃ V, hasB ps q = V := ⟨_, rfl⟩
 rw [hV] at HFO HLA ⊢
 rw [hnn] at hn ⊢
 clear hb hasc hnn hV
 go_enter Tryz.func134, Tryz.ntmps134
 go_wp2
 go_loopw [9, 10, 11] (fun x y _ wr => ∃ lo hi : Nat, x = .int .i64 (lo : Int) ∧ y = .int .i64 (hi : Int) ∧ lo ≤ hi ∧ hi ≤ n ∧ (∀ (j : Nat) (y : ty.It), j < lo → ps[j]? = some y → y.fPath.data.toList < q.data.toList) ∧ (∀ (j : Nat) (y : ty.It), hi ≤ j → ps[j]? = some y → ¬ y.fPath.data.toList < q.data.toList) ∧ Below w.heap.size w wr) (fun x y _ _ => (intOf y - intOf x).toNat)
 case atStart => exact ⟨0, n, rfl, rfl, Nat.zero_le _, Nat.le_refl _, fun j y h => by omega, fun j y h hy => by have := (List.getElem?_eq_some_iff.1 hy).1; have := HN.out; omega, Below.refl _ _⟩
 case round =>
  obtain ⟨lo, hi, rfl, rfl, h1, hhn, hlo, hhi, hbel⟩ := hrel
  have HBE : Hid (Below w.heap.size w wr) := hbel
  have HLO := Lib.hid hlo
  have HHI := Lib.hid hhi
  clear hlo hhi
  by_cases hl : lo < hi
  ·have hl' : (lo : Int) < (hi : Int) := by omega
   obtain ⟨m, hm⟩ : ∃ m : Nat, (lo + hi) / 2 = m := ⟨_, rfl⟩
   have hm1 : lo ≤ m := by omega
   have hm2 : m < hi := by omega
   have hmi : ((lo : Int) + (hi : Int)) / 2 = (m : Int) := by omega
   have hm0 : (0 : Int) ≤ (m : Int) := by omega
   have hmn : (m : Int) < (n : Int) := by omega
   obtain ⟨x, hx⟩ : ∃ x, ps[m]? = some x := ⟨_, List.getElem?_eq_getElem (by rw [HN.out]; omega)⟩
   obtain ⟨b, o, a2, c2, a4, c4, rfl, c0, c1, d2, d3, d4⟩ := HR.out wr hbel m x hx
   have HX : Hid (ps[m]? = some x) := hx
   have HCM : Hid (∀ W, Calls Tryz.prog 135 #[.agg #[.string x.fPath, .string x.fSum, .slice a2 x.fRefs.length c2, .string x.fFrom, .slice a4 x.fTree.length c4], .string q] W fun e w' => e = .returned (.int .i64 (cmpI x.fPath.data.toList q.data.toList)) ∧ Below W.heap.size W w') := fun W => HC.out _ _ _ _ _ W
   obtain ⟨P, hP⟩ : ∃ z, x.fPath = z := ⟨_, rfl⟩
   have HPX : Hid (x.fPath = P) := hP
   obtain ⟨z1, hz1⟩ : ∃ z, x.fSum = z := ⟨_, rfl⟩
   obtain ⟨z2, hz2⟩ : ∃ z, x.fRefs.length = z := ⟨_, rfl⟩
   obtain ⟨z3, hz3⟩ : ∃ z, x.fFrom = z := ⟨_, rfl⟩
   obtain ⟨z4, hz4⟩ : ∃ z, x.fTree.length = z := ⟨_, rfl⟩
   rw [hP] at c0 HCM
   rw [hz1] at c1 HCM
   rw [hz2] at d2 HCM
   rw [hz3] at d3 HCM
   rw [hz4] at d4 HCM
   clear hm hx hP hz1 hz2 hz3 hz4 hbel
   by_cases hmJ : P.data.toList < q.data.toList
   ·rw [cmpI_lt hmJ] at HCM
    have HNL : Hid (∀ (j : Nat) (y : ty.It), j < m + 1 → ps[j]? = some y → y.fPath.data.toList < q.data.toList) := fun j y hj hy => HUP.out m j x y (by omega) hy HX.out (by rw [HPX.out]; exact hmJ)
    clear hmJ
    go_wp2_with (go_at_call 135; refine (HCM.out _).mono ?_; rintro e w1 ⟨rfl, hl1⟩)
    go_roundw
    case rel => exact ⟨m + 1, hi, by go_num, by first | rfl | trivial, by omega, hhn, HNL.out, HHI.out, HBE.out.trans (hl1.mono HBE.out.size)⟩
    case measure => simp [intOf] <;> omega
   ·have hnn : ¬ cmpI P.data.toList q.data.toList < 0 := by
     rcases lt_triI P.data.toList q.data.toList with h | h | h
     ·exact absurd h hmJ
     ·rw [h, cmpI_eq]; omega
     ·rw [cmpI_gt h]; omega
    have HNH : Hid (∀ (j : Nat) (y : ty.It), m ≤ j → ps[j]? = some y → ¬ y.fPath.data.toList < q.data.toList) := fun j y hj hy hlt => hmJ (by have := HUP.out j m y x hj HX.out hy hlt; rwa [HPX.out] at this)
    obtain ⟨r, hr⟩ : ∃ r, cmpI P.data.toList q.data.toList = r := ⟨_, rfl⟩
    rw [hr] at HCM hnn
    clear hmJ hr
    go_wp2_with (go_at_call 135; refine (HCM.out _).mono ?_; rintro e w1 ⟨rfl, hl1⟩)
    go_roundw
    case rel => exact ⟨lo, m, by first | rfl | trivial, by first | rfl | trivial | go_num, by omega, by omega, HLO.out, HNH.out, HBE.out.trans (hl1.mono HBE.out.size)⟩
    case measure => simp [intOf] <;> omega
  ·have hl' : ¬ (lo : Int) < (hi : Int) := by omega
   obtain rfl : lo = hi := by omega
   have HRK : Hid (RkI ps q.data.toList lo) := ⟨by have := HN.out; omega, HLO.out, HHI.out⟩
   by_cases hln : lo < n
   ·have hln' : (lo : Int) < (n : Int) := by omega
    have hl0 : (0 : Int) ≤ (lo : Int) := by omega
    obtain ⟨x, hx⟩ : ∃ x, ps[lo]? = some x := ⟨_, List.getElem?_eq_getElem (by rw [HN.out]; omega)⟩
    obtain ⟨b, o, a2, c2, a4, c4, rfl, c0, c1, d2, d3, d4⟩ := HR.out wr hbel lo x hx
    have HVE : Hid (V = decide (cmpI x.fPath.data.toList q.data.toList = 0)) := by
     show _ = _
     rw [HFO.out lo HRK.out x hx]
     exact decide_eq_decide.2 cmpI_zero.symm
    have HCM : Hid (∀ W, Calls Tryz.prog 135 #[.agg #[.string x.fPath, .string x.fSum, .slice a2 x.fRefs.length c2, .string x.fFrom, .slice a4 x.fTree.length c4], .string q] W fun e w' => e = .returned (.int .i64 (cmpI x.fPath.data.toList q.data.toList)) ∧ Below W.heap.size W w') := fun W => HC.out _ _ _ _ _ W
    generalize x.fPath = P at *
    generalize x.fSum = z1 at *
    generalize x.fRefs.length = z2 at *
    generalize x.fFrom = z3 at *
    generalize x.fTree.length = z4 at *
    generalize cmpI P.data.toList q.data.toList = r at *
    clear hx hbel
    go_wp2_with (go_at_call 135; refine (HCM.out _).mono ?_; rintro e w1 ⟨rfl, hl1⟩)
    go_ret2
    exact ⟨⟨lo, HRK.out, by rw [HVE.out]; first | rfl | simp | (congr 3; simp)⟩, HBE.out.trans (hl1.mono HBE.out.size)⟩
   ·have hln' : ¬ (lo : Int) < (n : Int) := by omega
    have HVE : Hid (V = false) := HLA.out lo HRK.out (by have := HN.out; omega)
    clear hbel
    go_wp2
    go_ret2
    exact ⟨⟨lo, HRK.out, by rw [HVE.out]; rfl⟩, HBE.out⟩
theorem inum_any (a : Option Addr) (c : Nat) (ps : List ty.It) (q : ByteArray) (w : World) (hb : ty.SrcIt none w a ps) (hn : ps.length ≤ 300) (hasc : AscI ps) :
  Calls Tryz.prog 104 #[.slice a ps.length c, .string q] w fun e w' => (∃ J : Nat, RkI ps q.data.toList J ∧ e = .returned (.tuple #[.int .i64 (J : Int), .bool (hasB ps q)])) ∧ Below w.heap.size w w' := by
 have HB := Lib.hid (bsI_any a c ps q w hb hn hasc)
 clear hb hasc
 generalize hasB ps q = V at *
 generalize ps.length = n at *
 go_enter Tryz.func104, Tryz.ntmps104
 go_wp2_with (go_at_call 134; refine HB.out.mono ?_; rintro e w1 ⟨⟨J, hJ, rfl⟩, hl1⟩)
 go_ret2
 exact ⟨⟨J, hJ, rfl⟩, hl1⟩
theorem sfind_any (a : Option Addr) (c : Nat) (ps : List ty.It) (t : ByteArray) (w : World) (hb : ty.SrcIt none w a ps) (hn : ps.length ≤ 1048576) :
  Calls Tryz.prog 49 #[.slice a ps.length c, .string t] w fun e w' => (∃ r : Int, e = .returned (.int .i64 r) ∧ (0 ≤ r ∧ hasB ps t = true ∨ r = -1 ∧ hasB ps t = false)) ∧ w' = w := by
 have HB : Hid (ty.SrcIt none w a ps) := hb
 have HNO : Hid ((∀ (j : Nat) (z : ty.It), ps[j]? = some z → z.fPath.data.toList ≠ t.data.toList) → hasB ps t = false) := fun h => decide_eq_false fun hm => by
  obtain ⟨i, x, hx, e⟩ := mem_pths.1 hm
  exact h i x hx e
 have HYE : Hid (∀ (i : Nat) (x : ty.It), ps[i]? = some x → x.fPath.data.toList = t.data.toList → hasB ps t = true) := fun i x h1 h2 => decide_eq_true (mem_pths.2 ⟨i, x, h1, h2⟩)
 obtain ⟨V, hV⟩ : ∃ V, hasB ps t = V := ⟨_, rfl⟩
 rw [hV] at HNO HYE ⊢
 obtain ⟨n, hnn⟩ : ∃ n, ps.length = n := ⟨_, rfl⟩
 have HN : Hid (ps.length = n) := hnn
 rw [hnn] at hn ⊢
 clear hb hnn hV
 go_enter Tryz.func49, Tryz.ntmps49
 go_wp2
 go_loopw [5] (fun y wr => ∃ i : Nat, i ≤ n ∧ y = .int .i64 (i : Int) ∧ (∀ (j : Nat) (z : ty.It), j < i → ps[j]? = some z → z.fPath.data.toList ≠ t.data.toList) ∧ wr = w) (fun y _ => n - (intOf y).toNat)
 case atStart => exact ⟨0, Nat.zero_le _, rfl, fun j z h => by omega, rfl⟩
 case round =>
  obtain ⟨i, hi, rfl, hno, rfl⟩ := hrel
  have HA := Lib.hid hno
  clear hno
  by_cases hil : i < n
  ·have hil' : (i : Int) < (n : Int) := by omega
   have hi0 : (0 : Int) ≤ (i : Int) := by omega
   obtain ⟨x, hx⟩ : ∃ x, ps[i]? = some x := ⟨_, List.getElem?_eq_getElem (by rw [HN.out]; exact hil)⟩
   rcases HB.out with ⟨_, h⟩ | ⟨b, o, rfl, _, hc⟩
   ·rw [h] at hx; simp at hx
   obtain ⟨a2, c2, a4, c4, g0, g1, g2, g3, g4, _, _, _, _⟩ := hc i x hx
   have HX : Hid (ps[i]? = some x) := hx
   obtain ⟨P, hP⟩ : ∃ P, x.fPath = P := ⟨_, rfl⟩
   have HPP : Hid (x.fPath = P) := hP
   rw [hP] at g0
   generalize x.fRefs.length = m2 at *
   generalize x.fTree.length = m4 at *
   generalize x.fSum = q1 at *
   generalize x.fFrom = q3 at *
   clear hc hx hP g1 g2 g3 g4
   cases he : (P.toList == t.toList) with
   | true =>
    have HR : Hid (V = true) := HYE.out i x HX.out (by rw [HPP.out, ← ByteArray.toList_eq, ← ByteArray.toList_eq]; simpa using he)
    go_wp2
    go_ret
    exact ⟨⟨_, rfl, .inl ⟨hi0, HR.out⟩⟩, rfl⟩
   | false =>
    have HN2 : Hid (∀ (j : Nat) (z : ty.It), j < i + 1 → ps[j]? = some z → z.fPath.data.toList ≠ t.data.toList) := fun j z hj hz => by
     rcases Nat.lt_or_ge j i with h | h
     ·exact HA.out j z h hz
     ·obtain rfl : j = i := by omega
      rw [HX.out] at hz
      cases hz
      rw [HPP.out, ← ByteArray.toList_eq, ← ByteArray.toList_eq]
      simpa using he
    go_wp2
    go_roundw
    case rel => exact ⟨i + 1, by omega, by go_num, HN2.out, by first | rfl | trivial⟩
    case measure => simp [intOf] <;> omega
  ·have hil' : ¬ (i : Int) < (n : Int) := by omega
   have HF : Hid (V = false) := HNO.out fun j z hz => HA.out j z (by have := (List.getElem?_eq_some_iff.1 hz).1; have := HN.out; omega) hz
   go_wp2
   go_ret
   exact ⟨⟨_, rfl, .inr ⟨rfl, HF.out⟩⟩, rfl⟩
end Go.Proofs.YthbgpfjbfkiljaaGreatDoor.so

set_option linter.unusedVariables false
set_option linter.unusedSimpArgs false
set_option maxRecDepth 100000
set_option maxHeartbeats 16000000
namespace Go.Proofs.YthbgpfjbfkiljaaGreatDoor.wr
open Go.ChangeShapes Go.WideShapes Go.ChangeAt Go.RowKit Go.Deep Go.Maps
abbrev En := ty.Et
def pa (x : En) : List UInt8 := x.fPath.data.toList
theorem pa_eq {x y : En} : pa x = pa y ↔ x.fPath = y.fPath := by
 constructor
 ·intro h; exact ByteArray.ext (Array.ext' h)
 ·intro h; unfold pa; rw [h]
def lnk (q : ByteArray) (e : En) : En := if e.fKind = 1 then e else ⟨e.fPath, 3, q ++ ⟨#[47]⟩ ++ e.fPath, false⟩
theorem lnk_path (q : ByteArray) (e : En) : (lnk q e).fPath = e.fPath := by unfold lnk; split <;> rfl
theorem lnk_pa (q : ByteArray) (e : En) : pa (lnk q e) = pa e := by unfold pa; rw [lnk_path]
theorem lnk_dir {q : ByteArray} {e : En} (h : e.fKind = 1) : lnk q e = e := by unfold lnk; rw [if_pos h]
theorem lnk_kind {q : ByteArray} {e : En} : (lnk q e).fKind = 1 ↔ e.fKind = 1 := by
 unfold lnk
 split
 ·exact Iff.rfl
 ·next h => exact ⟨fun k => by simp at k, fun k => absurd k h⟩
def look (sn : List En) (p : ByteArray) : Option En := sn.find? fun m => decide (m.fPath = p)
theorem look_some {sn : List En} {p : ByteArray} {m : En} (h : look sn p = some m) : m ∈ sn ∧ m.fPath = p := by
 unfold look at h
 exact ⟨List.mem_of_find?_eq_some h, by simpa using List.find?_some h⟩
theorem look_none {sn : List En} {p : ByteArray} (h : look sn p = none) : ∀ m ∈ sn, m.fPath ≠ p := by
 unfold look at h
 rw [List.find?_eq_none] at h
 intro m hm e
 exact h m hm (by simpa using e)
theorem look_of {sn : List En} {m : En} (hn : (sn.map pa).Nodup) (hm : m ∈ sn) : look sn m.fPath = some m := by
 cases h : look sn m.fPath with
 | none => exact absurd rfl (look_none h m hm)
 | some x =>
  obtain ⟨h1, h2⟩ := look_some h
  obtain ⟨i, hi⟩ := List.getElem?_of_mem h1
  obtain ⟨j, hj⟩ := List.getElem?_of_mem hm
  have e1 : (sn.map pa)[i]? = some (pa x) := by rw [List.getElem?_map, hi]; rfl
  have e2 : (sn.map pa)[j]? = some (pa m) := by rw [List.getElem?_map, hj]; rfl
  have hlt := (List.getElem?_eq_some_iff.1 e1).1
  have : i = j := (List.getElem?_inj hlt hn).1 (by rw [e1, e2, pa_eq.2 h2])
  subst this
  rw [hi] at hj
  exact hj
open Classical in
noncomputable def stp (q : ByteArray) : List En → List En × List En → Option (List En × List En)
 | [], s => some s
 | e :: es, s => match look s.1 e.fPath with
  | some m => if m = e then stp q es s else none
  | none => stp q es (s.1 ++ [e], s.2 ++ [lnk q e])
noncomputable def wlk : List (ByteArray × List En) → List En × List En → Option (List En × List En)
 | [], s => some s
 | g :: gs, s => (stp g.1 g.2 s).bind (wlk gs)
theorem stp_same {q : ByteArray} {e : En} {es : List En} {s : List En × List En} (h : look s.1 e.fPath = some e) : stp q (e :: es) s = stp q es s := by
 rw [stp, h]; simp
theorem stp_other {q : ByteArray} {e m : En} {es : List En} {s : List En × List En} (h : look s.1 e.fPath = some m) (hne : m ≠ e) : stp q (e :: es) s = none := by
 rw [stp, h]; simp [hne]
theorem stp_new {q : ByteArray} {e : En} {es : List En} {s : List En × List En} (h : look s.1 e.fPath = none) : stp q (e :: es) s = stp q es (s.1 ++ [e], s.2 ++ [lnk q e]) := by
 rw [stp, h]
theorem stp_pre {q : ByteArray} : ∀ {es : List En} {s s' : List En × List En}, stp q es s = some s' → ∃ u, s'.2 = s.2 ++ u
 | [], s, s', h => by
  rw [stp] at h
  cases h
  exact ⟨[], by simp⟩
 | e :: es, s, s', h => by
  cases hl : look s.1 e.fPath with
  | some m =>
   by_cases hm : m = e
   ·subst hm; rw [stp_same hl] at h; exact stp_pre h
   ·rw [stp_other hl hm] at h; cases h
  | none =>
   rw [stp_new hl] at h
   obtain ⟨u, hu⟩ := stp_pre h
   exact ⟨[lnk q e] ++ u, by rw [hu]; simp⟩
theorem wlk_pre : ∀ {gs : List (ByteArray × List En)} {s s' : List En × List En}, wlk gs s = some s' → ∃ u, s'.2 = s.2 ++ u
 | [], s, s', h => by
  rw [wlk] at h
  cases h
  exact ⟨[], by simp⟩
 | g :: gs, s, s', h => by
  rw [wlk] at h
  cases hs : stp g.1 g.2 s with
  | none => rw [hs] at h; cases h
  | some s1 =>
   rw [hs] at h
   obtain ⟨u, hu⟩ := stp_pre hs
   obtain ⟨u2, hu2⟩ := wlk_pre (s := s1) h
   exact ⟨u ++ u2, by rw [hu2, hu]; simp⟩
def fnd (ps : List ty.It) (q : ByteArray) : Option ty.It := ps.find? fun x => decide (x.fPath = q)
theorem it_eq {x y : ByteArray} : x.data.toList = y.data.toList ↔ x = y := ⟨fun h => ByteArray.ext (Array.ext' h), fun h => by rw [h]⟩
theorem fnd_some {ps : List ty.It} {q : ByteArray} {x : ty.It} (h : fnd ps q = some x) : x ∈ ps ∧ x.fPath = q := by
 unfold fnd at h
 exact ⟨List.mem_of_find?_eq_some h, by simpa using List.find?_some h⟩
theorem fnd_no {ps : List ty.It} {q : ByteArray} (h : ∀ (j : Nat) (z : ty.It), ps[j]? = some z → z.fPath.data.toList ≠ q.data.toList) : fnd ps q = none := by
 unfold fnd
 rw [List.find?_eq_none]
 intro x hx
 obtain ⟨j, hj⟩ := List.getElem?_of_mem hx
 simp only [decide_eq_true_eq]
 exact fun e => h j x hj (it_eq.2 e)
theorem fnd_of {ps : List ty.It} {q : ByteArray} {i : Nat} {x : ty.It} (ha : so.AscI ps) (h : ps[i]? = some x) (e : x.fPath.data.toList = q.data.toList) : fnd ps q = some x := by
 cases hf : fnd ps q with
 | none =>
  unfold fnd at hf
  rw [List.find?_eq_none] at hf
  exact absurd (by simpa using it_eq.1 e) (hf x (List.mem_of_getElem? h))
 | some y =>
  obtain ⟨h1, h2⟩ := fnd_some hf
  obtain ⟨j, hj⟩ := List.getElem?_of_mem h1
  have e2 : y.fPath.data.toList = q.data.toList := it_eq.2 h2
  rcases Nat.lt_trichotomy i j with k | k | k
  ·have := ha j i y x k h hj
   rw [e, e2] at this
   exact absurd this (List.lt_irrefl _)
  ·subst k; rw [h] at hj; exact hj.symm
  ·have := ha i j x y k hj h
   rw [e, e2] at this
   exact absurd this (List.lt_irrefl _)
def gv (ps : List ty.It) (qs : List ByteArray) : List (ByteArray × List En) := qs.filterMap fun q => (fnd ps q).map fun x => (q, x.fTree)
theorem gv_snoc_some {ps : List ty.It} {qs : List ByteArray} {q : ByteArray} {x : ty.It} (h : fnd ps q = some x) : gv ps (qs ++ [q]) = gv ps qs ++ [(q, x.fTree)] := by
 unfold gv; rw [List.filterMap_append]; simp [h]
theorem gv_snoc_none {ps : List ty.It} {qs : List ByteArray} {q : ByteArray} (h : fnd ps q = none) : gv ps (qs ++ [q]) = gv ps qs := by
 unfold gv; rw [List.filterMap_append]; simp [h]
theorem gv_cons_some {ps : List ty.It} {qs : List ByteArray} {q : ByteArray} {x : ty.It} (h : fnd ps q = some x) : gv ps (q :: qs) = (q, x.fTree) :: gv ps qs := by
 unfold gv; simp [h]
theorem gv_len (ps : List ty.It) (qs : List ByteArray) : (gv ps qs).length ≤ qs.length := List.length_filterMap_le _ _
theorem gv_miss {ps : List ty.It} {qs : List ByteArray} {i : Nat} {q : ByteArray} (h : qs[i]? = some q) (hf : fnd ps q = none) : (gv ps qs).length < qs.length := by
 have hd : qs = qs.take i ++ q :: qs.drop (i + 1) := by
  have hlt := (List.getElem?_eq_some_iff.1 h).1
  rw [show q = qs[i] from ((List.getElem?_eq_some_iff.1 h).2).symm, ← List.drop_eq_getElem_cons hlt, List.take_append_drop]
 have h1 : gv ps qs = gv ps (qs.take i) ++ gv ps (qs.drop (i + 1)) := by
  rw (config := {occs := .pos [1]}) [hd]
  unfold gv
  rw [List.filterMap_append, List.filterMap_cons, hf]
  rfl
 have h2 := gv_len ps (qs.take i)
 have h3 := gv_len ps (qs.drop (i + 1))
 have hlt := (List.getElem?_eq_some_iff.1 h).1
 rw [h1, List.length_append]
 rw [List.length_take] at h2
 rw [List.length_drop] at h3
 omega
theorem gv_mem {ps : List ty.It} {qs : List ByteArray} {g : ByteArray × List En} (h : g ∈ gv ps qs) : ∃ x ∈ ps, x.fPath = g.1 ∧ x.fTree = g.2 := by
 unfold gv at h
 rw [List.mem_filterMap] at h
 obtain ⟨q, hq, e⟩ := h
 cases hf : fnd ps q with
 | none => rw [hf] at e; cases e
 | some x =>
  rw [hf] at e
  cases e
  exact ⟨x, (fnd_some hf).1, (fnd_some hf).2, rfl⟩
noncomputable def wrA (ps : List ty.It) (qs : List ByteArray) : List En × Bool :=
 match wlk (gv ps qs) ([], []) with
 | none => ([], false)
 | some s => if qs.length ≤ (gv ps qs).length ∧ tt.treeB (so.enT (se.srt 18 s.2)) s.2.length = true then (se.srt 18 s.2, true) else ([], false)
theorem wrA_none {ps : List ty.It} {qs : List ByteArray} (h : wlk (gv ps qs) ([], []) = none) : wrA ps qs = ([], false) := by unfold wrA; rw [h]
theorem wrA_miss {ps : List ty.It} {qs : List ByteArray} (h : (gv ps qs).length < qs.length) : wrA ps qs = ([], false) := by
 unfold wrA
 split
 ·rfl
 ·rw [if_neg (fun k => by omega)]
theorem wrA_tree {ps : List ty.It} {qs : List ByteArray} {s : List En × List En} (h : wlk (gv ps qs) ([], []) = some s) (ht : tt.treeB (so.enT (se.srt 18 s.2)) s.2.length = false) : wrA ps qs = ([], false) := by
 unfold wrA
 rw [h]
 exact if_neg (fun k => by rw [ht] at k; exact absurd k.2 (by simp))
theorem wrA_yes {ps : List ty.It} {qs : List ByteArray} {s : List En × List En} (h : wlk (gv ps qs) ([], []) = some s) (hl : qs.length ≤ (gv ps qs).length) (ht : tt.treeB (so.enT (se.srt 18 s.2)) s.2.length = true) : wrA ps qs = (se.srt 18 s.2, true) := by
 unfold wrA
 rw [h]
 exact if_pos ⟨hl, ht⟩
end Go.Proofs.YthbgpfjbfkiljaaGreatDoor.wr

set_option linter.unusedVariables false
set_option linter.unusedSimpArgs false
set_option maxRecDepth 100000
set_option maxHeartbeats 16000000
namespace Go.Proofs.YthbgpfjbfkiljaaGreatDoor.wr
open Go.ChangeShapes Go.WideShapes Go.ChangeAt Go.RowKit Go.Deep Go.Maps
theorem nodup_len {F L : List (List UInt8)} (hn : F.Nodup) (hs : ∀ x ∈ F, x ∈ L) : F.length ≤ L.length := by
 induction F generalizing L with
 | nil => simp
 | cons a F ih =>
  rw [List.nodup_cons] at hn
  have ha := hs a (by simp)
  have h1 := ih (L := L.erase a) hn.2 (fun x hx => (List.mem_erase_of_ne (show x ≠ a from fun e => hn.1 (by rw [← e]; exact hx))).2 (hs x (by simp [hx])))
  rw [List.length_erase_of_mem ha] at h1
  have := List.length_pos_of_mem ha
  rw [List.length_cons]
  omega
theorem mem_ix {l : List En} {x : En} (h : x ∈ l) : ∃ i, i < l.length ∧ so.enT l i = so.enX x := by
 obtain ⟨i, hi⟩ := List.getElem?_of_mem h
 exact ⟨i, (List.getElem?_eq_some_iff.1 hi).1, so.enT_some hi⟩
theorem ix_mem {l : List En} {i : Nat} (h : i < l.length) : ∃ x ∈ l, so.enT l i = so.enX x := by
 obtain ⟨x, hx⟩ : ∃ x, l[i]? = some x := ⟨_, List.getElem?_eq_getElem h⟩
 exact ⟨x, List.mem_of_getElem? hx, so.enT_some hx⟩
theorem pth_x {l : List En} {i : Nat} {x : En} (h : so.enT l i = so.enX x) : tt.pth (so.enT l) i = pa x := by unfold tt.pth; rw [h]; rfl
theorem enX_inj {x y : En} (h : so.enX x = so.enX y) : x = y := by
 obtain ⟨p, k, d, b⟩ := x
 obtain ⟨p', k', d', b'⟩ := y
 unfold so.enX at h
 simp at h
 obtain ⟨h1, h2, h3, h4⟩ := h
 subst h1 h2 h3 h4
 rfl
theorem dir_iff {l : List En} {p : List UInt8} : tt.Dir (so.enT l) l.length p ↔ ∃ x ∈ l, pa x = p ∧ x.fKind = 1 := by
 constructor
 ·rintro ⟨j, hj, h1, h2⟩
  obtain ⟨x, hx, e⟩ := ix_mem hj
  refine ⟨x, hx, by rw [← pth_x e]; exact h1, ?_⟩
  rw [e] at h2
  exact h2
 ·rintro ⟨x, hx, h1, h2⟩
  obtain ⟨j, hj, e⟩ := mem_ix hx
  exact ⟨j, hj, by rw [pth_x e]; exact h1, by rw [e]; exact h2⟩
theorem full_iff {l : List En} {p : List UInt8} : tt.Full (so.enT l) l.length p ↔ ∃ x ∈ l, tt.Und (pa x) p := by
 constructor
 ·rintro ⟨j, hj, h1⟩
  obtain ⟨x, hx, e⟩ := ix_mem hj
  exact ⟨x, hx, by rw [← pth_x e]; exact h1⟩
 ·rintro ⟨x, hx, h1⟩
  obtain ⟨j, hj, e⟩ := mem_ix hx
  exact ⟨j, hj, by rw [pth_x e]; exact h1⟩
theorem tr_uniq {l : List En} (hT : tt.Tr (so.enT l) l.length) {x y : En} (hx : x ∈ l) (hy : y ∈ l) (h : pa x = pa y) : x = y := by
 obtain ⟨i, hi, e1⟩ := mem_ix hx
 obtain ⟨j, hj, e2⟩ := mem_ix hy
 have ha := hT.asc
 rcases Nat.lt_trichotomy i j with k | k | k
 ·have := ha i j k hj
  rw [pth_x e1, pth_x e2, h] at this
  exact absurd this (List.lt_irrefl _)
 ·subst k; rw [e1] at e2; exact enX_inj e2
 ·have := ha j i k hi
  rw [pth_x e1, pth_x e2, h] at this
  exact absurd this (List.lt_irrefl _)
theorem tr_ok {l : List En} (hT : tt.Tr (so.enT l) l.length) {x : En} (hx : x ∈ l) : tt.eOk (so.enX x) = true := by
 obtain ⟨i, hi, e⟩ := mem_ix hx
 have := hT.1 i hi
 rwa [e] at this
def etL (E : Nat → tt.En) (m : Nat) : List En := (List.range m).map fun i => ⟨(E i).path, (E i).kind, (E i).data, (E i).exec⟩
theorem etL_len (E : Nat → tt.En) (m : Nat) : (etL E m).length = m := by unfold etL; rw [List.length_map, List.length_range]
theorem etL_at {E : Nat → tt.En} {m i : Nat} (h : i < m) : (etL E m)[i]? = some ⟨(E i).path, (E i).kind, (E i).data, (E i).exec⟩ := by
 unfold etL
 rw [List.getElem?_map, List.getElem?_range h]
 rfl
theorem etL_en {E : Nat → tt.En} {m i : Nat} (h : i < m) : so.enT (etL E m) i = E i := by rw [so.enT_some (etL_at h)]; rfl
theorem tr_same {E F : Nat → tt.En} {m : Nat} (h : ∀ i, i < m → F i = E i) (hT : tt.Tr E m) : tt.Tr F m := by
 have hp : ∀ i, i < m → tt.pth F i = tt.pth E i := fun i hi => by unfold tt.pth; rw [h i hi]
 obtain ⟨a, b, c⟩ := hT
 refine ⟨fun i hi => by rw [h i hi]; exact a i hi, fun i hi => by rw [hp i (by omega), hp (i + 1) hi]; exact b i hi, fun i hi => ?_⟩
 rw [hp i hi]
 intro h1
 obtain ⟨j, hj, h2, h3⟩ := c i hi h1
 exact ⟨j, hj, by rw [hp j (by omega)]; exact h2, by rw [h j (by omega)]; exact h3⟩
structure St (ps : List ty.It) (sn t : List En) : Prop where
 len : t.length = sn.length
 nd : (sn.map pa).Nodup
 pt : t.map pa = sn.map pa
 ln : ∀ m ∈ sn, ∃ q, lnk q m ∈ t
 src : ∀ x ∈ t, ∃ y ∈ ps, ∃ e ∈ y.fTree, x = lnk y.fPath e
 it : ∀ m ∈ sn, ∃ y ∈ ps, m ∈ y.fTree
theorem St.nil (ps : List ty.It) : St ps [] [] := ⟨rfl, by simp, rfl, by simp, by simp, by simp⟩
theorem St.new {ps : List ty.It} {sn t : List En} {q : ByteArray} {e : En} {y : ty.It} (h : St ps sn t) (hl : look sn e.fPath = none) (hy : y ∈ ps) (hq : y.fPath = q) (he : e ∈ y.fTree) : St ps (sn ++ [e]) (t ++ [lnk q e]) := by
 refine ⟨by simp [h.len], ?_, by simp [h.pt, lnk_pa], fun m hm => ?_, fun x hx => ?_, fun m hm => ?_⟩
 ·rw [List.map_append, List.nodup_append]
  refine ⟨h.nd, by simp, fun a ha b hb e2 => ?_⟩
  obtain ⟨m, hm, rfl⟩ := List.mem_map.1 ha
  simp only [List.map_cons, List.map_nil, List.mem_singleton] at hb
  rw [hb] at e2
  exact look_none hl m hm (pa_eq.1 e2)
 ·rcases List.mem_append.1 hm with k | k
  ·obtain ⟨q', hq'⟩ := h.ln m k
   exact ⟨q', List.mem_append_left _ hq'⟩
  ·simp only [List.mem_singleton] at k
   subst k
   exact ⟨q, by simp⟩
 ·rcases List.mem_append.1 hx with k | k
  ·exact h.src x k
  ·simp only [List.mem_singleton] at k
   exact ⟨y, hy, e, he, by rw [k, hq]⟩
 ·rcases List.mem_append.1 hm with k | k
  ·exact h.it m k
  ·simp only [List.mem_singleton] at k
   subst k
   exact ⟨y, hy, he⟩
theorem St.few {ps : List ty.It} {sn t : List En} (h : St ps sn t) (h3 : ps.length ≤ 300) (h5 : ∀ y ∈ ps, y.fTree.length ≤ 500) : t.length ≤ 150000 := by
 rw [h.len]
 have h1 := nodup_len (L := (ps.flatMap fun y => y.fTree).map pa) h.nd fun p hp => by
  obtain ⟨m, hm, rfl⟩ := List.mem_map.1 hp
  obtain ⟨y, hy, hm2⟩ := h.it m hm
  exact List.mem_map.2 ⟨m, List.mem_flatMap.2 ⟨y, hy, hm2⟩, rfl⟩
 rw [List.length_map, List.length_map] at h1
 have h2 : ∀ (l : List ty.It), (∀ y ∈ l, y.fTree.length ≤ 500) → (l.flatMap fun y => y.fTree).length ≤ l.length * 500 := by
  intro l
  induction l with
  | nil => intro _; simp
  | cons a l ih =>
   intro k
   rw [List.flatMap_cons, List.length_append, List.length_cons]
   have := k a (by simp)
   have := ih fun y hy => k y (by simp [hy])
   omega
 have := h2 ps h5
 omega
theorem St.sm {ps : List ty.It} {sn t : List En} (h : St ps sn t) (hw : ty.wtIt ps ≤ 1048576) : ∀ x ∈ t, x.fPath.size ≤ 1048576 ∧ x.fData.size ≤ 1048576 := fun x hx => by
 obtain ⟨y, hy, e, he, rfl⟩ := h.src x hx
 have h1 := ty.wtIt_mem hy
 have h2 := ty.wtEt_mem he
 have h3 := List.length_pos_of_mem he
 have h4 := List.length_pos_of_mem hy
 unfold ty.wt1It at h1
 unfold ty.wt1Et at h2
 rw [lnk_path]
 refine ⟨by omega, ?_⟩
 unfold lnk
 split
 ·omega
 ·show (y.fPath ++ ⟨#[47]⟩ ++ e.fPath).size ≤ _
  rw [ByteArray.size_append, ByteArray.size_append]
  have : (⟨#[47]⟩ : ByteArray).size = 1 := rfl
  omega
theorem St.smn {ps : List ty.It} {sn t : List En} (h : St ps sn t) (hw : ty.wtIt ps ≤ 1048576) : ∀ x ∈ sn, x.fPath.size ≤ 1048576 ∧ x.fData.size ≤ 1048576 := fun x hx => by
 obtain ⟨y, hy, he⟩ := h.it x hx
 have h1 := ty.wtIt_mem hy
 have h2 := ty.wtEt_mem he
 unfold ty.wt1It at h1
 unfold ty.wt1Et at h2
 exact ⟨by omega, by omega⟩
theorem sm_of {l : List En} (h : ∀ x ∈ l, x.fPath.size ≤ 1048576 ∧ x.fData.size ≤ 1048576) : tt.SmE l.length (so.enT l) := fun i hi => by
 obtain ⟨x, hx, e⟩ := ix_mem hi
 rw [e]
 exact h x hx
structure Ou (t out : List En) : Prop where
 tree : tt.treeB (so.enT out) out.length = true
 mem : ∀ x, x ∈ out ↔ x ∈ t
 len : out.length = t.length
theorem Ou.nil : Ou [] [] := ⟨tt.treeB_yes (by simp) ⟨fun i h => by simp at h, fun i h => by simp at h, fun i h => by simp at h⟩, fun x => Iff.rfl, rfl⟩
theorem Ou.put {t out : List En} {x : En} {a : Nat} (h : Ou t out) (hn : ∀ y ∈ t, pa y ≠ pa x) (hr : tt.Rk (so.enT out) out.length (pa x) a) (hk : tt.Tk (so.enT out) out.length (so.enX x) a) : Ou (t ++ [x]) (etL (tt.ptF (so.enT out) out.length (so.enX x) a) (tt.ptN (so.enT out) out.length (so.enX x) a)) := by
 obtain ⟨h5, hT⟩ := tt.treeB_is h.tree
 have hT2 := tt.put_tree hT hr hk
 have h52 := tt.put_few h5 hk
 have hni : ¬ tt.Is (so.enT out) out.length (pa x) a := fun ⟨h1, h2⟩ => by
  obtain ⟨y, hy, e⟩ := ix_mem h1
  rw [pth_x e] at h2
  exact hn y ((h.mem y).1 hy) h2
 have hN : tt.ptN (so.enT out) out.length (so.enX x) a = out.length + 1 := by
  unfold tt.ptN
  rw [if_neg (by rw [tt.isB_iff]; exact hni)]
 refine ⟨?_, fun z => ?_, ?_⟩
 ·rw [etL_len]
  exact tt.treeB_yes h52 (tr_same (fun i hi => etL_en hi) hT2)
 ·constructor
  ·intro hz
   obtain ⟨k, hk1⟩ := List.getElem?_of_mem hz
   have hlt := (List.getElem?_eq_some_iff.1 hk1).1
   rw [etL_len] at hlt
   have e1 := so.enT_some hk1
   rw [etL_en hlt] at e1
   rcases tt.pt_old hr hT.asc hlt with ⟨_, e⟩ | ⟨j, hj, e, _⟩
   ·rw [e] at e1
    rw [enX_inj e1.symm]
    simp
   ·obtain ⟨y, hy, e2⟩ := ix_mem hj
    rw [e, e2] at e1
    rw [enX_inj e1.symm]
    exact List.mem_append_left _ ((h.mem y).1 hy)
  ·intro hz
   have key : ∃ k, k < tt.ptN (so.enT out) out.length (so.enX x) a ∧ tt.ptF (so.enT out) out.length (so.enX x) a k = so.enX z := by
    rcases List.mem_append.1 hz with k | k
    ·obtain ⟨j, hj, e⟩ := mem_ix ((h.mem z).2 k)
     obtain ⟨k', hk', e2⟩ := tt.pt_new (e := so.enX x) hr hj (by rw [pth_x e]; exact hn z k)
     exact ⟨k', hk', by rw [e2, e]⟩
    ·simp only [List.mem_singleton] at k
     subst k
     refine ⟨a, by have := hr.le; omega, ?_⟩
     unfold tt.ptF
     rw [if_neg (by omega), if_pos rfl]
   obtain ⟨k, hk1, e⟩ := key
   have := etL_at (E := tt.ptF (so.enT out) out.length (so.enX x) a) hk1
   rw [e] at this
   exact List.mem_of_getElem? this
 ·rw [etL_len, hN, h.len]
  simp
theorem puts_ok {ps : List ty.It} {sn t out frm es u : List En} {q : ByteArray} {e : En} {j a a' : Nat} (hst : St ps sn t) (ho : Ou t out) (hf : Ou sn frm) (htr : tt.treeB (so.enT es) es.length = true) (hj : es[j]? = some e) (hdone : ∀ (k : Nat) (e' : En), k < j → es[k]? = some e' → e' ∈ sn) (hnew : look sn e.fPath = none)
  (hT : tt.treeB (so.enT (se.srt 18 (t ++ [lnk q e] ++ u))) (t ++ [lnk q e] ++ u).length = true) :
  tt.Tk (so.enT out) out.length (so.enX (lnk q e)) a ∧ tt.Tk (so.enT frm) frm.length (so.enX e) a' := by
 obtain ⟨T, hTT⟩ : ∃ T, se.srt 18 (t ++ [lnk q e] ++ u) = T := ⟨_, rfl⟩
 have hTl : (t ++ [lnk q e] ++ u).length = T.length := by rw [← hTT, se.srt_len]
 have hTm : ∀ x, x ∈ T ↔ x ∈ t ++ [lnk q e] ++ u := fun x => by rw [← hTT]; exact (se.srt_perm 18 _).mem_iff
 rw [hTl, hTT] at hT
 obtain ⟨hT5, hTr⟩ := tt.treeB_is hT
 obtain ⟨_, hes⟩ := tt.treeB_is htr
 have hL : lnk q e ∈ T := (hTm _).2 (by simp)
 have hlen : t.length < 500 := by
  have : t.length + 1 ≤ T.length := by rw [← hTl]; simp
  omega
 have hee : e ∈ es := List.mem_of_getElem? hj
 have hup : tt.up (pa e) ≠ [] → ∃ d ∈ sn, pa d = tt.up (pa e) ∧ d.fKind = 1 := fun hne => by
  have hjl := (List.getElem?_eq_some_iff.1 hj).1
  have e1 := pth_x (so.enT_some hj)
  obtain ⟨k, hk, h2, h3⟩ := hes.2.2 j hjl (by rw [e1]; exact hne)
  obtain ⟨d, hd⟩ : ∃ d, es[k]? = some d := ⟨_, List.getElem?_eq_getElem (by omega)⟩
  rw [pth_x (so.enT_some hd), e1] at h2
  rw [so.enT_some hd] at h3
  exact ⟨d, hdone k d hk hd, h2, h3⟩
 have hpne : pa e ≠ [] := tt.path_ne (tr_ok hes hee)
 -- nothing stands below it but where it is a directory
 have hfull : ∀ y ∈ t, tt.Und (pa y) (pa e) → e.fKind = 1 := fun y hy hu => by
  have hd := tt.full_is hTr hpne (full_iff.2 ⟨y, (hTm y).2 (by simp [hy]), hu⟩)
  obtain ⟨z, hz, hz1, hz2⟩ := dir_iff.1 hd
  have := tr_uniq hTr hz hL (by rw [hz1, lnk_pa])
  rw [this] at hz2
  exact lnk_kind.1 hz2
 refine ⟨⟨tr_ok hTr hL, fun hne => ?_, ?_, .inr (by rw [ho.len]; exact hlen)⟩, ⟨tr_ok hes hee, fun hne => ?_, ?_, .inr (by rw [hf.len, ← hst.len]; exact hlen)⟩⟩
 ·have hpe : (so.enX (lnk q e)).path.data.toList = pa e := lnk_pa q e
  rw [hpe] at hne ⊢
  obtain ⟨d, hd, h1, h2⟩ := hup hne
  obtain ⟨q', hq'⟩ := hst.ln d hd
  rw [lnk_dir h2] at hq'
  exact dir_iff.2 ⟨d, (ho.mem d).2 hq', h1, h2⟩
 ·have hpe : (so.enX (lnk q e)).path.data.toList = pa e := lnk_pa q e
  rw [hpe]
  rcases Classical.em (e.fKind = 1) with h | h
  ·exact .inl (lnk_kind.2 h)
  ·refine .inr fun hfu => h ?_
   obtain ⟨y, hy, hu⟩ := full_iff.1 hfu
   exact hfull y ((ho.mem y).1 hy) hu
 ·obtain ⟨d, hd, h1, h2⟩ := hup hne
  exact dir_iff.2 ⟨d, (hf.mem d).2 hd, h1, h2⟩
 ·rcases Classical.em (e.fKind = 1) with h | h
  ·exact .inl h
  ·refine .inr fun hfu => h ?_
   obtain ⟨y, hy, hu⟩ := full_iff.1 hfu
   obtain ⟨q', hq'⟩ := hst.ln y ((hf.mem y).1 hy)
   exact hfull _ hq' (by rw [lnk_pa]; exact hu)
theorem asc_ext : ∀ {l m : List En}, l.Pairwise (fun a b => pa a < pa b) → m.Pairwise (fun a b => pa a < pa b) → (∀ x, x ∈ l ↔ x ∈ m) → l = m
 | [], [], _, _, _ => rfl
 | [], y :: m, _, _, h => absurd ((h y).2 (by simp)) (by simp)
 | x :: l, [], _, _, h => absurd ((h x).1 (by simp)) (by simp)
 | x :: l, y :: m, hl, hm, h => by
  rw [List.pairwise_cons] at hl hm
  have hxy : x = y := by
   rcases List.mem_cons.1 ((h x).1 (by simp)) with k | k
   ·exact k
   ·rcases List.mem_cons.1 ((h y).2 (by simp)) with k2 | k2
    ·exact k2.symm
    ·exact absurd (List.lt_trans (hm.1 x k) (hl.1 y k2)) (List.lt_irrefl _)
  subst hxy
  have : l = m := asc_ext hl.2 hm.2 fun z => by
   constructor
   ·intro hz
    rcases List.mem_cons.1 ((h z).1 (by simp [hz])) with k | k
    ·subst k; exact absurd (hl.1 z hz) (List.lt_irrefl _)
    ·exact k
   ·intro hz
    rcases List.mem_cons.1 ((h z).2 (by simp [hz])) with k | k
    ·subst k; exact absurd (hm.1 z hz) (List.lt_irrefl _)
    ·exact k
  rw [this]
theorem tr_asc {l : List En} (hT : tt.Tr (so.enT l) l.length) : l.Pairwise (fun a b => pa a < pa b) := by
 rw [List.pairwise_iff_getElem]
 intro i j hi hj hij
 have h1 := pth_x (so.enT_some (List.getElem?_eq_getElem hi))
 have h2 := pth_x (so.enT_some (List.getElem?_eq_getElem hj))
 have := hT.asc i j hij hj
 rwa [h1, h2] at this
theorem pw_lt : ∀ {l : List En}, l.Pairwise se.le → (l.map pa).Nodup → l.Pairwise (fun a b => pa a < pa b)
 | [], _, _ => List.Pairwise.nil
 | x :: l, h, hn => by
  rw [List.pairwise_cons] at h ⊢
  rw [List.map_cons, List.nodup_cons] at hn
  refine ⟨fun y hy => ?_, pw_lt h.2 hn.2⟩
  rcases tt.lt_tri (pa x) (pa y) with k | k | k
  ·exact k
  ·exact absurd (List.mem_map.2 ⟨y, hy, k.symm⟩) hn.1
  ·exact absurd k (h.1 y hy)
theorem out_is {ps : List ty.It} {sn t out : List En} (hst : St ps sn t) (ho : Ou t out) (hl : t.length ≤ 262144) : out = se.srt 18 t := by
 have hp := se.srt_perm 18 t
 refine asc_ext (tr_asc (tt.treeB_is ho.tree).2) (pw_lt (se.srt_asc 18 t (by omega)) ?_) fun x => by rw [ho.mem, hp.mem_iff]
 rw [(hp.map pa).nodup_iff, hst.pt]
 exact hst.nd
end Go.Proofs.YthbgpfjbfkiljaaGreatDoor.wr
