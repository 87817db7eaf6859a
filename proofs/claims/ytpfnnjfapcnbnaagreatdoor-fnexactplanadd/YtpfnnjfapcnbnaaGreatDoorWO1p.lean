import Derived.Test.YtpfnnjfapcnbnaaGreatDoorSO2p
import Derived.Test.YtpfnnjfapcnbnaaGreatDoorYE1p
import Derived.Sort.Walk0
import Derived.Test.YtpfnnjfapcnbnaaGreatDoorPSp
import Derived.Test.YtpfnnjfapcnbnaaGreatDoorTT2p
import Derived.Deep.RegionHeld3
set_option linter.unusedVariables false
set_option linter.unusedSimpArgs false
set_option maxRecDepth 100000
set_option maxHeartbeats 16000000
namespace Go.Proofs.YtpfnnjfapcnbnaaGreatDoor.so
open Go.ChangeShapes Go.WideShapes Go.ChangeAt Go.RowKit Go.Deep Go.Shelf Go.Maps
theorem ascN_at {l : List ByteArray} {n k : Nat} (h : ap.ascN l n = true) (hk : k < n) : ap.ltB l k = true := by
 unfold ap.ascN at h
 exact List.all_eq_true.1 h k (List.mem_range.2 hk)
theorem asc_lt {ps : List ty.It} (h : ap.asB (ps.map fun y => y.fPath) = true) : ∀ (i j : Nat) (x y : ty.It), j < i → ps[j]? = some y → ps[i]? = some x → y.fPath.data.toList < x.fPath.data.toList
 | 0, j, x, y, hj, _, _ => by omega
 | K + 1, j, x, y, hj, hy, hx => by
  have hlt := (List.getElem?_eq_some_iff.1 hx).1
  have step : ∀ z, ps[K]? = some z → z.fPath.data.toList < x.fPath.data.toList := fun z hz => by
   have h1 := ascN_at (k := K + 1) h (by rw [List.length_map]; exact hlt)
   rw [ap.ltB_succ (pa_some hx) (pa_some hz), ByteArray.toList_eq, ByteArray.toList_eq, Go.Proofs.bytesLess_eq] at h1
   simpa using h1
  rcases Nat.lt_or_ge j K with hjk | hjk
  ·obtain ⟨z, hz⟩ : ∃ z, ps[K]? = some z := ⟨_, List.getElem?_eq_getElem (by omega)⟩
   exact List.lt_trans (asc_lt h K j z y hjk hy hz) (step z hz)
  ·obtain rfl : j = K := by omega
   exact step y hy
theorem bad_asc {ps : List ty.It} (h : ap.asB (ps.map fun y => y.fPath) = true) {i : Nat} {x : ty.It} (hx : ps[i]? = some x) : badN ps i = !itB (pths ps) x := by
 rw [bad_at hx]
 have : decide (x.fPath.data.toList ∈ pths (ps.take i)) = false := decide_eq_false fun hm => by
  unfold pths at hm
  obtain ⟨y, hy, e⟩ := List.mem_map.1 hm
  obtain ⟨j, hj⟩ := List.getElem?_of_mem hy
  have hji := (List.getElem?_eq_some_iff.1 hj).1
  rw [List.length_take] at hji
  rw [List.getElem?_take_of_lt (by omega)] at hj
  have := asc_lt h i j x y (by omega) hj hx
  rw [e] at this
  exact List.lt_irrefl _ this
 rw [this, Bool.false_or]
theorem mis_nil {ps : List ty.It} (h : ap.asB (ps.map fun y => y.fPath) = true) : decide ((misN ps ps.length).length = 0) = ps.all (itB (pths ps)) := by
 rw [Bool.eq_iff_iff, decide_eq_true_eq, List.all_eq_true]
 unfold misN
 rw [List.length_map]
 constructor
 ·intro h0 x hx
  obtain ⟨i, hi⟩ := List.getElem?_of_mem hx
  have hil := (List.getElem?_eq_some_iff.1 hi).1
  cases hb : itB (pths ps) x with
  | true => rfl
  | false =>
   have : i ∈ (List.range ps.length).filter (badN ps) := List.mem_filter.2 ⟨List.mem_range.2 hil, by rw [bad_asc h hi, hb]; rfl⟩
   rw [List.eq_nil_of_length_eq_zero h0] at this
   cases this
 ·intro hall
  rw [List.length_eq_zero_iff, List.filter_eq_nil_iff]
  intro i hi
  obtain ⟨x, hx⟩ : ∃ x, ps[i]? = some x := ⟨_, List.getElem?_eq_getElem (List.mem_range.1 hi)⟩
  rw [bad_asc h hx, hall x (List.mem_of_getElem? hx)]
  simp
theorem istore_any (lo : Nat) (a : Option Addr) (c : Nat) (ps : List ty.It) (w : World) (hb : ty.SrcIt (some lo) w a ps) (hw : ty.wtIt ps ≤ 1048576) (hm : tt.ML w) (hT : wd.TabB w) :
  Calls Tryz.prog 40 #[.slice a ps.length c] w fun e w' => e = .returned (.bool (stB ps)) ∧ Below w.heap.size w w' := by
 have hl0 := ty.wtIt_len ps
 have HAS : Hid (∀ W : World, W = w → Calls Tryz.prog 85 #[.slice a ps.length c, .func (.func 86) #[] #[]] W fun e w' => e = .returned (.bool (ap.asB (ps.map fun m => m.fPath))) ∧ Below W.heap.size W w') := fun W hW => by subst hW; exact ascI_any a c ps W hb.any (by omega)
 have HMI : Hid (ps.length ≤ 300 → ∀ W : World, Below w.heap.size w W → Calls Tryz.prog 87 #[.slice a ps.length c] W fun e w' => (∃ v, e = .returned v ∧ sr.OwnS W.heap.size w' v (misN ps ps.length)) ∧ Below W.heap.size W w') := fun h3 W h => mis_any lo a c ps W (hb.below h) hw (by omega) (hm.below h) (hT.below h)
 obtain ⟨R, hR⟩ : ∃ R, stB ps = R := ⟨_, rfl⟩
 have HR : Hid (R = (decide (ps.length ≤ 300) && (ap.asB (ps.map fun y => y.fPath) && ps.all (itB (pths ps))))) := by show _ = _; rw [← hR]; rfl
 have HN : Hid (ap.asB (ps.map fun y => y.fPath) = true → decide ((misN ps ps.length).length = 0) = ps.all (itB (pths ps))) := fun h => mis_nil h
 rw [hR]
 generalize ap.asB (ps.map fun m => m.fPath) = ba at HAS HR HN
 generalize ps.all (itB (pths ps)) = bm at HR HN
 obtain ⟨zs, hzs⟩ : ∃ z, misN ps ps.length = z := ⟨_, rfl⟩
 rw [hzs] at HMI HN
 clear hb hm hT hR hw hzs
 by_cases h3 : ps.length ≤ 300
 ·have h3' : (ps.length : Int) ≤ 300 := by omega
  cases ba with
  | false =>
   have HT : Hid (R = false) := by show _ = _; rw [HR.out]; simp
   go_enter Tryz.func40, Tryz.ntmps40
   go_wp2_with (go_at_call 85; refine (HAS.out _ rfl).mono ?_; rintro e w1 ⟨rfl, hl1⟩)
   go_ret
   exact ⟨ret_bool HT.out.symm, hl1⟩
  | true =>
   have HM2 := Lib.hid (HMI.out h3)
   have HT : Hid (R = decide (zs.length = 0)) := by show _ = _; rw [HN.out rfl, HR.out, decide_eq_true h3]; simp
   clear HMI HN HR
   go_enter Tryz.func40, Tryz.ntmps40
   go_wp2_with (go_at_call 85; refine (HAS.out _ rfl).mono ?_; rintro e w1 ⟨rfl, hl1⟩; refine Hid.out ?_)
   refine Lib.hid ?_
   go_wp2_with (go_at_call 87; refine (HM2.out _ hl1).mono ?_; rintro e w2 ⟨⟨v, rfl, hv⟩, hl2⟩; obtain ⟨vb, vo, vc, rfl, _, _, _⟩ := hv.row)
   go_ret
   exact ⟨ret_bool (by (rw [HT.out]) <;> first | rfl | (rw [Bool.eq_iff_iff]; simp; try omega)), hl1.trans (hl2.mono hl1.size)⟩
 ·have h3' : ¬ (ps.length : Int) ≤ 300 := by omega
  have HT : Hid (R = false) := by show _ = _; rw [HR.out, decide_eq_false h3]; rfl
  go_enter Tryz.func40, Tryz.ntmps40
  go_wp2
  go_ret
  exact ⟨ret_bool HT.out.symm, Below.refl _ _⟩
def geX (x : ty.Ge) : pf.Gn := ⟨x.fN, x.fPath⟩
def prX (x : ty.Pr) : pf.Pr := ⟨x.fName, x.fNow, x.fGens.map geX⟩
theorem src_gen {md : Option Nat} {w : World} {a : Option Addr} {l : List ty.Ge} (h : ty.SrcGe md w a l) : pf.SrcG w a (l.map geX) := by
 rcases h with ⟨_, rfl⟩ | ⟨b, o, e, _, hc⟩
 ·exact .inl rfl
 ·refine .inr ⟨b, o, e, fun i x hx => ?_⟩
  rw [List.getElem?_map] at hx
  cases hy : l[i]? with
  | none => rw [hy] at hx; cases hx
  | some y =>
   rw [hy] at hx
   cases hx
   obtain ⟨q0, q1⟩ := hc i y hy
   exact ⟨q0, q1⟩
theorem src_prof {md : Option Nat} {w : World} {a : Option Addr} {l : List ty.Pr} (h : ty.SrcPr md w a l) : pf.SrcP w a (l.map prX) := by
 rcases h with ⟨_, rfl⟩ | ⟨b, o, e, _, hc⟩
 ·exact .inl rfl
 ·refine .inr ⟨b, o, e, fun i x hx => ?_⟩
  rw [List.getElem?_map] at hx
  cases hy : l[i]? with
  | none => rw [hy] at hx; cases hx
  | some y =>
   rw [hy] at hx
   cases hx
   obtain ⟨a2, c2, q0, q1, q2, s2, _⟩ := hc i y hy
   exact ⟨a2, c2, q0, q1, by rw [q2]; simp [prX], src_gen s2⟩
theorem wt_gen (l : List ty.Ge) : pf.wtG (l.map geX) = ty.wtGe l := by
 unfold pf.wtG pf.wtS ty.wtGe ty.wtkGe
 rw [List.take_length, List.take_length, List.length_map, List.map_map]
 rfl
theorem wt_prof (l : List ty.Pr) : pf.wtP (l.map prX) = ty.wtPr l := by
 unfold pf.wtP pf.wtSP ty.wtPr ty.wtkPr
 rw [List.take_length, List.take_length, List.length_map, List.map_map]
 congr 2
 apply List.map_congr_left
 intro x _
 show pf.wt1 (prX x) = ty.wt1Pr x
 unfold pf.wt1 ty.wt1Pr
 show x.fName.size + pf.wtG (x.fGens.map geX) = _
 rw [wt_gen]
noncomputable def peB (x : ty.Pe) : Bool := wd.aokB x.fPath && (frB x.fFrom && tt.treeB (enT x.fTree) x.fTree.length)
def nxB (x : ty.Nx) : Bool := nm.nameB x.fName && wd.aokB x.fPath
def hasB (ps : List ty.It) (p : ByteArray) : Bool := decide (p.data.toList ∈ pths ps)
def genB (ps : List ty.It) (l : List ty.Ge) : Bool := l.all fun g => hasB ps g.fPath
def gensB (ps : List ty.It) (l : List ty.Pr) : Bool := l.all fun p => genB ps p.fGens
noncomputable def begP (l : List ty.Pe) : Bool := decide (l.length ≤ 20) && l.all peB
def begN (l : List ty.Nx) : Bool := decide (l.length ≤ 20) && l.all nxB
noncomputable def woB (x : ty.Wo) : Bool := stB x.fStore && (pf.psB (x.fProfiles.map prX) && (begP x.fPending && (begN x.fNexts && gensB x.fStore x.fProfiles)))
theorem st_facts {ps : List ty.It} (h : stB ps = true) : ps.length ≤ 300 ∧ ap.asB (ps.map fun y => y.fPath) = true := by
 unfold stB at h
 simp only [Bool.and_eq_true, decide_eq_true_eq] at h
 exact ⟨h.1, h.2.1⟩
noncomputable def cmpI (p q : List UInt8) : Int := if p < q then -1 else if q < p then 1 else 0
theorem cmpI_lt {p q : List UInt8} (h : p < q) : cmpI p q = -1 := by unfold cmpI; rw [if_pos h]
theorem cmpI_gt {p q : List UInt8} (h : q < p) : cmpI p q = 1 := by unfold cmpI; rw [if_neg (fun h2 => List.lt_irrefl _ (List.lt_trans h h2)), if_pos h]
theorem cmpI_eq (p : List UInt8) : cmpI p p = 0 := by unfold cmpI; rw [if_neg (List.lt_irrefl _), if_neg (List.lt_irrefl _)]
theorem lt_triI (p q : List UInt8) : p < q ∨ p = q ∨ q < p := by
 by_cases h : p < q
 ·exact .inl h
 ·by_cases h2 : q < p
  ·exact .inr (.inr h2)
  ·exact .inr (.inl (List.le_antisymm (List.not_lt.1 h2) (List.not_lt.1 h)))
theorem cmpI_zero {p q : List UInt8} : cmpI p q = 0 ↔ p = q := by
 constructor
 ·intro h
  rcases lt_triI p q with h1 | h1 | h1
  ·rw [cmpI_lt h1] at h; cases h
  ·exact h1
  ·rw [cmpI_gt h1] at h; cases h
 ·rintro rfl; exact cmpI_eq _
theorem blI (x y : ByteArray) : Op.bytesLess x.toList y.toList = decide (x.data.toList < y.data.toList) := by rw [ByteArray.toList_eq, ByteArray.toList_eq, Go.Proofs.bytesLess_eq]
theorem nanI_any (p : ByteArray) (w : World) : Calls Tryz.prog 191 #[.string p] w fun e w' => e = .returned (.bool false) ∧ w' = w := by
 go_enter Tryz.func191, Tryz.ntmps191
 go_wp2
 go_ret
 first | exact ⟨rfl, rfl⟩ | exact ⟨by simp, rfl⟩
theorem cmpI_any (p q : ByteArray) (w : World) : Calls Tryz.prog 164 #[.string p, .string q] w fun e w' => e = .returned (.int .i64 (cmpI p.data.toList q.data.toList)) ∧ w' = w := by
 have HNA : Hid (∀ x W, Calls Tryz.prog 191 #[.string x] W fun e w' => e = .returned (.bool false) ∧ w' = W) := fun x W => nanI_any x W
 obtain ⟨r, hr⟩ : ∃ r, cmpI p.data.toList q.data.toList = r := ⟨_, rfl⟩
 rw [hr]
 have HR := Lib.hid hr
 clear hr
 rcases lt_triI p.data.toList q.data.toList with h | h | h
 ·have h1 : Op.bytesLess p.toList q.toList = true := by rw [blI]; simpa using h
  have e : r = -1 := HR.out.symm.trans (cmpI_lt h)
  subst e
  clear h HR
  go_enter Tryz.func164, Tryz.ntmps164
  go_wp2_with (go_at_call 191; refine (HNA.out _ _).mono ?_; rintro e w1 ⟨rfl, rfl⟩)
  go_ret
  exact ⟨rfl, rfl⟩
 ·have h1 : Op.bytesLess p.toList q.toList = false := by rw [blI, h]; exact decide_eq_false (List.lt_irrefl _)
  have h2 : (p.toList == q.toList) = true := by rw [ByteArray.toList_eq, ByteArray.toList_eq]; simpa using h
  have e : r = 0 := HR.out.symm.trans (by rw [h]; exact cmpI_eq _)
  subst e
  clear h HR
  go_enter Tryz.func164, Tryz.ntmps164
  go_wp2_with (go_at_call 191; refine (HNA.out _ _).mono ?_; rintro e w1 ⟨rfl, rfl⟩)
  go_ret
  exact ⟨rfl, rfl⟩
 ·have h1 : Op.bytesLess p.toList q.toList = false := by rw [blI]; exact decide_eq_false (fun h2 => List.lt_irrefl _ (List.lt_trans h h2))
  have h2 : (p.toList == q.toList) = false := by
   rw [ByteArray.toList_eq, ByteArray.toList_eq, beq_eq_false_iff_ne]
   intro e
   rw [e] at h
   exact List.lt_irrefl _ h
  have e : r = 1 := HR.out.symm.trans (cmpI_gt h)
  subst e
  clear h HR
  go_enter Tryz.func164, Tryz.ntmps164
  go_wp2_with (go_at_call 191; refine (HNA.out _ _).mono ?_; rintro e w1 ⟨rfl, rfl⟩)
  go_ret
  exact ⟨rfl, rfl⟩
theorem in1_any (p v1 v3 q : ByteArray) (v2 v4 : Value) (w : World) :
  Calls Tryz.prog 163 #[.agg #[.string p, .string v1, v2, .string v3, v4], .string q] w fun e w' => e = .returned (.int .i64 (cmpI p.data.toList q.data.toList)) ∧ Below w.heap.size w w' := by
 have HC := Lib.hid fun (W : World) => cmpI_any p q W
 obtain ⟨r, hr⟩ : ∃ r, cmpI p.data.toList q.data.toList = r := ⟨_, rfl⟩
 rw [hr] at HC ⊢
 clear hr
 go_enter Tryz.func163, Tryz.ntmps163
 go_wp2_with (go_at_call 164; refine (HC.out _).mono ?_; rintro e w1 ⟨rfl, rfl⟩)
 go_ret
 exact ⟨rfl, (Below.refl _ _).alloc (Nat.le_refl _) _⟩
def ItR (w : World) (a : Option Addr) (ps : List ty.It) : Prop := ∀ (i : Nat) (x : ty.It), ps[i]? = some x → ∃ b o a2 c2 a4 c4, a = some ⟨b, o, none⟩ ∧ w.cell? ⟨b, o + i * 5, none⟩ = some (.string x.fPath) ∧ w.cell? ⟨b, o + i * 5 + 1, none⟩ = some (.string x.fSum) ∧ w.cell? ⟨b, o + i * 5 + 2, none⟩ = some (.slice a2 x.fRefs.length c2) ∧ w.cell? ⟨b, o + i * 5 + 3, none⟩ = some (.string x.fFrom) ∧ w.cell? ⟨b, o + i * 5 + 4, none⟩ = some (.slice a4 x.fTree.length c4)
theorem ItR.of {w W : World} {a : Option Addr} {ps : List ty.It} (h : ty.SrcIt none w a ps) (hb : Below w.heap.size w W) : ItR W a ps := fun i x hx => by
 rcases h.below hb with h | ⟨b, o, e, _, hc⟩
 ·rw [h.2] at hx; simp at hx
 ·obtain ⟨a2, c2, a4, c4, q0, q1, q2, q3, q4, _⟩ := hc i x hx
  exact ⟨b, o, a2, c2, a4, c4, e, q0, q1, q2, q3, q4⟩
structure RkI (ps : List ty.It) (q : List UInt8) (J : Nat) : Prop where
 le : J ≤ ps.length
 lo : ∀ (j : Nat) (y : ty.It), j < J → ps[j]? = some y → y.fPath.data.toList < q
 hi : ∀ (j : Nat) (y : ty.It), J ≤ j → ps[j]? = some y → ¬ y.fPath.data.toList < q
def AscI (ps : List ty.It) : Prop := ∀ (i j : Nat) (x y : ty.It), j < i → ps[j]? = some y → ps[i]? = some x → y.fPath.data.toList < x.fPath.data.toList
theorem mem_pths {ps : List ty.It} {q : List UInt8} : q ∈ pths ps ↔ ∃ (i : Nat) (x : ty.It), ps[i]? = some x ∧ x.fPath.data.toList = q := by
 unfold pths
 rw [List.mem_map]
 constructor
 ·rintro ⟨x, hx, e⟩
  obtain ⟨i, hi⟩ := List.getElem?_of_mem hx
  exact ⟨i, x, hi, e⟩
 ·rintro ⟨i, x, hi, e⟩
  exact ⟨x, List.mem_of_getElem? hi, e⟩
theorem RkI.found {ps : List ty.It} {q : List UInt8} {J : Nat} (h : RkI ps q J) (ha : AscI ps) {x : ty.It} (hx : ps[J]? = some x) : x.fPath.data.toList = q ↔ q ∈ pths ps := by
 rw [mem_pths]
 constructor
 ·intro e; exact ⟨J, x, hx, e⟩
 ·rintro ⟨i, y, hy, e⟩
  rcases Nat.lt_trichotomy i J with h1 | h1 | h1
  ·exact absurd (h.lo i y h1 hy) (by rw [e]; exact List.lt_irrefl _)
  ·subst h1; rw [hx] at hy; cases hy; exact e
  ·have := ha i J y x h1 hx hy
   rw [e] at this
   exact absurd this (h.hi J x (Nat.le_refl _) hx)
theorem RkI.last {ps : List ty.It} {q : List UInt8} {J : Nat} (h : RkI ps q J) (hJ : J = ps.length) : ¬ q ∈ pths ps := by
 rw [mem_pths]
 rintro ⟨i, y, hy, e⟩
 have := h.lo i y (by have := (List.getElem?_eq_some_iff.1 hy).1; omega) hy
 rw [e] at this
 exact List.lt_irrefl _ this
theorem bsI_any (a : Option Addr) (c : Nat) (ps : List ty.It) (q : ByteArray) (w : World) (hb : ty.SrcIt none w a ps) (hn : ps.length ≤ 300) (hasc : AscI ps) :
  Calls Tryz.prog 162 #[.slice a ps.length c, .string q, .func (.func 163) #[] #[]] w fun e w' => (∃ J : Nat, RkI ps q.data.toList J ∧ e = .returned (.tuple #[.int .i64 (J : Int), .bool (hasB ps q)])) ∧ Below w.heap.size w w' := by
 have HR : Hid (∀ W, Below w.heap.size w W → ItR W a ps) := fun W h => ItR.of hb h
 have HC : Hid (∀ p v1 v3 v2 v4 W, Calls Tryz.prog 163 #[.agg #[.string p, .string v1, v2, .string v3, v4], .string q] W fun e w' => e = .returned (.int .i64 (cmpI p.data.toList q.data.toList)) ∧ Below W.heap.size W w') := fun p v1 v3 v2 v4 W => in1_any p v1 v3 q v2 v4 W
 have HUP : Hid (∀ (i j : Nat) (x y : ty.It), j ≤ i → ps[j]? = some y → ps[i]? = some x → x.fPath.data.toList < q.data.toList → y.fPath.data.toList < q.data.toList) := fun i j x y hji hy hx hlt => by
  rcases Nat.lt_or_ge j i with h | h
  ·exact List.lt_trans (hasc i j x y h hy hx) hlt
  ·obtain rfl : j = i := by omega
   rw [hy] at hx; cases hx; exact hlt
 have HFO : Hid (∀ (J : Nat), RkI ps q.data.toList J → ∀ x, ps[J]? = some x → hasB ps q = decide (x.fPath.data.toList = q.data.toList)) := fun J h x hx => by
  unfold hasB
  exact decide_eq_decide.2 (h.found hasc hx).symm
 have HLA : Hid (∀ (J : Nat), RkI ps q.data.toList J → J = ps.length → hasB ps q = false) := fun J h e => decide_eq_false (h.last e)
 obtain ⟨n, hnn⟩ : ∃ n, ps.length = n := ⟨_, rfl⟩
 have HN : Hid (ps.length = n) := hnn
 obtain ⟨V, hV⟩ : ∃ V, hasB ps q = V := ⟨_, rfl⟩
 rw [hV] at HFO HLA ⊢
 rw [hnn] at hn ⊢
 clear hb hasc hnn hV
 go_enter Tryz.func162, Tryz.ntmps162
 go_wp2
 go_loopw [9, 10, 11] (fun x y _ wr => ∃ lo hi : Nat, x = .int .i64 (lo : Int) ∧ y = .int .i64 (hi : Int) ∧ lo ≤ hi ∧ hi ≤ n ∧ (∀ (j : Nat) (y : ty.It), j < lo → ps[j]? = some y → y.fPath.data.toList < q.data.toList) ∧ (∀ (j : Nat) (y : ty.It), hi ≤ j → ps[j]? = some y → ¬ y.fPath.data.toList < q.data.toList) ∧ Below w.heap.size w wr) (fun x y _ _ => (intOf y - intOf x).toNat)
 case atStart => exact ⟨0, n, rfl, rfl, Nat.zero_le _, Nat.le_refl _, fun j y h => by omega, fun j y h hy => by have := (List.getElem?_eq_some_iff.1 hy).1; have := HN.out; omega, Below.refl _ _⟩
 case round =>
  obtain ⟨lo, hi, rfl, rfl, h1, hhn, hlo, hhi, hbel⟩ := hrel
  have HBE : Hid (Below w.heap.size w wr) := hbel
  have HLO := Lib.hid hlo
  have HHI := Lib.hid hhi
  clear hlo hhi
  by_cases hl : lo < hi
  ·have hl' : (lo : Int) < (hi : Int) := by omega
   obtain ⟨m, hm⟩ : ∃ m : Nat, (lo + hi) / 2 = m := ⟨_, rfl⟩
   have hm1 : lo ≤ m := by omega
   have hm2 : m < hi := by omega
   have hmi : ((lo : Int) + (hi : Int)) / 2 = (m : Int) := by omega
   have hm0 : (0 : Int) ≤ (m : Int) := by omega
   have hmn : (m : Int) < (n : Int) := by omega
   obtain ⟨x, hx⟩ : ∃ x, ps[m]? = some x := ⟨_, List.getElem?_eq_getElem (by rw [HN.out]; omega)⟩
   obtain ⟨b, o, a2, c2, a4, c4, rfl, c0, c1, d2, d3, d4⟩ := HR.out wr hbel m x hx
   have HX : Hid (ps[m]? = some x) := hx
   have HCM : Hid (∀ W, Calls Tryz.prog 163 #[.agg #[.string x.fPath, .string x.fSum, .slice a2 x.fRefs.length c2, .string x.fFrom, .slice a4 x.fTree.length c4], .string q] W fun e w' => e = .returned (.int .i64 (cmpI x.fPath.data.toList q.data.toList)) ∧ Below W.heap.size W w') := fun W => HC.out _ _ _ _ _ W
   obtain ⟨P, hP⟩ : ∃ z, x.fPath = z := ⟨_, rfl⟩
   have HPX : Hid (x.fPath = P) := hP
   obtain ⟨z1, hz1⟩ : ∃ z, x.fSum = z := ⟨_, rfl⟩
   obtain ⟨z2, hz2⟩ : ∃ z, x.fRefs.length = z := ⟨_, rfl⟩
   obtain ⟨z3, hz3⟩ : ∃ z, x.fFrom = z := ⟨_, rfl⟩
   obtain ⟨z4, hz4⟩ : ∃ z, x.fTree.length = z := ⟨_, rfl⟩
   rw [hP] at c0 HCM
   rw [hz1] at c1 HCM
   rw [hz2] at d2 HCM
   rw [hz3] at d3 HCM
   rw [hz4] at d4 HCM
   clear hm hx hP hz1 hz2 hz3 hz4 hbel
   by_cases hmJ : P.data.toList < q.data.toList
   ·rw [cmpI_lt hmJ] at HCM
    have HNL : Hid (∀ (j : Nat) (y : ty.It), j < m + 1 → ps[j]? = some y → y.fPath.data.toList < q.data.toList) := fun j y hj hy => HUP.out m j x y (by omega) hy HX.out (by rw [HPX.out]; exact hmJ)
    clear hmJ
    go_wp2_with (go_at_call 163; refine (HCM.out _).mono ?_; rintro e w1 ⟨rfl, hl1⟩)
    go_roundw
    case rel => exact ⟨m + 1, hi, by go_num, by first | rfl | trivial, by omega, hhn, HNL.out, HHI.out, HBE.out.trans (hl1.mono HBE.out.size)⟩
    case measure => simp [intOf] <;> omega
   ·have hnn : ¬ cmpI P.data.toList q.data.toList < 0 := by
     rcases lt_triI P.data.toList q.data.toList with h | h | h
     ·exact absurd h hmJ
     ·rw [h, cmpI_eq]; omega
     ·rw [cmpI_gt h]; omega
    have HNH : Hid (∀ (j : Nat) (y : ty.It), m ≤ j → ps[j]? = some y → ¬ y.fPath.data.toList < q.data.toList) := fun j y hj hy hlt => hmJ (by have := HUP.out j m y x hj HX.out hy hlt; rwa [HPX.out] at this)
    obtain ⟨r, hr⟩ : ∃ r, cmpI P.data.toList q.data.toList = r := ⟨_, rfl⟩
    rw [hr] at HCM hnn
    clear hmJ hr
    go_wp2_with (go_at_call 163; refine (HCM.out _).mono ?_; rintro e w1 ⟨rfl, hl1⟩)
    go_roundw
    case rel => exact ⟨lo, m, by first | rfl | trivial, by first | rfl | trivial | go_num, by omega, by omega, HLO.out, HNH.out, HBE.out.trans (hl1.mono HBE.out.size)⟩
    case measure => simp [intOf] <;> omega
  ·have hl' : ¬ (lo : Int) < (hi : Int) := by omega
   obtain rfl : lo = hi := by omega
   have HRK : Hid (RkI ps q.data.toList lo) := ⟨by have := HN.out; omega, HLO.out, HHI.out⟩
   by_cases hln : lo < n
   ·have hln' : (lo : Int) < (n : Int) := by omega
    have hl0 : (0 : Int) ≤ (lo : Int) := by omega
    obtain ⟨x, hx⟩ : ∃ x, ps[lo]? = some x := ⟨_, List.getElem?_eq_getElem (by rw [HN.out]; omega)⟩
    obtain ⟨b, o, a2, c2, a4, c4, rfl, c0, c1, d2, d3, d4⟩ := HR.out wr hbel lo x hx
    have HVE : Hid (V = decide (cmpI x.fPath.data.toList q.data.toList = 0)) := by
     show _ = _
     rw [HFO.out lo HRK.out x hx]
     exact decide_eq_decide.2 cmpI_zero.symm
    have HCM : Hid (∀ W, Calls Tryz.prog 163 #[.agg #[.string x.fPath, .string x.fSum, .slice a2 x.fRefs.length c2, .string x.fFrom, .slice a4 x.fTree.length c4], .string q] W fun e w' => e = .returned (.int .i64 (cmpI x.fPath.data.toList q.data.toList)) ∧ Below W.heap.size W w') := fun W => HC.out _ _ _ _ _ W
    generalize x.fPath = P at *
    generalize x.fSum = z1 at *
    generalize x.fRefs.length = z2 at *
    generalize x.fFrom = z3 at *
    generalize x.fTree.length = z4 at *
    generalize cmpI P.data.toList q.data.toList = r at *
    clear hx hbel
    go_wp2_with (go_at_call 163; refine (HCM.out _).mono ?_; rintro e w1 ⟨rfl, hl1⟩)
    go_ret2
    exact ⟨⟨lo, HRK.out, by rw [HVE.out]; first | rfl | simp | (congr 3; simp)⟩, HBE.out.trans (hl1.mono HBE.out.size)⟩
   ·have hln' : ¬ (lo : Int) < (n : Int) := by omega
    have HVE : Hid (V = false) := HLA.out lo HRK.out (by have := HN.out; omega)
    clear hbel
    go_wp2
    go_ret2
    exact ⟨⟨lo, HRK.out, by rw [HVE.out]; rfl⟩, HBE.out⟩
theorem inum_any (a : Option Addr) (c : Nat) (ps : List ty.It) (q : ByteArray) (w : World) (hb : ty.SrcIt none w a ps) (hn : ps.length ≤ 300) (hasc : AscI ps) :
  Calls Tryz.prog 115 #[.slice a ps.length c, .string q] w fun e w' => (∃ J : Nat, RkI ps q.data.toList J ∧ e = .returned (.tuple #[.int .i64 (J : Int), .bool (hasB ps q)])) ∧ Below w.heap.size w w' := by
 have HB := Lib.hid (bsI_any a c ps q w hb hn hasc)
 clear hb hasc
 generalize hasB ps q = V at *
 generalize ps.length = n at *
 go_enter Tryz.func115, Tryz.ntmps115
 go_wp2_with (go_at_call 162; refine HB.out.mono ?_; rintro e w1 ⟨⟨J, hJ, rfl⟩, hl1⟩)
 go_ret2
 exact ⟨⟨J, hJ, rfl⟩, hl1⟩
theorem sfind_any (a : Option Addr) (c : Nat) (ps : List ty.It) (t : ByteArray) (w : World) (hb : ty.SrcIt none w a ps) (hn : ps.length ≤ 1048576) :
  Calls Tryz.prog 36 #[.slice a ps.length c, .string t] w fun e w' => (∃ r : Int, e = .returned (.int .i64 r) ∧ (0 ≤ r ∧ hasB ps t = true ∨ r = -1 ∧ hasB ps t = false)) ∧ w' = w := by
 have HB : Hid (ty.SrcIt none w a ps) := hb
 have HNO : Hid ((∀ (j : Nat) (z : ty.It), ps[j]? = some z → z.fPath.data.toList ≠ t.data.toList) → hasB ps t = false) := fun h => decide_eq_false fun hm => by
  obtain ⟨i, x, hx, e⟩ := mem_pths.1 hm
  exact h i x hx e
 have HYE : Hid (∀ (i : Nat) (x : ty.It), ps[i]? = some x → x.fPath.data.toList = t.data.toList → hasB ps t = true) := fun i x h1 h2 => decide_eq_true (mem_pths.2 ⟨i, x, h1, h2⟩)
 obtain ⟨V, hV⟩ : ∃ V, hasB ps t = V := ⟨_, rfl⟩
 rw [hV] at HNO HYE ⊢
 obtain ⟨n, hnn⟩ : ∃ n, ps.length = n := ⟨_, rfl⟩
 have HN : Hid (ps.length = n) := hnn
 rw [hnn] at hn ⊢
 clear hb hnn hV
 go_enter Tryz.func36, Tryz.ntmps36
 go_wp2
 go_loopw [5] (fun y wr => ∃ i : Nat, i ≤ n ∧ y = .int .i64 (i : Int) ∧ (∀ (j : Nat) (z : ty.It), j < i → ps[j]? = some z → z.fPath.data.toList ≠ t.data.toList) ∧ wr = w) (fun y _ => n - (intOf y).toNat)
 case atStart => exact ⟨0, Nat.zero_le _, rfl, fun j z h => by omega, rfl⟩
 case round =>
  obtain ⟨i, hi, rfl, hno, rfl⟩ := hrel
  have HA := Lib.hid hno
  clear hno
  by_cases hil : i < n
  ·have hil' : (i : Int) < (n : Int) := by omega
   have hi0 : (0 : Int) ≤ (i : Int) := by omega
   obtain ⟨x, hx⟩ : ∃ x, ps[i]? = some x := ⟨_, List.getElem?_eq_getElem (by rw [HN.out]; exact hil)⟩
   rcases HB.out with ⟨_, h⟩ | ⟨b, o, rfl, _, hc⟩
   ·rw [h] at hx; simp at hx
   obtain ⟨a2, c2, a4, c4, g0, g1, g2, g3, g4, _, _, _, _⟩ := hc i x hx
   have HX : Hid (ps[i]? = some x) := hx
   obtain ⟨P, hP⟩ : ∃ P, x.fPath = P := ⟨_, rfl⟩
   have HPP : Hid (x.fPath = P) := hP
   rw [hP] at g0
   generalize x.fRefs.length = m2 at *
   generalize x.fTree.length = m4 at *
   generalize x.fSum = q1 at *
   generalize x.fFrom = q3 at *
   clear hc hx hP g1 g2 g3 g4
   cases he : (P.toList == t.toList) with
   | true =>
    have HR : Hid (V = true) := HYE.out i x HX.out (by rw [HPP.out, ← ByteArray.toList_eq, ← ByteArray.toList_eq]; simpa using he)
    go_wp2
    go_ret
    exact ⟨⟨_, rfl, .inl ⟨hi0, HR.out⟩⟩, rfl⟩
   | false =>
    have HN2 : Hid (∀ (j : Nat) (z : ty.It), j < i + 1 → ps[j]? = some z → z.fPath.data.toList ≠ t.data.toList) := fun j z hj hz => by
     rcases Nat.lt_or_ge j i with h | h
     ·exact HA.out j z h hz
     ·obtain rfl : j = i := by omega
      rw [HX.out] at hz
      cases hz
      rw [HPP.out, ← ByteArray.toList_eq, ← ByteArray.toList_eq]
      simpa using he
    go_wp2
    go_roundw
    case rel => exact ⟨i + 1, by omega, by go_num, HN2.out, by first | rfl | trivial⟩
    case measure => simp [intOf] <;> omega
  ·have hil' : ¬ (i : Int) < (n : Int) := by omega
   have HF : Hid (V = false) := HNO.out fun j z hz => HA.out j z (by have := (List.getElem?_eq_some_iff.1 hz).1; have := HN.out; omega) hz
   go_wp2
   go_ret
   exact ⟨⟨_, rfl, .inr ⟨rfl, HF.out⟩⟩, rfl⟩
theorem nxok_any (p q : ByteArray) (hp : p.size ≤ 1048576) (hq : q.size ≤ 1048576) (w : World) (hT : wd.TabB w) :
  Calls Tryz.prog 243 #[.agg #[.string p, .string q]] w fun e w' => e = .returned (.bool (nm.nameB p && wd.aokB q)) ∧ Below w.heap.size w w' := by
 have HN : Hid (∀ W, Calls Tryz.prog 137 #[.string p] W fun e w' => e = .returned (.bool (nm.nameB p)) ∧ w' = W) := fun W => nm.impl_any p hp W
 have HQ : Hid (∀ W, Below w.heap.size w W → Calls Tryz.prog 55 #[.string q] W fun e w' => e = .returned (.bool (wd.aokB q)) ∧ Below W.heap.size W w') := fun W h => wd.aimpl_any q hq W (hT.below h)
 clear hT
 generalize wd.aokB q = r at *
 cases hn : nm.nameB p with
 | false =>
  rw [hn] at HN
  clear hn
  go_enter Tryz.func243, Tryz.ntmps243
  go_wp2_with (go_at_call 137; refine (HN.out _).mono ?_; rintro e w1 ⟨rfl, rfl⟩)
  go_ret
  exact ⟨rfl, (Below.refl _ _).alloc (Nat.le_refl _) _⟩
 | true =>
  rw [hn] at HN
  clear hn
  go_enter Tryz.func243, Tryz.ntmps243
  go_wp2_with (first
   | (go_at_call 137; refine (HN.out _).mono ?_; rintro e w1 ⟨rfl, rfl⟩)
   | (go_at_call 55; refine (HQ.out _ ((Below.refl _ _).alloc (Nat.le_refl _) _)).mono ?_; rintro e w2 ⟨rfl, hl2⟩))
  go_ret
  exact ⟨by first | rfl | simp, ((Below.refl _ _).alloc (Nat.le_refl _) _).trans (hl2.mono (by simp))⟩
theorem peok_any (p q : ByteArray) (a1 : Option Addr) (n1 c1 : Nat) (R : Bool) (hp : p.size ≤ 1048576) (hq : q.size ≤ 1048576) (w : World) (hT : wd.TabB w)
  (HTR : Hid (∀ W, Below w.heap.size w W → Calls Tryz.prog 57 #[.slice a1 n1 c1] W fun e w' => e = .returned (.bool R) ∧ Below W.heap.size W w')) :
  Calls Tryz.prog 125 #[.agg #[.string p, .slice a1 n1 c1, .string q]] w fun e w' => e = .returned (.bool (wd.aokB p && (frB q && R))) ∧ Below w.heap.size w w' := by
 have HP : Hid (∀ W, Below w.heap.size w W → Calls Tryz.prog 55 #[.string p] W fun e w' => e = .returned (.bool (wd.aokB p)) ∧ Below W.heap.size W w') := fun W h => wd.aimpl_any p hp W (hT.below h)
 have HF : Hid (∀ W, Below w.heap.size w W → Calls Tryz.prog 56 #[.string q] W fun e w' => e = .returned (.bool (frB q)) ∧ Below W.heap.size W w') := fun W h => from_any q hq W (hT.below h)
 have HB0 : Hid (Below w.heap.size w (w.alloc (Obj.cells #[.string p, .slice a1 n1 c1, .string q] 65))) := (Below.refl _ _).alloc (Nat.le_refl _) _
 clear hT
 cases hn : wd.aokB p with
 | false =>
  rw [hn] at HP
  clear hn
  go_enter Tryz.func125, Tryz.ntmps125
  go_wp2_with (go_at_call 55; refine (HP.out _ HB0.out).mono ?_; rintro e w1 ⟨rfl, hl1⟩)
  go_ret
  exact ⟨rfl, HB0.out.trans (hl1.mono HB0.out.size)⟩
 | true =>
  rw [hn] at HP
  clear hn
  cases hf : frB q with
  | false =>
   rw [hf] at HF
   clear hf
   go_enter Tryz.func125, Tryz.ntmps125
   go_wp2_with (first
    | (go_at_call 55; refine (HP.out _ HB0.out).mono ?_; rintro e w1 ⟨rfl, hl1⟩; have hb1 : Below w.heap.size w w1 := HB0.out.trans (hl1.mono HB0.out.size); have hcl := hl1.cell (p := ⟨w.heap.size, 0, none⟩) (by simp); have hcl1 := hl1.cell (p := ⟨w.heap.size, 1, none⟩) (by simp); have hcl2 := hl1.cell (p := ⟨w.heap.size, 2, none⟩) (by simp))
    | (go_at_call 56; refine (HF.out _ hb1).mono ?_; rintro e w2 ⟨rfl, hl2⟩))
   go_ret
   exact ⟨rfl, hb1.trans (hl2.mono hb1.size)⟩
  | true =>
   rw [hf] at HF
   clear hf
   go_enter Tryz.func125, Tryz.ntmps125
   go_wp2_with (first
    | (go_at_call 55; refine (HP.out _ HB0.out).mono ?_; rintro e w1 ⟨rfl, hl1⟩; have hb1 : Below w.heap.size w w1 := HB0.out.trans (hl1.mono HB0.out.size); have hs1 : (w.alloc (Obj.cells #[.string p, .slice a1 n1 c1, .string q] 65)).heap.size ≤ w1.heap.size := hl1.size; have hcl1 : w1.cell? ⟨w.heap.size, 1, none⟩ = some (.slice a1 n1 c1) := (hl1.cell (p := ⟨w.heap.size, 1, none⟩) (by simp)).trans (by simp [go_sem]); have hcl2 : w1.cell? ⟨w.heap.size, 2, none⟩ = some (.string q) := (hl1.cell (p := ⟨w.heap.size, 2, none⟩) (by simp)).trans (by simp [go_sem]))
    | (go_at_call 56; refine (HF.out _ hb1).mono ?_; rintro e w2 ⟨rfl, hl2⟩; have hb2 : Below w.heap.size w w2 := hb1.trans (hl2.mono hb1.size); have hcm1 := (hl2.cell (p := ⟨w.heap.size, 1, none⟩) (Nat.lt_of_lt_of_le (by simp) hs1)).trans hcl1)
    | (go_at_call 57; refine (HTR.out _ hb2).mono ?_; rintro e w3 ⟨rfl, hl3⟩))
   go_ret
   exact ⟨by first | rfl | (simp; done), (show Below w.heap.size w w2 from hb2).trans (hl3.mono hb2.size)⟩
theorem bnx_any (x : ty.Nx) (w : World) (hx : ty.wt1Nx x ≤ 1048576) (hT : wd.TabB w) :
  Calls Tryz.prog 97 #[.agg #[.string x.fName, .string x.fPath]] w fun e w' => e = .returned (.bool (!nxB x)) ∧ Below w.heap.size w w' := by
 have HIS : Hid (∀ W, Below w.heap.size w W → Calls Tryz.prog 243 #[.agg #[.string x.fName, .string x.fPath]] W fun e w' => e = .returned (.bool (nxB x)) ∧ Below W.heap.size W w') := fun W h => nxok_any x.fName x.fPath (by unfold ty.wt1Nx at hx; omega) (by unfold ty.wt1Nx at hx; omega) W (hT.below h)
 clear hT hx
 generalize x.fName = p at *
 generalize x.fPath = q at *
 generalize nxB x = r at *
 have hm : ∀ w, (method 379 68 (.agg #[.string p, .string q]) "loop.example/g00023/impl.isOk").run Tryz.prog w = .ok (243, .agg #[.string p, .string q]) w := fun _ => by kernel_rfl
 go_enter Tryz.func97, Tryz.ntmps97
 go_wp2_with (go_at_call 243; refine (HIS.out _ ((Below.refl _ _).alloc (Nat.le_refl _) _)).mono ?_; rintro e w1 ⟨rfl, hl1⟩)
 go_ret
 exact ⟨rfl, ((Below.refl _ _).alloc (Nat.le_refl _) _).trans (hl1.mono (by simp))⟩
theorem ixnx_any (lo : Nat) (a : Option Addr) (c : Nat) (l : List ty.Nx) (w : World) (hb : ty.SrcNx (some lo) w a l) (hw : ty.wtNx l ≤ 1048576) (hT : wd.TabB w) :
  Calls Tryz.prog 142 #[.slice a l.length c, .func (.func 97) #[] #[]] w fun e w' => (∃ r : Int, e = .returned (.int .i64 r) ∧ (0 ≤ r ∧ l.all nxB = false ∨ r = -1 ∧ l.all nxB = true)) ∧ Below w.heap.size w w' := by
 have hn : l.length ≤ 1048576 := by have := ty.wtNx_len l; omega
 have HR : Hid (ty.SrcNx (some lo) w a l) := hb
 have HC : Hid (∀ (x : ty.Nx) W, x ∈ l → Below w.heap.size w W → Calls Tryz.prog 97 #[.agg #[.string x.fName, .string x.fPath]] W fun e w' => e = .returned (.bool (!nxB x)) ∧ Below W.heap.size W w') := fun x W hx hW => bnx_any x W (by have := ty.wtNx_mem hx; omega) (hT.below hW)
 have HNO : Hid (∀ (i : Nat) (x : ty.Nx), l[i]? = some x → nxB x = false → l.all nxB = false) := fun i x hx h => by
  rw [List.all_eq_false]
  exact ⟨x, List.mem_of_getElem? hx, by rw [h]; decide⟩
 have HYE : Hid ((∀ (i : Nat) (x : ty.Nx), i < l.length → l[i]? = some x → nxB x = true) → l.all nxB = true) := fun h => by
  rw [List.all_eq_true]
  intro x hx
  obtain ⟨i, hi⟩ := List.getElem?_of_mem hx
  exact h i x (List.getElem?_eq_some_iff.1 hi).1 hi
 obtain ⟨V, hV⟩ : ∃ V, l.all nxB = V := ⟨_, rfl⟩
 rw [hV] at HNO HYE ⊢
 obtain ⟨n, hnn⟩ : ∃ n, l.length = n := ⟨_, rfl⟩
 have HNN : Hid (l.length = n) := hnn
 rw [hnn] at hn HYE ⊢
 clear hb hT hw hnn hV
 go_enter Tryz.func142, Tryz.ntmps142
 go_wp2
 go_loopw [5, 8] (fun _ y wr => ∃ i : Nat, i ≤ n ∧ y = .int .i64 (i : Int) ∧ (∀ (j : Nat) (y : ty.Nx), j < i → l[j]? = some y → nxB y = true) ∧ Below w.heap.size w wr) (fun _ y _ => n - (intOf y).toNat)
 case atStart => exact ⟨0, Nat.zero_le _, rfl, fun j y h => by omega, Below.refl _ _⟩
 case round =>
  obtain ⟨i, hi, rfl, h1, hbel⟩ := hrel
  have H1 := Lib.hid h1
  have HBE : Hid (Below w.heap.size w wr) := hbel
  clear h1
  by_cases hin : i < n
  ·have hin' : (i : Int) < (n : Int) := by omega
   have hi0 : (0 : Int) ≤ (i : Int) := by omega
   obtain ⟨x, hx⟩ : ∃ x, l[i]? = some x := ⟨_, List.getElem?_eq_getElem (by rw [HNN.out]; exact hin)⟩
   rcases HR.out with h | ⟨b, o, rfl, _, hc⟩
   ·cases h.1
   obtain ⟨q0, q1⟩ := (hc i x hx).below hbel
   have HX : Hid (l[i]? = some x) := hx
   have HCM : Hid (Calls Tryz.prog 97 #[.agg #[.string x.fName, .string x.fPath]] wr fun e w' => e = .returned (.bool (!nxB x)) ∧ Below wr.heap.size wr w') := HC.out x wr (List.mem_of_getElem? hx) hbel
   obtain ⟨g0, hg0⟩ : ∃ z, x.fName = z := ⟨_, rfl⟩
   rw [hg0] at q0 HCM
   obtain ⟨g1, hg1⟩ : ∃ z, x.fPath = z := ⟨_, rfl⟩
   rw [hg1] at q1 HCM
   clear hg0 hg1 hbel hc hx
   cases hp : nxB x with
   | false =>
    rw [hp, Bool.not_false] at HCM
    have HF : Hid (V = false) := HNO.out i x HX.out hp
    clear hp
    go_wp2_with (go_at_call 97; refine HCM.out.mono ?_; rintro e w1 ⟨rfl, hl1⟩)
    go_ret
    exact ⟨⟨_, rfl, .inl ⟨hi0, HF.out⟩⟩, HBE.out.trans (hl1.mono HBE.out.size)⟩
   | true =>
    rw [hp, Bool.not_true] at HCM
    have HN : Hid (∀ (j : Nat) (y : ty.Nx), j < i + 1 → l[j]? = some y → nxB y = true) := fun j y hj hy => by
     rcases Nat.lt_or_ge j i with h | h
     ·exact H1.out j y h hy
     ·obtain rfl : j = i := by omega
      rw [HX.out] at hy
      cases hy
      exact hp
    clear hp
    go_wp2_with (go_at_call 97; refine HCM.out.mono ?_; rintro e w1 ⟨rfl, hl1⟩)
    go_roundw
    case rel => exact ⟨i + 1, by omega, by go_num, HN.out, HBE.out.trans (hl1.mono HBE.out.size)⟩
    case measure => simp [intOf] <;> omega
  ·have hin' : ¬ (i : Int) < (n : Int) := by omega
   obtain rfl : i = n := by omega
   have HF : Hid (V = true) := HYE.out H1.out
   clear hbel
   go_wp2
   go_ret
   exact ⟨⟨_, rfl, .inr ⟨rfl, HF.out⟩⟩, HBE.out⟩
theorem connx_any (lo : Nat) (a : Option Addr) (c : Nat) (l : List ty.Nx) (w : World) (hb : ty.SrcNx (some lo) w a l) (hw : ty.wtNx l ≤ 1048576) (hT : wd.TabB w) :
  Calls Tryz.prog 96 #[.slice a l.length c, .func (.func 97) #[] #[]] w fun e w' => e = .returned (.bool (!l.all nxB)) ∧ Below w.heap.size w w' := by
 have HC : Hid (∀ W : World, W = w → Calls Tryz.prog 142 #[.slice a l.length c, .func (.func 97) #[] #[]] W fun e w' => (∃ r : Int, e = .returned (.int .i64 r) ∧ (0 ≤ r ∧ l.all nxB = false ∨ r = -1 ∧ l.all nxB = true)) ∧ Below W.heap.size W w') := fun W h => by subst h; exact ixnx_any lo a c l W hb hw hT
 clear hb hw hT
 generalize l.length = n at *
 generalize l.all nxB = V at *
 go_enter Tryz.func96, Tryz.ntmps96
 go_wp2_with (go_at_call 142; refine (HC.out _ rfl).mono ?_; rintro e w1 ⟨⟨r, rfl, hr⟩, hl1⟩)
 go_ret
 refine ⟨?_, hl1⟩
 rcases hr with ⟨h1, h2⟩ | ⟨h1, h2⟩
 ·rw [h2]
  simp [h1]
 ·rw [h2]
  subst h1
  simp
theorem begNx_any (lo : Nat) (a : Option Addr) (c : Nat) (l : List ty.Nx) (w : World) (hb : ty.SrcNx (some lo) w a l) (hw : ty.wtNx l ≤ 1048576) (hT : wd.TabB w) :
  Calls Tryz.prog 43 #[.slice a l.length c] w fun e w' => e = .returned (.bool (begN l)) ∧ Below w.heap.size w w' := by
 have hn : l.length ≤ 1048576 := by have := ty.wtNx_len l; omega
 have HC : Hid (∀ W : World, W = w → Calls Tryz.prog 96 #[.slice a l.length c, .func (.func 97) #[] #[]] W fun e w' => e = .returned (.bool (!l.all nxB)) ∧ Below W.heap.size W w') := fun W h => by subst h; exact connx_any lo a c l W hb hw hT
 unfold begN
 clear hb hw hT
 generalize l.length = n at *
 generalize l.all nxB = V at *
 by_cases h20 : n ≤ 20
 ·have h20' : (n : Int) ≤ 20 := by omega
  rw [decide_eq_true h20]
  go_enter Tryz.func43, Tryz.ntmps43
  go_wp2_with (go_at_call 96; refine (HC.out _ rfl).mono ?_; rintro e w1 ⟨rfl, hl1⟩)
  go_ret
  exact ⟨by simp, hl1⟩
 ·have h20' : ¬ (n : Int) ≤ 20 := by omega
  rw [decide_eq_false h20]
  go_enter Tryz.func43, Tryz.ntmps43
  go_wp2
  go_ret
  exact ⟨by simp, Below.refl _ _⟩
theorem bpe_any (x : ty.Pe) (lo : Nat) (a1 : Option Addr) (c1 : Nat) (w : World) (hx : ty.wt1Pe x ≤ 1048576) (hs : ty.SrcEt (some lo) w a1 x.fTree) (hT : wd.TabB w) (hm : tt.ML w) :
  Calls Tryz.prog 95 #[.agg #[.string x.fPath, .slice a1 x.fTree.length c1, .string x.fFrom]] w fun e w' => e = .returned (.bool (!peB x)) ∧ Below w.heap.size w w' := by
 have HTR : Hid (∀ W, Below w.heap.size w W → Calls Tryz.prog 57 #[.slice a1 x.fTree.length c1] W fun e w' => e = .returned (.bool (tt.treeB (enT x.fTree) x.fTree.length)) ∧ Below W.heap.size W w') := fun W h => by
  rcases hs.below h with h0 | ⟨b1, o1, rfl, _, hc1⟩
  ·cases h0.1
  have hwe : ty.wtEt x.fTree ≤ 1048576 := by unfold ty.wt1Pe at hx; omega
  have hle := ty.wtEt_len x.fTree
  exact tt.itree_any (enT x.fTree) b1 o1 x.fTree.length c1 W (src_enr hc1) (small_enr hwe) (by omega) (hm.below h) (tt.at_any _)
 have HIS : Hid (∀ W, Below w.heap.size w W → Calls Tryz.prog 125 #[.agg #[.string x.fPath, .slice a1 x.fTree.length c1, .string x.fFrom]] W fun e w' => e = .returned (.bool (peB x)) ∧ Below W.heap.size W w') := fun W h => peok_any x.fPath x.fFrom a1 x.fTree.length c1 _ (by unfold ty.wt1Pe at hx; omega) (by unfold ty.wt1Pe at hx; omega) W (hT.below h) fun W' h' => HTR.out W' (h.trans (h'.mono h.size))
 clear hT hx hs hm HTR
 generalize x.fPath = p at *
 generalize x.fFrom = q at *
 generalize x.fTree.length = n1 at *
 generalize peB x = r at *
 have hm : ∀ w, (method 379 65 (.agg #[.string p, .slice a1 n1 c1, .string q]) "loop.example/g00023/impl.isOk").run Tryz.prog w = .ok (125, .agg #[.string p, .slice a1 n1 c1, .string q]) w := fun _ => by kernel_rfl
 go_enter Tryz.func95, Tryz.ntmps95
 go_wp2_with (go_at_call 125; refine (HIS.out _ ((Below.refl _ _).alloc (Nat.le_refl _) _)).mono ?_; rintro e w1 ⟨rfl, hl1⟩)
 go_ret
 exact ⟨rfl, ((Below.refl _ _).alloc (Nat.le_refl _) _).trans (hl1.mono (by simp))⟩
theorem ixpe_any (lo : Nat) (a : Option Addr) (c : Nat) (l : List ty.Pe) (w : World) (hb : ty.SrcPe (some lo) w a l) (hw : ty.wtPe l ≤ 1048576) (hT : wd.TabB w) (hm : tt.ML w) :
  Calls Tryz.prog 141 #[.slice a l.length c, .func (.func 95) #[] #[]] w fun e w' => (∃ r : Int, e = .returned (.int .i64 r) ∧ (0 ≤ r ∧ l.all peB = false ∨ r = -1 ∧ l.all peB = true)) ∧ Below w.heap.size w w' := by
 have hn : l.length ≤ 1048576 := by have := ty.wtPe_len l; omega
 have HR : Hid (ty.SrcPe (some lo) w a l) := hb
 have HC : Hid (∀ (x : ty.Pe) (a1 : Option Addr) (c1 : Nat) W, x ∈ l → Below w.heap.size w W → ty.SrcEt (some lo) W a1 x.fTree → Calls Tryz.prog 95 #[.agg #[.string x.fPath, .slice a1 x.fTree.length c1, .string x.fFrom]] W fun e w' => e = .returned (.bool (!peB x)) ∧ Below W.heap.size W w') := fun x a1 c1 W hx hW hs => bpe_any x lo a1 c1 W (by have := ty.wtPe_mem hx; omega) hs (hT.below hW) (hm.below hW)
 have HNO : Hid (∀ (i : Nat) (x : ty.Pe), l[i]? = some x → peB x = false → l.all peB = false) := fun i x hx h => by
  rw [List.all_eq_false]
  exact ⟨x, List.mem_of_getElem? hx, by rw [h]; decide⟩
 have HYE : Hid ((∀ (i : Nat) (x : ty.Pe), i < l.length → l[i]? = some x → peB x = true) → l.all peB = true) := fun h => by
  rw [List.all_eq_true]
  intro x hx
  obtain ⟨i, hi⟩ := List.getElem?_of_mem hx
  exact h i x (List.getElem?_eq_some_iff.1 hi).1 hi
 obtain ⟨V, hV⟩ : ∃ V, l.all peB = V := ⟨_, rfl⟩
 rw [hV] at HNO HYE ⊢
 obtain ⟨n, hnn⟩ : ∃ n, l.length = n := ⟨_, rfl⟩
 have HNN : Hid (l.length = n) := hnn
 rw [hnn] at hn HYE ⊢
 clear hb hT hm hw hnn hV
 go_enter Tryz.func141, Tryz.ntmps141
 go_wp2
 go_loopw [5, 8] (fun _ y wr => ∃ i : Nat, i ≤ n ∧ y = .int .i64 (i : Int) ∧ (∀ (j : Nat) (y : ty.Pe), j < i → l[j]? = some y → peB y = true) ∧ Below w.heap.size w wr) (fun _ y _ => n - (intOf y).toNat)
 case atStart => exact ⟨0, Nat.zero_le _, rfl, fun j y h => by omega, Below.refl _ _⟩
 case round =>
  obtain ⟨i, hi, rfl, h1, hbel⟩ := hrel
  have H1 := Lib.hid h1
  have HBE : Hid (Below w.heap.size w wr) := hbel
  clear h1
  by_cases hin : i < n
  ·have hin' : (i : Int) < (n : Int) := by omega
   have hi0 : (0 : Int) ≤ (i : Int) := by omega
   obtain ⟨x, hx⟩ : ∃ x, l[i]? = some x := ⟨_, List.getElem?_eq_getElem (by rw [HNN.out]; exact hin)⟩
   rcases HR.out with h | ⟨b, o, rfl, _, hc⟩
   ·cases h.1
   obtain ⟨a1, c1, q0, q1, q2, s1, t1⟩ := (hc i x hx).below hbel
   have HX : Hid (l[i]? = some x) := hx
   have HCM : Hid (Calls Tryz.prog 95 #[.agg #[.string x.fPath, .slice a1 x.fTree.length c1, .string x.fFrom]] wr fun e w' => e = .returned (.bool (!peB x)) ∧ Below wr.heap.size wr w') := HC.out x a1 c1 wr (List.mem_of_getElem? hx) hbel s1
   obtain ⟨g0, hg0⟩ : ∃ z, x.fPath = z := ⟨_, rfl⟩
   rw [hg0] at q0 HCM
   obtain ⟨g1, hg1⟩ : ∃ z, x.fTree.length = z := ⟨_, rfl⟩
   rw [hg1] at q1 HCM
   obtain ⟨g2, hg2⟩ : ∃ z, x.fFrom = z := ⟨_, rfl⟩
   rw [hg2] at q2 HCM
   clear hg0 hg1 hg2 s1 t1 hbel hc hx
   cases hp : peB x with
   | false =>
    rw [hp, Bool.not_false] at HCM
    have HF : Hid (V = false) := HNO.out i x HX.out hp
    clear hp
    go_wp2_with (go_at_call 95; refine HCM.out.mono ?_; rintro e w1 ⟨rfl, hl1⟩)
    go_ret
    exact ⟨⟨_, rfl, .inl ⟨hi0, HF.out⟩⟩, HBE.out.trans (hl1.mono HBE.out.size)⟩
   | true =>
    rw [hp, Bool.not_true] at HCM
    have HN : Hid (∀ (j : Nat) (y : ty.Pe), j < i + 1 → l[j]? = some y → peB y = true) := fun j y hj hy => by
     rcases Nat.lt_or_ge j i with h | h
     ·exact H1.out j y h hy
     ·obtain rfl : j = i := by omega
      rw [HX.out] at hy
      cases hy
      exact hp
    clear hp
    go_wp2_with (go_at_call 95; refine HCM.out.mono ?_; rintro e w1 ⟨rfl, hl1⟩)
    go_roundw
    case rel => exact ⟨i + 1, by omega, by go_num, HN.out, HBE.out.trans (hl1.mono HBE.out.size)⟩
    case measure => simp [intOf] <;> omega
  ·have hin' : ¬ (i : Int) < (n : Int) := by omega
   obtain rfl : i = n := by omega
   have HF : Hid (V = true) := HYE.out H1.out
   clear hbel
   go_wp2
   go_ret
   exact ⟨⟨_, rfl, .inr ⟨rfl, HF.out⟩⟩, HBE.out⟩
theorem conpe_any (lo : Nat) (a : Option Addr) (c : Nat) (l : List ty.Pe) (w : World) (hb : ty.SrcPe (some lo) w a l) (hw : ty.wtPe l ≤ 1048576) (hT : wd.TabB w) (hm : tt.ML w) :
  Calls Tryz.prog 94 #[.slice a l.length c, .func (.func 95) #[] #[]] w fun e w' => e = .returned (.bool (!l.all peB)) ∧ Below w.heap.size w w' := by
 have HC : Hid (∀ W : World, W = w → Calls Tryz.prog 141 #[.slice a l.length c, .func (.func 95) #[] #[]] W fun e w' => (∃ r : Int, e = .returned (.int .i64 r) ∧ (0 ≤ r ∧ l.all peB = false ∨ r = -1 ∧ l.all peB = true)) ∧ Below W.heap.size W w') := fun W h => by subst h; exact ixpe_any lo a c l W hb hw hT hm
 clear hb hw hT hm
 generalize l.length = n at *
 generalize l.all peB = V at *
 go_enter Tryz.func94, Tryz.ntmps94
 go_wp2_with (go_at_call 141; refine (HC.out _ rfl).mono ?_; rintro e w1 ⟨⟨r, rfl, hr⟩, hl1⟩)
 go_ret
 refine ⟨?_, hl1⟩
 rcases hr with ⟨h1, h2⟩ | ⟨h1, h2⟩
 ·rw [h2]
  simp [h1]
 ·rw [h2]
  subst h1
  simp
theorem begPe_any (lo : Nat) (a : Option Addr) (c : Nat) (l : List ty.Pe) (w : World) (hb : ty.SrcPe (some lo) w a l) (hw : ty.wtPe l ≤ 1048576) (hT : wd.TabB w) (hm : tt.ML w) :
  Calls Tryz.prog 42 #[.slice a l.length c] w fun e w' => e = .returned (.bool (begP l)) ∧ Below w.heap.size w w' := by
 have hn : l.length ≤ 1048576 := by have := ty.wtPe_len l; omega
 have HC : Hid (∀ W : World, W = w → Calls Tryz.prog 94 #[.slice a l.length c, .func (.func 95) #[] #[]] W fun e w' => e = .returned (.bool (!l.all peB)) ∧ Below W.heap.size W w') := fun W h => by subst h; exact conpe_any lo a c l W hb hw hT hm
 unfold begP
 clear hb hw hT hm
 generalize l.length = n at *
 generalize l.all peB = V at *
 by_cases h20 : n ≤ 20
 ·have h20' : (n : Int) ≤ 20 := by omega
  rw [decide_eq_true h20]
  go_enter Tryz.func42, Tryz.ntmps42
  go_wp2_with (go_at_call 94; refine (HC.out _ rfl).mono ?_; rintro e w1 ⟨rfl, hl1⟩)
  go_ret
  exact ⟨by simp, hl1⟩
 ·have h20' : ¬ (n : Int) ≤ 20 := by omega
  rw [decide_eq_false h20]
  go_enter Tryz.func42, Tryz.ntmps42
  go_wp2
  go_ret
  exact ⟨by simp, Below.refl _ _⟩
theorem hasit_any (a0 : Option Addr) (c0 : Nat) (ps : List ty.It) (v1 v2 v3 : Value) (q : ByteArray) (w : World) (hb : ty.SrcIt none w a0 ps) (hn : ps.length ≤ 300) (hasc : AscI ps) :
  Calls Tryz.prog 100 #[.agg #[.slice a0 ps.length c0, v1, v2, v3], .string q] w fun e w' => e = .returned (.bool (hasB ps q)) ∧ Below w.heap.size w w' := by
 have HI := Lib.hid fun (W : World) (h : Below w.heap.size w W) => inum_any a0 c0 ps q W (hb.below h) hn hasc
 clear hb hasc
 generalize hasB ps q = V at *
 generalize ps.length = n at *
 go_enter Tryz.func100, Tryz.ntmps100
 go_wp2_with (go_at_call 115; refine (HI.out _ ((Below.refl _ _).alloc (Nat.le_refl _) _)).mono ?_; rintro e w1 ⟨⟨J, hJ, rfl⟩, hl1⟩)
 go_ret
 exact ⟨rfl, ((Below.refl _ _).alloc (Nat.le_refl _) _).trans (hl1.mono (by simp))⟩
def WoC (w : World) (wb : Nat) (v0 v1 v2 v3 : Value) : Prop := w.cell? ⟨wb, 0, none⟩ = some v0 ∧ w.cell? ⟨wb, 1, none⟩ = some v1 ∧ w.cell? ⟨wb, 2, none⟩ = some v2 ∧ w.cell? ⟨wb, 3, none⟩ = some v3
theorem WoC.below {w w' : World} {wb : Nat} {v0 v1 v2 v3 : Value} (h : WoC w wb v0 v1 v2 v3) (hb : Below w.heap.size w w') : WoC w' wb v0 v1 v2 v3 := by
 have hl := World.block_lt_of_cell? _ _ h.1
 exact ⟨(hb.cell (p := ⟨wb, 0, none⟩) hl).trans h.1, (hb.cell (p := ⟨wb, 1, none⟩) hl).trans h.2.1, (hb.cell (p := ⟨wb, 2, none⟩) hl).trans h.2.2.1, (hb.cell (p := ⟨wb, 3, none⟩) hl).trans h.2.2.2⟩
theorem hag1_any (a0 : Option Addr) (c0 : Nat) (ps : List ty.It) (v1 v2 v3 : Value) (wb : Nat) (z : Int) (q : ByteArray) (w : World) (hb : ty.SrcIt none w a0 ps) (hn : ps.length ≤ 300) (hasc : AscI ps) (hW : WoC w wb (.slice a0 ps.length c0) v1 v2 v3) :
  Calls Tryz.prog 99 #[.agg #[.int .i64 z, .string q], .pointer (some ⟨wb, 0, none⟩)] w fun e w' => e = .returned (.bool (!hasB ps q)) ∧ Below w.heap.size w w' := by
 have HI := Lib.hid fun (W : World) (h : Below w.heap.size w W) => hasit_any a0 c0 ps v1 v2 v3 q W (hb.below h) hn hasc
 obtain ⟨h0, h1, h2, h3⟩ := hW
 have hwl := World.block_lt_of_cell? _ _ h0
 clear hb hasc
 generalize hasB ps q = V at *
 generalize ps.length = n at *
 go_enter Tryz.func99, Tryz.ntmps99
 go_wp2_with (go_at_call 100; refine (HI.out _ ((Below.refl _ _).alloc (Nat.le_refl _) _)).mono ?_; rintro e w1 ⟨rfl, hl1⟩)
 go_ret
 exact ⟨by first | rfl | simp, ((Below.refl _ _).alloc (Nat.le_refl _) _).trans (hl1.mono (by simp))⟩
theorem ixge_any (a : Option Addr) (c : Nat) (l : List ty.Ge) (ps : List ty.It) (wb : Nat) (w : World) (hb : ty.SrcGe none w a l) (hn : l.length ≤ 1048576)
  (HC : Hid (∀ (z : Int) (q : ByteArray) W, Below w.heap.size w W → Calls Tryz.prog 99 #[.agg #[.int .i64 z, .string q], .pointer (some ⟨wb, 0, none⟩)] W fun e w' => e = .returned (.bool (!hasB ps q)) ∧ Below W.heap.size W w')) :
  Calls Tryz.prog 143 #[.slice a l.length c, .func (.func 99) #[] #[.pointer (some ⟨wb, 0, none⟩)]] w fun e w' => (∃ r : Int, e = .returned (.int .i64 r) ∧ (0 ≤ r ∧ genB ps l = false ∨ r = -1 ∧ genB ps l = true)) ∧ Below w.heap.size w w' := by
 have HR : Hid (ty.SrcGe none w a l) := hb
 have HNO : Hid (∀ (i : Nat) (x : ty.Ge), l[i]? = some x → hasB ps x.fPath = false → genB ps l = false) := fun i x hx h => by
  unfold genB
  rw [List.all_eq_false]
  exact ⟨x, List.mem_of_getElem? hx, by rw [h]; decide⟩
 have HYE : Hid ((∀ (i : Nat) (x : ty.Ge), i < l.length → l[i]? = some x → hasB ps x.fPath = true) → genB ps l = true) := fun h => by
  unfold genB
  rw [List.all_eq_true]
  intro x hx
  obtain ⟨i, hi⟩ := List.getElem?_of_mem hx
  exact h i x (List.getElem?_eq_some_iff.1 hi).1 hi
 obtain ⟨V, hV⟩ : ∃ V, genB ps l = V := ⟨_, rfl⟩
 rw [hV] at HNO HYE ⊢
 obtain ⟨n, hnn⟩ : ∃ n, l.length = n := ⟨_, rfl⟩
 have HNN : Hid (l.length = n) := hnn
 rw [hnn] at hn HYE ⊢
 clear hb hnn hV
 go_enter Tryz.func143, Tryz.ntmps143
 go_wp2
 go_loopw [5, 8] (fun _ y wr => ∃ i : Nat, i ≤ n ∧ y = .int .i64 (i : Int) ∧ (∀ (j : Nat) (y : ty.Ge), j < i → l[j]? = some y → hasB ps y.fPath = true) ∧ Below w.heap.size w wr) (fun _ y _ => n - (intOf y).toNat)
 case atStart => exact ⟨0, Nat.zero_le _, rfl, fun j y h => by omega, Below.refl _ _⟩
 case round =>
  obtain ⟨i, hi, rfl, h1, hbel⟩ := hrel
  have H1 := Lib.hid h1
  have HBE : Hid (Below w.heap.size w wr) := hbel
  clear h1
  by_cases hin : i < n
  ·have hin' : (i : Int) < (n : Int) := by omega
   have hi0 : (0 : Int) ≤ (i : Int) := by omega
   obtain ⟨x, hx⟩ : ∃ x, l[i]? = some x := ⟨_, List.getElem?_eq_getElem (by rw [HNN.out]; exact hin)⟩
   rcases HR.out with h | ⟨b, o, rfl, _, hc⟩
   ·rw [h.2] at hx; simp at hx
   obtain ⟨q0, q1⟩ := (hc i x hx).below hbel
   have HX : Hid (l[i]? = some x) := hx
   have HCM : Hid (Calls Tryz.prog 99 #[.agg #[.int .i64 x.fN, .string x.fPath], .pointer (some ⟨wb, 0, none⟩)] wr fun e w' => e = .returned (.bool (!hasB ps x.fPath)) ∧ Below wr.heap.size wr w') := HC.out _ _ wr hbel
   obtain ⟨B, hB⟩ : ∃ B, hasB ps x.fPath = B := ⟨_, rfl⟩
   rw [hB] at HCM
   have HBB : Hid (hasB ps x.fPath = B) := hB
   obtain ⟨g0, hg0⟩ : ∃ z, x.fN = z := ⟨_, rfl⟩
   obtain ⟨g1, hg1⟩ : ∃ z, x.fPath = z := ⟨_, rfl⟩
   rw [hg0] at q0 HCM
   rw [hg1] at q1 HCM
   clear hg0 hg1 hbel hc hx hB
   cases B with
   | false =>
    rw [Bool.not_false] at HCM
    have HF : Hid (V = false) := HNO.out i x HX.out HBB.out
    go_wp2_with (go_at_call 99; refine HCM.out.mono ?_; rintro e w1 ⟨rfl, hl1⟩)
    go_ret
    exact ⟨⟨_, rfl, .inl ⟨hi0, HF.out⟩⟩, HBE.out.trans (hl1.mono HBE.out.size)⟩
   | true =>
    rw [Bool.not_true] at HCM
    have HN : Hid (∀ (j : Nat) (y : ty.Ge), j < i + 1 → l[j]? = some y → hasB ps y.fPath = true) := fun j y hj hy => by
     rcases Nat.lt_or_ge j i with h | h
     ·exact H1.out j y h hy
     ·obtain rfl : j = i := by omega
      rw [HX.out] at hy
      cases hy
      exact HBB.out
    go_wp2_with (go_at_call 99; refine HCM.out.mono ?_; rintro e w1 ⟨rfl, hl1⟩)
    go_roundw
    case rel => exact ⟨i + 1, by omega, by go_num, HN.out, HBE.out.trans (hl1.mono HBE.out.size)⟩
    case measure => simp [intOf] <;> omega
  ·have hin' : ¬ (i : Int) < (n : Int) := by omega
   obtain rfl : i = n := by omega
   have HF : Hid (V = true) := HYE.out H1.out
   clear hbel
   go_wp2
   go_ret
   exact ⟨⟨_, rfl, .inr ⟨rfl, HF.out⟩⟩, HBE.out⟩
theorem conge_any (a : Option Addr) (c : Nat) (l : List ty.Ge) (ps : List ty.It) (wb : Nat) (w : World) (hb : ty.SrcGe none w a l) (hn : l.length ≤ 1048576)
  (HC : Hid (∀ (z : Int) (q : ByteArray) W, Below w.heap.size w W → Calls Tryz.prog 99 #[.agg #[.int .i64 z, .string q], .pointer (some ⟨wb, 0, none⟩)] W fun e w' => e = .returned (.bool (!hasB ps q)) ∧ Below W.heap.size W w')) :
  Calls Tryz.prog 98 #[.slice a l.length c, .func (.func 99) #[] #[.pointer (some ⟨wb, 0, none⟩)]] w fun e w' => e = .returned (.bool (!genB ps l)) ∧ Below w.heap.size w w' := by
 have HI : Hid (∀ W : World, W = w → Calls Tryz.prog 143 #[.slice a l.length c, .func (.func 99) #[] #[.pointer (some ⟨wb, 0, none⟩)]] W fun e w' => (∃ r : Int, e = .returned (.int .i64 r) ∧ (0 ≤ r ∧ genB ps l = false ∨ r = -1 ∧ genB ps l = true)) ∧ Below W.heap.size W w') := fun W h => by subst h; exact ixge_any a c l ps wb W hb hn HC
 clear hb HC
 generalize l.length = n at *
 generalize genB ps l = V at *
 go_enter Tryz.func98, Tryz.ntmps98
 go_wp2_with (go_at_call 143; refine (HI.out _ rfl).mono ?_; rintro e w1 ⟨⟨r, rfl, hr⟩, hl1⟩)
 go_ret
 refine ⟨?_, hl1⟩
 rcases hr with ⟨h1, h2⟩ | ⟨h1, h2⟩
 ·rw [h2]
  simp [h1]
 ·rw [h2]
  subst h1
  simp
theorem hag_any (a0 a1 : Option Addr) (c0 c1 : Nat) (ps : List ty.It) (l : List ty.Pr) (v2 v3 : Value) (w : World) (hb : ty.SrcIt none w a0 ps) (hn : ps.length ≤ 300) (hasc : AscI ps) (hb1 : ty.SrcPr none w a1 l) (hw1 : ty.wtPr l ≤ 1048576) :
  Calls Tryz.prog 44 #[.agg #[.slice a0 ps.length c0, .slice a1 l.length c1, v2, v3]] w fun e w' => e = .returned (.bool (gensB ps l)) ∧ Below w.heap.size w w' := by
 have hn1 : l.length ≤ 1048576 := by have := ty.wtPr_len l; omega
 have HR : Hid (ty.SrcPr none w a1 l) := hb1
 have HWG : Hid (∀ x ∈ l, x.fGens.length ≤ 1048576) := fun x hx => by
  have := ty.wtPr_mem hx
  have := ty.wtGe_len x.fGens
  unfold ty.wt1Pr at *
  omega
 have HC : Hid (∀ (z : Int) (q : ByteArray) W, Below w.heap.size w W → WoC W w.heap.size (.slice a0 ps.length c0) (.slice a1 l.length c1) v2 v3 → Calls Tryz.prog 99 #[.agg #[.int .i64 z, .string q], .pointer (some ⟨w.heap.size, 0, none⟩)] W fun e w' => e = .returned (.bool (!hasB ps q)) ∧ Below W.heap.size W w') := fun z q W h hW => hag1_any a0 c0 ps _ v2 v3 w.heap.size z q W (hb.below h) hn hasc hW
 have HNO : Hid (∀ (i : Nat) (x : ty.Pr), l[i]? = some x → genB ps x.fGens = false → gensB ps l = false) := fun i x hx h => by
  unfold gensB
  rw [List.all_eq_false]
  exact ⟨x, List.mem_of_getElem? hx, by rw [h]; decide⟩
 have HYE : Hid ((∀ (i : Nat) (x : ty.Pr), i < l.length → l[i]? = some x → genB ps x.fGens = true) → gensB ps l = true) := fun h => by
  unfold gensB
  rw [List.all_eq_true]
  intro x hx
  obtain ⟨i, hi⟩ := List.getElem?_of_mem hx
  exact h i x (List.getElem?_eq_some_iff.1 hi).1 hi
 obtain ⟨V, hV⟩ : ∃ V, gensB ps l = V := ⟨_, rfl⟩
 rw [hV] at HNO HYE ⊢
 obtain ⟨n, hnn⟩ : ∃ n, l.length = n := ⟨_, rfl⟩
 have HNN : Hid (l.length = n) := hnn
 obtain ⟨n0, hn0⟩ : ∃ n, ps.length = n := ⟨_, rfl⟩
 rw [hnn] at hn1 HYE HC ⊢
 rw [hn0] at HC ⊢
 have HW0 : Hid (WoC (w.alloc (Obj.cells #[.slice a0 n0 c0, .slice a1 n c1, v2, v3] 35)) w.heap.size (.slice a0 n0 c0) (.slice a1 n c1) v2 v3) := ⟨by simp [go_sem], by simp [go_sem], by simp [go_sem], by simp [go_sem]⟩
 clear hb hb1 hw1 hasc hnn hV hn0 hn
 go_enter Tryz.func44, Tryz.ntmps44
 go_wp2
 go_loopw [4, 8] (fun _ y wr => ∃ i : Nat, i ≤ n ∧ y = .int .i64 (i : Int) ∧ (∀ (j : Nat) (y : ty.Pr), j < i → l[j]? = some y → genB ps y.fGens = true) ∧ WoC wr w.heap.size (.slice a0 n0 c0) (.slice a1 n c1) v2 v3 ∧ Below w.heap.size w wr) (fun _ y _ => n - (intOf y).toNat)
 case atStart => exact ⟨0, Nat.zero_le _, rfl, fun j y h => by omega, HW0.out, (Below.refl _ _).alloc (Nat.le_refl _) _⟩
 case round =>
  obtain ⟨i, hi, rfl, h1, hwc, hbel⟩ := hrel
  have H1 := Lib.hid h1
  have HBE : Hid (Below w.heap.size w wr) := hbel
  have HWC := Lib.hid hwc
  clear h1
  by_cases hin : i < n
  ·have hin' : (i : Int) < (n : Int) := by omega
   have hi0 : (0 : Int) ≤ (i : Int) := by omega
   obtain ⟨x, hx⟩ : ∃ x, l[i]? = some x := ⟨_, List.getElem?_eq_getElem (by rw [HNN.out]; exact hin)⟩
   rcases HR.out with h | ⟨b, o, rfl, _, hc⟩
   ·rw [h.2] at hx; simp at hx
   obtain ⟨a2, c2, q0, q1, q2, s2, t2⟩ := (hc i x hx).below hbel
   have HX : Hid (l[i]? = some x) := hx
   have HCO : Hid (∀ ob, Calls Tryz.prog 98 #[.slice a2 x.fGens.length c2, .func (.func 99) #[] #[.pointer (some ⟨w.heap.size, 0, none⟩)]] (wr.alloc ob) fun e w' => e = .returned (.bool (!genB ps x.fGens)) ∧ Below (wr.alloc ob).heap.size (wr.alloc ob) w') := fun ob => by
    have hb1 : Below wr.heap.size wr (wr.alloc ob) := (Below.refl _ _).alloc (Nat.le_refl _) _
    exact conge_any a2 c2 x.fGens ps w.heap.size (wr.alloc ob) (s2.below hb1) (HWG.out x (List.mem_of_getElem? hx)) fun z q W hW => HC.out z q W ((hbel.trans (hb1.mono hbel.size)).trans (hW.mono (hbel.trans (hb1.mono hbel.size)).size)) ((hwc.below hb1).below hW)
   obtain ⟨B, hB⟩ : ∃ B, genB ps x.fGens = B := ⟨_, rfl⟩
   rw [hB] at HCO
   have HBB : Hid (genB ps x.fGens = B) := hB
   obtain ⟨w0, w1, w2, w3⟩ := hwc
   obtain ⟨g0, hg0⟩ : ∃ z, x.fName = z := ⟨_, rfl⟩
   obtain ⟨g1, hg1⟩ : ∃ z, x.fNow = z := ⟨_, rfl⟩
   obtain ⟨g2, hg2⟩ : ∃ z, x.fGens.length = z := ⟨_, rfl⟩
   rw [hg0] at q0
   rw [hg1] at q1
   rw [hg2] at q2 HCO
   have HB1 : Hid (∀ ob, Below w.heap.size w (wr.alloc ob)) := fun ob => hbel.alloc hbel.size _
   have HW1 : Hid (∀ ob W, Below (wr.alloc ob).heap.size (wr.alloc ob) W → WoC W w.heap.size (.slice a0 n0 c0) (.slice (some ⟨b, o, none⟩) n c1) v2 v3) := fun ob W h => (HWC.out.below ((Below.refl _ _).alloc (Nat.le_refl _) _)).below h
   clear hg0 hg1 hg2 hbel hc hx hB s2 t2
   cases B with
   | false =>
    rw [Bool.not_false] at HCO
    have HF : Hid (V = false) := HNO.out i x HX.out HBB.out
    go_wp2_with (go_at_call 98; refine (HCO.out _).mono ?_; rintro e w1 ⟨rfl, hl1⟩)
    go_ret
    exact ⟨by rw [HF.out]; rfl, (HB1.out _).trans (hl1.mono (HB1.out _).size)⟩
   | true =>
    rw [Bool.not_true] at HCO
    have HN : Hid (∀ (j : Nat) (y : ty.Pr), j < i + 1 → l[j]? = some y → genB ps y.fGens = true) := fun j y hj hy => by
     rcases Nat.lt_or_ge j i with h | h
     ·exact H1.out j y h hy
     ·obtain rfl : j = i := by omega
      rw [HX.out] at hy
      cases hy
      exact HBB.out
    go_wp2_with (go_at_call 98; refine (HCO.out _).mono ?_; rintro e w1 ⟨rfl, hl1⟩)
    go_roundw
    case rel => exact ⟨i + 1, by omega, by go_num, HN.out, HW1.out _ _ hl1, (HB1.out _).trans (hl1.mono (HB1.out _).size)⟩
    case measure => simp [intOf] <;> omega
  ·have hin' : ¬ (i : Int) < (n : Int) := by omega
   obtain rfl : i = n := by omega
   have HF : Hid (V = true) := HYE.out H1.out
   obtain ⟨w0, w1, w2, w3⟩ := hwc
   clear hbel
   go_wp2
   go_ret
   exact ⟨by rw [HF.out]; rfl, HBE.out⟩
theorem asc_of {ps : List ty.It} (h : stB ps = true) : AscI ps := fun i j x y hji hy hx => asc_lt (st_facts h).2 i j x y hji hy hx
theorem iwo_any (lo : Nat) (x : ty.Wo) (a0 a1 a2 a3 : Option Addr) (c0 c1 c2 c3 : Nat) (w : World) (h0 : ty.SrcIt (some lo) w a0 x.fStore) (h1 : ty.SrcPr (some lo) w a1 x.fProfiles) (h2 : ty.SrcPe (some lo) w a2 x.fPending) (h3 : ty.SrcNx (some lo) w a3 x.fNexts) (hw : ty.wt1Wo x ≤ 1048576) (hm : tt.ML w) (hT : wd.TabB w) :
  Calls Tryz.prog 9 #[.agg #[.slice a0 x.fStore.length c0, .slice a1 x.fProfiles.length c1, .slice a2 x.fPending.length c2, .slice a3 x.fNexts.length c3]] w fun e w' => e = .returned (.bool (woB x)) ∧ Below w.heap.size w w' := by
 have hws : ty.wtIt x.fStore ≤ 1048576 ∧ ty.wtPr x.fProfiles ≤ 1048576 ∧ ty.wtPe x.fPending ≤ 1048576 ∧ ty.wtNx x.fNexts ≤ 1048576 := by unfold ty.wt1Wo at hw; omega
 have HS := Lib.hid fun (W : World) (h : Below w.heap.size w W) => istore_any lo a0 c0 x.fStore W (h0.below h) hws.1 (hm.below h) (hT.below h)
 have HP : Hid (∀ W, Below w.heap.size w W → Calls Tryz.prog 41 #[.slice a1 x.fProfiles.length c1] W fun e w' => e = .returned (.bool (pf.psB (x.fProfiles.map prX))) ∧ Below W.heap.size W w') := fun W h => by
  have := pf.ips_any (x.fProfiles.map prX) a1 c1 W (src_prof (h1.below h)) (by rw [wt_prof]; exact hws.2.1) (hT.below h)
  rwa [List.length_map] at this
 have HE := Lib.hid fun (W : World) (h : Below w.heap.size w W) => begPe_any lo a2 c2 x.fPending W (h2.below h) hws.2.2.1 (hT.below h) (hm.below h)
 have HX := Lib.hid fun (W : World) (h : Below w.heap.size w W) => begNx_any lo a3 c3 x.fNexts W (h3.below h) hws.2.2.2 (hT.below h)
 have HG : Hid (stB x.fStore = true → ∀ W, Below w.heap.size w W → Calls Tryz.prog 44 #[.agg #[.slice a0 x.fStore.length c0, .slice a1 x.fProfiles.length c1, .slice a2 x.fPending.length c2, .slice a3 x.fNexts.length c3]] W fun e w' => e = .returned (.bool (gensB x.fStore x.fProfiles)) ∧ Below W.heap.size W w') := fun hst W h => hag_any a0 a1 c0 c1 x.fStore x.fProfiles _ _ W (h0.any.below h) (st_facts hst).1 (asc_of hst) (h1.any.below h) hws.2.1
 unfold woB
 generalize stB x.fStore = B0 at *
 generalize pf.psB (x.fProfiles.map prX) = B1 at *
 generalize begP x.fPending = B2 at *
 generalize begN x.fNexts = B3 at *
 generalize gensB x.fStore x.fProfiles = B4 at *
 generalize x.fStore.length = n0 at *
 generalize x.fProfiles.length = n1 at *
 generalize x.fPending.length = n2 at *
 generalize x.fNexts.length = n3 at *
 have HB0 : Hid (Below w.heap.size w (w.alloc (Obj.cells #[.slice a0 n0 c0, .slice a1 n1 c1, .slice a2 n2 c2, .slice a3 n3 c3] 35))) := (Below.refl _ _).alloc (Nat.le_refl _) _
 have HW0 : Hid (WoC (w.alloc (Obj.cells #[.slice a0 n0 c0, .slice a1 n1 c1, .slice a2 n2 c2, .slice a3 n3 c3] 35)) w.heap.size (.slice a0 n0 c0) (.slice a1 n1 c1) (.slice a2 n2 c2) (.slice a3 n3 c3)) := ⟨by simp [go_sem], by simp [go_sem], by simp [go_sem], by simp [go_sem]⟩
 clear h0 h1 h2 h3 hw hm hT hws
 cases B0 with
 | false =>
  go_enter Tryz.func9, Tryz.ntmps9
  go_wp2_with (go_at_call 40; refine (HS.out _ HB0.out).mono ?_; rintro e w1 ⟨rfl, hl1⟩)
  go_ret
  exact ⟨rfl, HB0.out.trans (hl1.mono HB0.out.size)⟩
 | true =>
  have HGG := HG.out rfl
  clear HG
  have HGH := Lib.hid HGG
  clear HGG
  cases B1 with
  | false =>
   go_enter Tryz.func9, Tryz.ntmps9
   go_wp2_with (first
    | (go_at_call 40; refine (HS.out _ HB0.out).mono ?_; rintro e w1 ⟨rfl, hl1⟩; obtain ⟨k0, k1, k2, k3⟩ := HW0.out.below hl1; have hb1 : Below w.heap.size w w1 := HB0.out.trans (hl1.mono HB0.out.size); clear hl1)
    | (go_at_call 41; refine (HP.out _ hb1).mono ?_; rintro e w2 ⟨rfl, hl2⟩))
   go_ret
   exact ⟨rfl, hb1.trans (hl2.mono hb1.size)⟩
  | true =>
   cases B2 with
   | false =>
    go_enter Tryz.func9, Tryz.ntmps9
    go_wp2_with (first
     | (go_at_call 40; refine (HS.out _ HB0.out).mono ?_; rintro e w1 ⟨rfl, hl1⟩; have hwc1 := HW0.out.below hl1; obtain ⟨k0, k1, k2, k3⟩ := hwc1; have hb1 : Below w.heap.size w w1 := HB0.out.trans (hl1.mono HB0.out.size); clear hl1)
     | (go_at_call 41; refine (HP.out _ hb1).mono ?_; rintro e w2 ⟨rfl, hl2⟩; have hwc2 := WoC.below ⟨k0, k1, k2, k3⟩ hl2; obtain ⟨m0, m1, m2, m3⟩ := hwc2; have hb2 : Below w.heap.size w w2 := hb1.trans (hl2.mono hb1.size); clear hl2 k0 k1 k2 k3)
     | (go_at_call 42; refine (HE.out _ hb2).mono ?_; rintro e w3 ⟨rfl, hl3⟩))
    go_ret
    exact ⟨rfl, hb2.trans (hl3.mono hb2.size)⟩
   | true =>
    cases B3 with
    | false =>
     go_enter Tryz.func9, Tryz.ntmps9
     go_wp2_with (first
      | (go_at_call 40; refine (HS.out _ HB0.out).mono ?_; rintro e w1 ⟨rfl, hl1⟩; have hwc1 := HW0.out.below hl1; obtain ⟨k0, k1, k2, k3⟩ := hwc1; have hb1 : Below w.heap.size w w1 := HB0.out.trans (hl1.mono HB0.out.size); clear hl1)
      | (go_at_call 41; refine (HP.out _ hb1).mono ?_; rintro e w2 ⟨rfl, hl2⟩; have hwc2 := WoC.below ⟨k0, k1, k2, k3⟩ hl2; obtain ⟨m0, m1, m2, m3⟩ := hwc2; have hb2 : Below w.heap.size w w2 := hb1.trans (hl2.mono hb1.size); clear hl2 k0 k1 k2 k3)
      | (go_at_call 42; refine (HE.out _ hb2).mono ?_; rintro e w3 ⟨rfl, hl3⟩; have hwc3 := WoC.below ⟨m0, m1, m2, m3⟩ hl3; obtain ⟨l0, l1, l2, l3⟩ := hwc3; have hb3 : Below w.heap.size w w3 := hb2.trans (hl3.mono hb2.size); clear hl3 m0 m1 m2 m3)
      | (go_at_call 43; refine (HX.out _ hb3).mono ?_; rintro e w4 ⟨rfl, hl4⟩))
     go_ret
     exact ⟨rfl, hb3.trans (hl4.mono hb3.size)⟩
    | true =>
     go_enter Tryz.func9, Tryz.ntmps9
     go_wp2_with (first
      | (go_at_call 40; refine (HS.out _ HB0.out).mono ?_; rintro e w1 ⟨rfl, hl1⟩; have hwc1 := HW0.out.below hl1; obtain ⟨k0, k1, k2, k3⟩ := hwc1; have hb1 : Below w.heap.size w w1 := HB0.out.trans (hl1.mono HB0.out.size); clear hl1)
      | (go_at_call 41; refine (HP.out _ hb1).mono ?_; rintro e w2 ⟨rfl, hl2⟩; have hwc2 := WoC.below ⟨k0, k1, k2, k3⟩ hl2; obtain ⟨m0, m1, m2, m3⟩ := hwc2; have hb2 : Below w.heap.size w w2 := hb1.trans (hl2.mono hb1.size); clear hl2 k0 k1 k2 k3)
      | (go_at_call 42; refine (HE.out _ hb2).mono ?_; rintro e w3 ⟨rfl, hl3⟩; have hwc3 := WoC.below ⟨m0, m1, m2, m3⟩ hl3; obtain ⟨l0, l1, l2, l3⟩ := hwc3; have hb3 : Below w.heap.size w w3 := hb2.trans (hl3.mono hb2.size); clear hl3 m0 m1 m2 m3)
      | (go_at_call 43; refine (HX.out _ hb3).mono ?_; rintro e w4 ⟨rfl, hl4⟩; have hwc4 := WoC.below ⟨l0, l1, l2, l3⟩ hl4; obtain ⟨j0, j1, j2, j3⟩ := hwc4; have hb4 : Below w.heap.size w w4 := hb3.trans (hl4.mono hb3.size); clear hl4 l0 l1 l2 l3)
      | (go_at_call 44; refine (HGH.out _ hb4).mono ?_; rintro e w5 ⟨rfl, hl5⟩))
     go_ret
     exact ⟨by first | rfl | simp, hb4.trans (hl5.mono hb4.size)⟩
theorem l19i_any (p f : ByteArray) (a1 : Option Addr) (n1 c1 : Nat) (R : Bool) (hp : p.size ≤ 1048576) (hf : f.size ≤ 1048576) (w : World)
  (HTR : Hid (Calls Tryz.prog 50 #[.slice a1 n1 c1] w fun e w' => e = .returned (.bool R) ∧ Below w.heap.size w w')) :
  Calls Tryz.prog 33 #[.string p, .slice a1 n1 c1, .string f] w fun e w' => e = .returned (.bool (wd.aokB p && (frB f && R))) ∧ Below w.heap.size w w' := by
 have HP := Lib.hid fun (W : World) => wd.aspec_any p hp W
 have HF := Lib.hid fun (W : World) => wd.aspec_any f hf W
 cases hn : wd.aokB p with
 | false =>
  rw [hn] at HP
  clear hn
  go_enter Tryz.func33, Tryz.ntmps33
  go_wp2_with (go_at_call 35; refine (HP.out _).mono ?_; rintro e w1 ⟨rfl, rfl⟩)
  go_ret
  exact ⟨rfl, Below.refl _ _⟩
 | true =>
  rw [hn] at HP
  cases R with
  | false =>
   go_enter Tryz.func33, Tryz.ntmps33
   go_wp2_with (first
    | (go_at_call 35; refine (HP.out _).mono ?_; rintro e w1 ⟨rfl, rfl⟩)
    | (go_at_call 50; refine HTR.out.mono ?_; rintro e w2 ⟨rfl, hl2⟩))
   go_ret
   exact ⟨by simp, hl2⟩
  | true =>
   by_cases he : f = ⟨#[]⟩
   ·subst he
    have hE : frB ⟨#[]⟩ = true := by simp [frB]
    rw [hE]
    go_enter Tryz.func33, Tryz.ntmps33
    go_wp2_with (first
     | (go_at_call 35; refine (HP.out _).mono ?_; rintro e w1 ⟨rfl, rfl⟩)
     | (go_at_call 50; refine HTR.out.mono ?_; rintro e w2 ⟨rfl, hl2⟩))
    go_ret
    exact ⟨rfl, hl2⟩
   ·have hE : frB f = wd.aokB f := by simp [frB, he]
    have hsb : ¬ f.toList = [] := by
     rw [ByteArray.toList_eq]
     exact fun e => he (by apply ByteArray.ext; apply Array.ext'; exact e)
    have hsi : f.toList.isEmpty = false := by simpa using hsb
    rw [hE]
    clear hE he HP HF
    have HA : Hid (∀ t W, t.size ≤ 1048576 → Calls Tryz.prog 35 #[.string t] W fun e w' => e = .returned (.bool (wd.aokB t)) ∧ w' = W) := fun t W h => wd.aspec_any t h W
    go_enter Tryz.func33, Tryz.ntmps33
    go_wp2_with (first
     | (go_at_call 35; refine (HA.out _ _ (by assumption)).mono ?_; rintro e w1 ⟨rfl, rfl⟩; first | rw [hn] | skip)
     | (go_at_call 50; refine HTR.out.mono ?_; rintro e w2 ⟨rfl, hl2⟩))
    go_ret
    exact ⟨by first | rfl | simp, hl2⟩
theorem wo_st {x : ty.Wo} (h : stB x.fStore = false) : woB x = false := by unfold woB; rw [h]; rfl
theorem wo_ps {x : ty.Wo} (h : pf.psB (x.fProfiles.map prX) = false) : woB x = false := by unfold woB; rw [h]; simp
theorem wo_pl {x : ty.Wo} (h : ¬ x.fPending.length ≤ 20) : woB x = false := by unfold woB begP; rw [decide_eq_false h]; simp
theorem wo_nl {x : ty.Wo} (h : ¬ x.fNexts.length ≤ 20) : woB x = false := by unfold woB begN; rw [decide_eq_false h]; simp
theorem wo_pe {x : ty.Wo} {i : Nat} {y : ty.Pe} (hy : x.fPending[i]? = some y) (h : peB y = false) : woB x = false := by
 have : x.fPending.all peB = false := by rw [List.all_eq_false]; exact ⟨y, List.mem_of_getElem? hy, by rw [h]; decide⟩
 unfold woB begP
 rw [this]
 simp
theorem wo_nx {x : ty.Wo} {i : Nat} {y : ty.Nx} (hy : x.fNexts[i]? = some y) (h : nxB y = false) : woB x = false := by
 have : x.fNexts.all nxB = false := by rw [List.all_eq_false]; exact ⟨y, List.mem_of_getElem? hy, by rw [h]; decide⟩
 unfold woB begN
 rw [this]
 simp
theorem wo_ge {x : ty.Wo} {i k : Nat} {y : ty.Pr} {g : ty.Ge} (hy : x.fProfiles[i]? = some y) (hg : y.fGens[k]? = some g) (h : hasB x.fStore g.fPath = false) : woB x = false := by
 have h1 : genB x.fStore y.fGens = false := by unfold genB; rw [List.all_eq_false]; exact ⟨g, List.mem_of_getElem? hg, by rw [h]; decide⟩
 have : gensB x.fStore x.fProfiles = false := by unfold gensB; rw [List.all_eq_false]; exact ⟨y, List.mem_of_getElem? hy, by rw [h1]; decide⟩
 unfold woB
 rw [this]
 simp
theorem wo_yes {x : ty.Wo} (h0 : stB x.fStore = true) (h1 : pf.psB (x.fProfiles.map prX) = true) (h2 : x.fPending.length ≤ 20) (h3 : x.fNexts.length ≤ 20) (h4 : ∀ (i : Nat) (y : ty.Pe), i < x.fPending.length → x.fPending[i]? = some y → peB y = true)
  (h5 : ∀ (i : Nat) (y : ty.Nx), i < x.fNexts.length → x.fNexts[i]? = some y → nxB y = true) (h6 : ∀ (i : Nat) (y : ty.Pr), i < x.fProfiles.length → x.fProfiles[i]? = some y → ∀ (k : Nat) (g : ty.Ge), k < y.fGens.length → y.fGens[k]? = some g → hasB x.fStore g.fPath = true) : woB x = true := by
 have e4 : x.fPending.all peB = true := by rw [List.all_eq_true]; intro y hy; obtain ⟨i, hi⟩ := List.getElem?_of_mem hy; exact h4 i y (List.getElem?_eq_some_iff.1 hi).1 hi
 have e5 : x.fNexts.all nxB = true := by rw [List.all_eq_true]; intro y hy; obtain ⟨i, hi⟩ := List.getElem?_of_mem hy; exact h5 i y (List.getElem?_eq_some_iff.1 hi).1 hi
 have e6 : gensB x.fStore x.fProfiles = true := by
  unfold gensB genB
  rw [List.all_eq_true]
  intro y hy
  obtain ⟨i, hi⟩ := List.getElem?_of_mem hy
  rw [List.all_eq_true]
  intro g hg
  obtain ⟨k, hk⟩ := List.getElem?_of_mem hg
  exact h6 i y (List.getElem?_eq_some_iff.1 hi).1 hi k g (List.getElem?_eq_some_iff.1 hk).1 hk
 unfold woB begP begN
 rw [h0, h1, e4, e5, e6, decide_eq_true h2, decide_eq_true h3]
 rfl
theorem swo_any (lo : Nat) (x : ty.Wo) (a0 a1 a2 a3 : Option Addr) (c0 c1 c2 c3 : Nat) (w : World) (h0 : ty.SrcIt (some lo) w a0 x.fStore) (h1 : ty.SrcPr (some lo) w a1 x.fProfiles) (h2 : ty.SrcPe (some lo) w a2 x.fPending) (h3 : ty.SrcNx (some lo) w a3 x.fNexts) (hw : ty.wt1Wo x ≤ 1048576) :
  Calls Tryz.prog 7 #[.agg #[.slice a0 x.fStore.length c0, .slice a1 x.fProfiles.length c1, .slice a2 x.fPending.length c2, .slice a3 x.fNexts.length c3]] w fun e w' => e = .returned (.bool (woB x)) ∧ Below w.heap.size w w' := by
 have hws : ty.wtIt x.fStore ≤ 1048576 ∧ ty.wtPr x.fProfiles ≤ 1048576 ∧ ty.wtPe x.fPending ≤ 1048576 ∧ ty.wtNx x.fNexts ≤ 1048576 := by unfold ty.wt1Wo at hw; omega
 have hln : x.fStore.length ≤ 1048576 ∧ x.fProfiles.length ≤ 1048576 ∧ x.fPending.length ≤ 1048576 ∧ x.fNexts.length ≤ 1048576 := by
  have := ty.wtIt_len x.fStore; have := ty.wtPr_len x.fProfiles; have := ty.wtPe_len x.fPending; have := ty.wtNx_len x.fNexts; omega
 have HS := Lib.hid fun (W : World) (h : Below w.heap.size w W) => sstore_any lo a0 c0 x.fStore W (h0.below h) hws.1
 have HP : Hid (∀ W, Below w.heap.size w W → Calls Tryz.prog 32 #[.slice a1 x.fProfiles.length c1] W fun e w' => e = .returned (.bool (pf.psB (x.fProfiles.map prX))) ∧ Below W.heap.size W w') := fun W h => by
  have := pf.sps_any (x.fProfiles.map prX) a1 c1 W (src_prof (h1.below h)) (by rw [wt_prof]; exact hws.2.1)
  rwa [List.length_map] at this
 have HFD : Hid (∀ W q, Below w.heap.size w W → Calls Tryz.prog 36 #[.slice a0 x.fStore.length c0, .string q] W fun e w' => (∃ r : Int, e = .returned (.int .i64 r) ∧ (0 ≤ r ∧ hasB x.fStore q = true ∨ r = -1 ∧ hasB x.fStore q = false)) ∧ w' = W) := fun W q h => sfind_any a0 c0 x.fStore q W (h0.any.below h) hln.1
 have HIT : Hid (∀ (y : ty.Pe) W, y ∈ x.fPending → ∀ (b1 o1 : Nat), tt.EnR W b1 o1 y.fTree.length (enT y.fTree) → Calls Tryz.prog 33 #[.string y.fPath, .slice (some ⟨b1, o1, none⟩) y.fTree.length y.fTree.length, .string y.fFrom] W fun e w' => e = .returned (.bool (peB y)) ∧ Below W.heap.size W w') := fun y W hy b1 o1 hE => by
  have hwy := ty.wtPe_mem hy
  unfold ty.wt1Pe at hwy
  have hle := ty.wtEt_len y.fTree
  exact l19i_any y.fPath y.fFrom _ _ _ _ (by omega) (by omega) W (tt.stree_any (enT y.fTree) b1 o1 y.fTree.length y.fTree.length W hE (small_enr (by omega)) (by omega) (Nat.le_refl _) (by unfold maxLen; omega))
 have HNX : Hid (∀ y ∈ x.fNexts, y.fName.size ≤ 1048576 ∧ y.fPath.size ≤ 1048576) := fun y hy => by
  have := ty.wtNx_mem hy
  unfold ty.wt1Nx at this
  omega
 have HGN : Hid (∀ y ∈ x.fProfiles, y.fGens.length ≤ 1048576) := fun y hy => by
  have := ty.wtPr_mem hy
  have := ty.wtGe_len y.fGens
  unfold ty.wt1Pr at *
  omega
 have HS1 := Lib.hid h1.any
 have HS2 := Lib.hid h2
 have HS3 := Lib.hid h3.any
 have F0 : Hid (stB x.fStore = false → woB x = false) := wo_st
 have F1 : Hid (pf.psB (x.fProfiles.map prX) = false → woB x = false) := wo_ps
 have F2 : Hid (¬ x.fPending.length ≤ 20 → woB x = false) := wo_pl
 have F3 : Hid (¬ x.fNexts.length ≤ 20 → woB x = false) := wo_nl
 have F4 : Hid (∀ (i : Nat) (y : ty.Pe), x.fPending[i]? = some y → peB y = false → woB x = false) := fun i y h h' => wo_pe h h'
 have F5 : Hid (∀ (i : Nat) (y : ty.Nx), x.fNexts[i]? = some y → nxB y = false → woB x = false) := fun i y h h' => wo_nx h h'
 have F6 : Hid (∀ (i k : Nat) (y : ty.Pr) (g : ty.Ge), x.fProfiles[i]? = some y → y.fGens[k]? = some g → hasB x.fStore g.fPath = false → woB x = false) := fun i k y g h h' h2 => wo_ge h h' h2
 have FY : Hid (stB x.fStore = true → pf.psB (x.fProfiles.map prX) = true → x.fPending.length ≤ 20 → x.fNexts.length ≤ 20 → (∀ (i : Nat) (y : ty.Pe), i < x.fPending.length → x.fPending[i]? = some y → peB y = true) → (∀ (i : Nat) (y : ty.Nx), i < x.fNexts.length → x.fNexts[i]? = some y → nxB y = true) → (∀ (i : Nat) (y : ty.Pr), i < x.fProfiles.length → x.fProfiles[i]? = some y → ∀ (k : Nat) (g : ty.Ge), k < y.fGens.length → y.fGens[k]? = some g → hasB x.fStore g.fPath = true) → woB x = true) := wo_yes
 clear h0 h1 h2 h3 hw hws
 generalize x.fPending = pe at *
 generalize x.fNexts = nx at *
 generalize hpr : x.fProfiles = pr at *
 generalize x.fStore = ps at *
 generalize woB x = V at *
 clear hpr
 generalize stB ps = B0 at *
 generalize pf.psB (pr.map prX) = B1 at *
 obtain ⟨n0, hn0⟩ : ∃ n, ps.length = n := ⟨_, rfl⟩
 obtain ⟨n1, hn1⟩ : ∃ n, pr.length = n := ⟨_, rfl⟩
 obtain ⟨n2, hn2⟩ : ∃ n, pe.length = n := ⟨_, rfl⟩
 obtain ⟨n3, hn3⟩ : ∃ n, nx.length = n := ⟨_, rfl⟩
 have HNN : Hid (ps.length = n0 ∧ pr.length = n1 ∧ pe.length = n2 ∧ nx.length = n3) := ⟨hn0, hn1, hn2, hn3⟩
 rw [hn0] at HS HFD hln ⊢
 rw [hn1] at HP FY hln ⊢
 rw [hn2] at F2 FY hln ⊢
 rw [hn3] at F3 FY hln ⊢
 obtain ⟨l0, l1, l2, l3⟩ := hln
 have HB0 : Hid (Below w.heap.size w (w.alloc (Obj.cells #[.slice a0 n0 c0, .slice a1 n1 c1, .slice a2 n2 c2, .slice a3 n3 c3] 35))) := (Below.refl _ _).alloc (Nat.le_refl _) _
 have HW0 : Hid (WoC (w.alloc (Obj.cells #[.slice a0 n0 c0, .slice a1 n1 c1, .slice a2 n2 c2, .slice a3 n3 c3] 35)) w.heap.size (.slice a0 n0 c0) (.slice a1 n1 c1) (.slice a2 n2 c2) (.slice a3 n3 c3)) := ⟨by simp [go_sem], by simp [go_sem], by simp [go_sem], by simp [go_sem]⟩
 clear hn0 hn1 hn2 hn3
 cases B0 with
 | false =>
  have HV : Hid (V = false) := F0.out rfl
  go_enter Tryz.func7, Tryz.ntmps7
  go_wp2_with (go_at_call 31; refine (HS.out _ HB0.out).mono ?_; rintro e w1 ⟨rfl, hl1⟩)
  go_ret
  exact ⟨by rw [HV.out]; rfl, HB0.out.trans (hl1.mono HB0.out.size)⟩
 | true =>
  cases B1 with
  | false =>
   have HV : Hid (V = false) := F1.out rfl
   go_enter Tryz.func7, Tryz.ntmps7
   go_wp2_with (first
    | (go_at_call 31; refine (HS.out _ HB0.out).mono ?_; rintro e w1 ⟨rfl, hl1⟩; obtain ⟨k0, k1, k2, k3⟩ := HW0.out.below hl1; have hb1 : Below w.heap.size w w1 := HB0.out.trans (hl1.mono HB0.out.size); clear hl1)
    | (go_at_call 32; refine (HP.out _ hb1).mono ?_; rintro e w2 ⟨rfl, hl2⟩))
   go_ret
   exact ⟨by rw [HV.out]; rfl, hb1.trans (hl2.mono hb1.size)⟩
  | true =>
   by_cases g2 : n2 ≤ 20
   rotate_left
   ·have g2' : (20 : Int) < (n2 : Int) := by omega
    have HV : Hid (V = false) := F2.out g2
    go_enter Tryz.func7, Tryz.ntmps7
    go_wp2_with (first
     | (go_at_call 31; refine (HS.out _ HB0.out).mono ?_; rintro e w1 ⟨rfl, hl1⟩; obtain ⟨k0, k1, k2, k3⟩ := HW0.out.below hl1; have hb1 : Below w.heap.size w w1 := HB0.out.trans (hl1.mono HB0.out.size); clear hl1)
     | (go_at_call 32; refine (HP.out _ hb1).mono ?_; rintro e w2 ⟨rfl, hl2⟩; have hwc2 := WoC.below ⟨k0, k1, k2, k3⟩ hl2; obtain ⟨m0, m1, m2, m3⟩ := hwc2; have hb2 : Below w.heap.size w w2 := hb1.trans (hl2.mono hb1.size); clear hl2 k0 k1 k2 k3))
    go_ret
    exact ⟨by rw [HV.out]; rfl, hb2⟩
   have g2' : ¬ (20 : Int) < (n2 : Int) := by omega
   by_cases g3 : n3 ≤ 20
   rotate_left
   ·have g3' : (20 : Int) < (n3 : Int) := by omega
    have HV : Hid (V = false) := F3.out g3
    go_enter Tryz.func7, Tryz.ntmps7
    go_wp2_with (first
     | (go_at_call 31; refine (HS.out _ HB0.out).mono ?_; rintro e w1 ⟨rfl, hl1⟩; obtain ⟨k0, k1, k2, k3⟩ := HW0.out.below hl1; have hb1 : Below w.heap.size w w1 := HB0.out.trans (hl1.mono HB0.out.size); clear hl1)
     | (go_at_call 32; refine (HP.out _ hb1).mono ?_; rintro e w2 ⟨rfl, hl2⟩; have hwc2 := WoC.below ⟨k0, k1, k2, k3⟩ hl2; obtain ⟨m0, m1, m2, m3⟩ := hwc2; have hb2 : Below w.heap.size w w2 := hb1.trans (hl2.mono hb1.size); clear hl2 k0 k1 k2 k3))
    go_ret
    exact ⟨by rw [HV.out]; rfl, hb2⟩
   have g3' : ¬ (20 : Int) < (n3 : Int) := by omega
   have HFY : Hid ((∀ (i : Nat) (y : ty.Pe), i < n2 → pe[i]? = some y → peB y = true) → (∀ (i : Nat) (y : ty.Nx), i < n3 → nx[i]? = some y → nxB y = true) → (∀ (i : Nat) (y : ty.Pr), i < n1 → pr[i]? = some y → ∀ (k : Nat) (g : ty.Ge), k < y.fGens.length → y.fGens[k]? = some g → hasB ps g.fPath = true) → V = true) := FY.out rfl rfl g2 g3
   clear F0 F1 F2 F3 FY
   go_enter Tryz.func7, Tryz.ntmps7
   go_wp2_with (first
    | (go_at_call 31; refine (HS.out _ HB0.out).mono ?_; rintro e w1 ⟨rfl, hl1⟩; obtain ⟨k0, k1, k2, k3⟩ := HW0.out.below hl1; have hb1 : Below w.heap.size w w1 := HB0.out.trans (hl1.mono HB0.out.size); clear hl1)
    | (go_at_call 32; refine (HP.out _ hb1).mono ?_; rintro e w2 ⟨rfl, hl2⟩; have hwc2 := WoC.below ⟨k0, k1, k2, k3⟩ hl2; obtain ⟨m0, m1, m2, m3⟩ := hwc2; have hb2 : Below w.heap.size w w2 := hb1.trans (hl2.mono hb1.size); clear hl2 k0 k1 k2 k3))
   have HW2 : Hid (WoC w2 w.heap.size (.slice a0 n0 c0) (.slice a1 n1 c1) (.slice a2 n2 c2) (.slice a3 n3 c3)) := ⟨m0, m1, m2, m3⟩
   have HB2 : Hid (Below w.heap.size w w2) := hb2
   clear m0 m1 m2 m3 hb2 hb1 g2' g3' HS HP
   go_loopw [3] (fun v wr => ∃ i : Nat, i ≤ n2 ∧ v = .int .i64 (i : Int) ∧ (∀ (j : Nat) (y : ty.Pe), j < i → pe[j]? = some y → peB y = true) ∧ WoC wr w.heap.size (.slice a0 n0 c0) (.slice a1 n1 c1) (.slice a2 n2 c2) (.slice a3 n3 c3) ∧ Below w.heap.size w wr) (fun v _ => n2 - (intOf v).toNat)
   case atStart => exact ⟨0, Nat.zero_le _, rfl, fun j y h => by omega, HW2.out, HB2.out⟩
   case round =>
    obtain ⟨i, hi, rfl, hpok, hwc, hbel⟩ := hrel
    have HPK := Lib.hid hpok
    have HBE : Hid (Below w.heap.size w wr) := hbel
    have HWC := Lib.hid hwc
    obtain ⟨m0, m1, m2, m3⟩ := hwc
    clear hpok
    by_cases hin : i < n2
    ·have hin' : (i : Int) < (n2 : Int) := by omega
     have hi0 : (0 : Int) ≤ (i : Int) := by omega
     obtain ⟨y, hy⟩ : ∃ y, pe[i]? = some y := ⟨_, List.getElem?_eq_getElem (by rw [HNN.out.2.2.1]; exact hin)⟩
     rcases HS2.out with h | ⟨b, o, rfl, _, hc⟩
     ·cases h.1
     obtain ⟨b4, c4, q0, q1, q2, s4, t4⟩ := (hc i y hy).below hbel
     have hc4 : c4 = y.fTree.length := t4 lo rfl
     subst hc4
     rcases s4 with h | ⟨b5, o5, rfl, _, hc5⟩
     ·cases h.1
     have HX : Hid (pe[i]? = some y) := hy
     have HCI : Hid (∀ W, Below w.heap.size w W → Below wr.heap.size wr W → Calls Tryz.prog 33 #[.string y.fPath, .slice (some ⟨b5, o5, none⟩) y.fTree.length y.fTree.length, .string y.fFrom] W fun e w' => e = .returned (.bool (peB y)) ∧ Below W.heap.size W w') := fun W _ h => HIT.out y W (List.mem_of_getElem? hy) b5 o5 ((src_enr hc5).below h)
     have HSS : Hid (∀ W, Below wr.heap.size wr W → W.cell? ⟨w.heap.size, 2, none⟩ = some (.slice (some ⟨b, o, none⟩) n2 c2) ∧ W.cell? ⟨b, o + i * 3, none⟩ = some (.string y.fPath) ∧ W.cell? ⟨b, o + i * 3 + 1, none⟩ = some (.slice (some ⟨b5, o5, none⟩) y.fTree.length y.fTree.length) ∧ W.cell? ⟨b, o + i * 3 + 2, none⟩ = some (.string y.fFrom)) := fun W h => by
      have hl := World.block_lt_of_cell? _ _ q0
      have hl2 := World.block_lt_of_cell? _ _ m2
      exact ⟨(h.cell (p := ⟨_, 2, none⟩) hl2).trans m2, (h.cell (p := ⟨_, o + i * 3, none⟩) hl).trans q0, (h.cell (p := ⟨_, o + i * 3 + 1, none⟩) hl).trans q1, (h.cell (p := ⟨_, o + i * 3 + 2, none⟩) hl).trans q2⟩
     have HWN : Hid (∀ W, Below wr.heap.size wr W → WoC W w.heap.size (.slice a0 n0 c0) (.slice a1 n1 c1) (.slice (some ⟨b, o, none⟩) n2 c2) (.slice a3 n3 c3)) := fun W h => HWC.out.below h
     obtain ⟨B, hB⟩ : ∃ B, peB y = B := ⟨_, rfl⟩
     have HBB : Hid (peB y = B) := hB
     rw [hB] at HCI
     obtain ⟨z0, hz0⟩ : ∃ z, y.fPath = z := ⟨_, rfl⟩
     obtain ⟨z1, hz1⟩ : ∃ z, y.fTree.length = z := ⟨_, rfl⟩
     obtain ⟨z2, hz2⟩ : ∃ z, y.fFrom = z := ⟨_, rfl⟩
     rw [hz0] at HSS HCI
     rw [hz1] at HSS HCI
     rw [hz2] at HSS HCI
     clear hz0 hz1 hz2 hB hc hy q0 q1 q2 hc5 t4 hbel
     cases B with
     | false =>
      have HV : Hid (V = false) := F4.out i y HX.out HBB.out
      go_wp2_with fail
      go_region_held3 (fun w' => w'.cell? ⟨w.heap.size, 2, none⟩ = some (.slice (some ⟨b, o, none⟩) n2 c2) ∧ w'.cell? ⟨b, o + i * 3, none⟩ = some (.string z0) ∧ w'.cell? ⟨b, o + i * 3 + 1, none⟩ = some (.slice (some ⟨b5, o5, none⟩) z1 z1) ∧ w'.cell? ⟨b, o + i * 3 + 2, none⟩ = some (.string z2))
       (first | exact HSS.out _ (Below.refl _ _).drew | exact HSS.out _ hb4 | exact HSS.out _ (Below.refl _ _) | go_keep)
       (first
        | ((go_at_call 33; refine (HCI.out _ HBE.out.drew (Below.refl _ _).drew).mono ?_; rintro e w3 ⟨rfl, hl3⟩; have hb3 : Below w.heap.size w w3 := HBE.out.drew.trans (hl3.mono HBE.out.size); have hb4 : Below wr.heap.size wr w3 := (Below.refl wr.heap.size wr).drew.trans hl3)))
      go_wp2_with fail
      go_ret
      exact ⟨by rw [HV.out]; rfl, hb3⟩
     | true =>
      have HN : Hid (∀ (j : Nat) (y : ty.Pe), j < i + 1 → pe[j]? = some y → peB y = true) := fun j y' hj hy' => by
       rcases Nat.lt_or_ge j i with h | h
       ·exact HPK.out j y' h hy'
       ·obtain rfl : j = i := by omega
        rw [HX.out] at hy'
        cases hy'
        exact HBB.out
      go_wp2_with fail
      go_region_held3 (fun w' => w'.cell? ⟨w.heap.size, 2, none⟩ = some (.slice (some ⟨b, o, none⟩) n2 c2) ∧ w'.cell? ⟨b, o + i * 3, none⟩ = some (.string z0) ∧ w'.cell? ⟨b, o + i * 3 + 1, none⟩ = some (.slice (some ⟨b5, o5, none⟩) z1 z1) ∧ w'.cell? ⟨b, o + i * 3 + 2, none⟩ = some (.string z2))
       (first | exact HSS.out _ (Below.refl _ _).drew | exact HSS.out _ hb4 | exact HSS.out _ (Below.refl _ _) | go_keep)
       (first
        | ((go_at_call 33; refine (HCI.out _ HBE.out.drew (Below.refl _ _).drew).mono ?_; rintro e w3 ⟨rfl, hl3⟩; have hb3 : Below w.heap.size w w3 := HBE.out.drew.trans (hl3.mono HBE.out.size); have hb4 : Below wr.heap.size wr w3 := (Below.refl wr.heap.size wr).drew.trans hl3)))
      go_wp2_with fail
      go_roundw
      case rel => exact ⟨i + 1, by omega, by go_num, HN.out, HWN.out _ hb4, hb3⟩
      case measure => simp [intOf]; omega
    ·have hin' : ¬ (i : Int) < (n2 : Int) := by omega
     have HPE : Hid (∀ (j : Nat) (y : ty.Pe), j < n2 → pe[j]? = some y → peB y = true) := fun j y hj hy => HPK.out j y (by omega) hy
     clear hi HPK hbel HS2 F4 HIT
     go_wp2
     clear m0 m1 m2 m3
     go_loopw [4] (fun v wr => ∃ i : Nat, i ≤ n3 ∧ v = .int .i64 (i : Int) ∧ (∀ (j : Nat) (y : ty.Nx), j < i → nx[j]? = some y → nxB y = true) ∧ WoC wr w.heap.size (.slice a0 n0 c0) (.slice a1 n1 c1) (.slice a2 n2 c2) (.slice a3 n3 c3) ∧ Below w.heap.size w wr) (fun v _ => n3 - (intOf v).toNat)
     case atStart => exact ⟨0, Nat.zero_le _, rfl, fun j y h => by omega, HWC.out, HBE.out⟩
     case round =>
      clear HWC HBE hin hin'
      obtain ⟨i, hi, rfl, hpok, hwc, hbel⟩ := hrel
      have HPK := Lib.hid hpok
      have HBE : Hid (Below w.heap.size w wr) := hbel
      have HWC := Lib.hid hwc
      obtain ⟨m0, m1, m2, m3⟩ := hwc
      clear hpok
      by_cases hin : i < n3
      ·have hin' : (i : Int) < (n3 : Int) := by omega
       have hi0 : (0 : Int) ≤ (i : Int) := by omega
       obtain ⟨y, hy⟩ : ∃ y, nx[i]? = some y := ⟨_, List.getElem?_eq_getElem (by rw [HNN.out.2.2.2]; exact hin)⟩
       rcases HS3.out with h | ⟨b, o, rfl, _, hc⟩
       ·rw [h.2] at hy; simp at hy
       obtain ⟨q0, q1⟩ := (hc i y hy).below hbel
       have HX : Hid (nx[i]? = some y) := hy
       have hsz := HNX.out y (List.mem_of_getElem? hy)
       have HCN := Lib.hid fun (W : World) => nm.spec_any y.fName hsz.1 W
       have HCA := Lib.hid fun (W : World) => wd.aspec_any y.fPath hsz.2 W
       have HBD : Hid (nxB y = (nm.nameB y.fName && wd.aokB y.fPath)) := rfl
       have HWN := Lib.hid HWC.out
       obtain ⟨z0, hz0⟩ : ∃ z, y.fName = z := ⟨_, rfl⟩
       obtain ⟨z1, hz1⟩ : ∃ z, y.fPath = z := ⟨_, rfl⟩
       rw [hz0] at q0 HCN HBD
       rw [hz1] at q1 HCA HBD
       clear hz0 hz1 hc hy hbel hsz
       obtain ⟨B0, hB0⟩ : ∃ B, nm.nameB z0 = B := ⟨_, rfl⟩
       obtain ⟨B1, hB1⟩ : ∃ B, wd.aokB z1 = B := ⟨_, rfl⟩
       rw [hB0] at HCN HBD
       rw [hB1] at HCA HBD
       clear hB0 hB1
       cases B0 with
       | false =>
        have HV : Hid (V = false) := F5.out i y HX.out HBD.out
        go_wp2_with (go_at_call 34; refine (HCN.out _).mono ?_; rintro e w3 ⟨rfl, rfl⟩)
        go_ret
        exact ⟨by rw [HV.out]; rfl, HBE.out⟩
       | true =>
        cases B1 with
        | false =>
         have HV : Hid (V = false) := F5.out i y HX.out HBD.out
         go_wp2_with (first
          | (go_at_call 34; refine (HCN.out _).mono ?_; rintro e w3 ⟨rfl, rfl⟩)
          | (go_at_call 35; refine (HCA.out _).mono ?_; rintro e w4 ⟨rfl, rfl⟩))
         go_ret
         exact ⟨by rw [HV.out]; rfl, HBE.out⟩
        | true =>
         have HN : Hid (∀ (j : Nat) (y : ty.Nx), j < i + 1 → nx[j]? = some y → nxB y = true) := fun j y' hj hy' => by
          rcases Nat.lt_or_ge j i with h | h
          ·exact HPK.out j y' h hy'
          ·obtain rfl : j = i := by omega
           rw [HX.out] at hy'
           cases hy'
           exact HBD.out
         go_wp2_with (first
          | (go_at_call 34; refine (HCN.out _).mono ?_; rintro e w3 ⟨rfl, rfl⟩)
          | (go_at_call 35; refine (HCA.out _).mono ?_; rintro e w4 ⟨rfl, rfl⟩))
         go_roundw
         case rel => exact ⟨i + 1, by omega, by go_num, HN.out, HWN.out, HBE.out⟩
         case measure => simp [intOf]; omega
      ·have hin' : ¬ (i : Int) < (n3 : Int) := by omega
       have HNE : Hid (∀ (j : Nat) (y : ty.Nx), j < n3 → nx[j]? = some y → nxB y = true) := fun j y hj hy => HPK.out j y (by omega) hy
       clear hi HPK hbel HS3 F5 HNX
       go_wp2
       clear m0 m1 m2 m3
       go_loopw [5, 6] (fun v _ wr => ∃ i : Nat, i ≤ n1 ∧ v = .int .i64 (i : Int) ∧ (∀ (j : Nat) (y : ty.Pr), j < i → pr[j]? = some y → ∀ (k : Nat) (g : ty.Ge), k < y.fGens.length → y.fGens[k]? = some g → hasB ps g.fPath = true) ∧ WoC wr w.heap.size (.slice a0 n0 c0) (.slice a1 n1 c1) (.slice a2 n2 c2) (.slice a3 n3 c3) ∧ Below w.heap.size w wr) (fun v _ _ => n1 - (intOf v).toNat)
       case atStart => exact ⟨0, Nat.zero_le _, rfl, fun j y h => by omega, HWC.out, HBE.out⟩
       case round =>
        clear HWC HBE hin hin'
        rename World => wo
        obtain ⟨i, hi, rfl, hpok, hwc, hbel⟩ := hrel
        have HPK := Lib.hid hpok
        have HBE : Hid (Below w.heap.size w wo) := hbel
        have HWC := Lib.hid hwc
        obtain ⟨m0, m1, m2, m3⟩ := hwc
        clear hpok
        by_cases hin : i < n1
        rotate_left
        ·have hin' : ¬ (i : Int) < (n1 : Int) := by omega
         have HV : Hid (V = true) := HFY.out HPE.out HNE.out fun j y hj hy => HPK.out j y (by omega) hy
         clear hbel
         go_wp2
         go_ret
         exact ⟨by rw [HV.out]; rfl, HBE.out⟩
        have hin' : (i : Int) < (n1 : Int) := by omega
        have hi0 : (0 : Int) ≤ (i : Int) := by omega
        obtain ⟨y, hy⟩ : ∃ y, pr[i]? = some y := ⟨_, List.getElem?_eq_getElem (by rw [HNN.out.2.1]; exact hin)⟩
        rcases HS1.out with h | ⟨b, o, rfl, _, hc⟩
        ·rw [h.2] at hy; simp at hy
        obtain ⟨b4, c4, q0, q1, q2, s4, _⟩ := (hc i y hy).below hbel
        have HX : Hid (pr[i]? = some y) := hy
        have hgl := HGN.out y (List.mem_of_getElem? hy)
        have HSG := Lib.hid s4
        obtain ⟨n4, hn4⟩ : ∃ n, y.fGens.length = n := ⟨_, rfl⟩
        have HN4 : Hid (y.fGens.length = n4) := hn4
        rw [hn4] at q2 hgl
        have HQ2 : Hid (∀ W, Below wo.heap.size wo W → W.cell? ⟨b, o + i * 3 + 2, none⟩ = some (.slice b4 n4 c4)) := fun W h => (h.cell (p := ⟨b, o + i * 3 + 2, none⟩) (World.block_lt_of_cell? _ _ q2)).trans q2
        have HWN : Hid (∀ W, Below wo.heap.size wo W → WoC W w.heap.size (.slice a0 n0 c0) (.slice (some ⟨b, o, none⟩) n1 c1) (.slice a2 n2 c2) (.slice a3 n3 c3)) := fun W h => HWC.out.below h
        clear hc hy q0 q1 s4 hn4 hbel
        go_wp2
        clear m0 m1 m2 m3
        go_loopw [6] (fun v wr => ∃ k : Nat, k ≤ n4 ∧ v = .int .i64 (k : Int) ∧ (∀ (j : Nat) (g : ty.Ge), j < k → y.fGens[j]? = some g → hasB ps g.fPath = true) ∧ Below wo.heap.size wo wr) (fun v _ => n4 - (intOf v).toNat)
        case atStart => exact ⟨0, Nat.zero_le _, rfl, fun j y h => by omega, Below.refl _ _⟩
        case round =>
         obtain ⟨k, hk, rfl, hpok, hbq⟩ := hrel
         have HGK := Lib.hid hpok
         have HBQ : Hid (Below wo.heap.size wo wr) := hbq
         have HBW : Hid (Below w.heap.size w wr) := HBE.out.trans (hbq.mono HBE.out.size)
         have q2' := HQ2.out _ hbq
         have hwq := HWN.out _ hbq
         obtain ⟨m0, m1, m2, m3⟩ := hwq
         clear hpok
         by_cases hkn : k < n4
         rotate_left
         ·have hkn' : ¬ (k : Int) < (n4 : Int) := by omega
          have HN : Hid (∀ (j : Nat) (y : ty.Pr), j < i + 1 → pr[j]? = some y → ∀ (k : Nat) (g : ty.Ge), k < y.fGens.length → y.fGens[k]? = some g → hasB ps g.fPath = true) := fun j y' hj hy' => by
           rcases Nat.lt_or_ge j i with h | h
           ·exact HPK.out j y' h hy'
           ·obtain rfl : j = i := by omega
            rw [HX.out] at hy'
            cases hy'
            exact fun k' g hk' hg => HGK.out k' g (by have := HN4.out; omega) hg
          have HWQ : Hid (WoC wr w.heap.size (.slice a0 n0 c0) (.slice (some ⟨b, o, none⟩) n1 c1) (.slice a2 n2 c2) (.slice a3 n3 c3)) := HWN.out _ hbq
          clear hbq
          go_wp2
          go_roundw
          case rel => exact ⟨i + 1, by omega, by go_num, HN.out, HWQ.out, HBW.out⟩
          case measure => simp [intOf]; omega
         have hkn' : (k : Int) < (n4 : Int) := by omega
         have hk0 : (0 : Int) ≤ (k : Int) := by omega
         obtain ⟨g, hg⟩ : ∃ g, y.fGens[k]? = some g := ⟨_, List.getElem?_eq_getElem (by rw [HN4.out]; exact hkn)⟩
         have HG : Hid (y.fGens[k]? = some g) := hg
         rcases HSG.out with h | ⟨b5, o5, rfl, _, hc5⟩
         ·rw [h.2] at hg; simp at hg
         obtain ⟨r0, r1⟩ := (hc5 k g hg).below hbq
         have HCF := Lib.hid fun (W : World) (h : Below w.heap.size w W) => HFD.out W g.fPath h
         obtain ⟨B, hB⟩ : ∃ B, hasB ps g.fPath = B := ⟨_, rfl⟩
         have HBB : Hid (hasB ps g.fPath = B) := hB
         rw [hB] at HCF
         obtain ⟨z0, hz0⟩ : ∃ z, g.fPath = z := ⟨_, rfl⟩
         rw [hz0] at HCF r1
         have HSS : Hid (∀ W, Below wr.heap.size wr W → W.cell? ⟨w.heap.size, 0, none⟩ = some (.slice a0 n0 c0) ∧ W.cell? ⟨w.heap.size, 1, none⟩ = some (.slice (some ⟨b, o, none⟩) n1 c1) ∧ W.cell? ⟨b, o + i * 3 + 2, none⟩ = some (.slice (some ⟨b5, o5, none⟩) n4 c4) ∧ W.cell? ⟨b5, o5 + k * 2 + 1, none⟩ = some (.string z0)) := fun W h =>
          ⟨(h.cell (p := ⟨_, 0, none⟩) (World.block_lt_of_cell? _ _ m0)).trans m0, (h.cell (p := ⟨_, 1, none⟩) (World.block_lt_of_cell? _ _ m1)).trans m1, (h.cell (p := ⟨b, o + i * 3 + 2, none⟩) (World.block_lt_of_cell? _ _ q2')).trans q2', (h.cell (p := ⟨b5, o5 + k * 2 + 1, none⟩) (World.block_lt_of_cell? _ _ r1)).trans r1⟩
         clear hz0 hB hc5 hg r0 r1 hbq
         cases B with
         | false =>
          have HV : Hid (V = false) := F6.out i k y g HX.out HG.out HBB.out
          go_wp2_with fail
          go_region_held3 (fun w' => w'.cell? ⟨w.heap.size, 0, none⟩ = some (.slice a0 n0 c0) ∧ w'.cell? ⟨w.heap.size, 1, none⟩ = some (.slice (some ⟨b, o, none⟩) n1 c1) ∧ w'.cell? ⟨b, o + i * 3 + 2, none⟩ = some (.slice (some ⟨b5, o5, none⟩) n4 c4) ∧ w'.cell? ⟨b5, o5 + k * 2 + 1, none⟩ = some (.string z0))
           (first | exact HSS.out _ (Below.refl _ _).drew | exact HSS.out _ (Below.refl _ _) | go_keep)
           (first
            | ((go_at_call 36; refine (HCF.out _ HBW.out.drew).mono ?_; rintro e w3 ⟨⟨r, rfl, hr⟩, rfl⟩; have hrn : r < 0 := hr.elim (fun h => by cases h.2) (fun h => by omega))))
          go_wp2_with fail
          go_ret
          exact ⟨by rw [HV.out]; rfl, HBW.out.drew⟩
         | true =>
          have HN : Hid (∀ (j : Nat) (g : ty.Ge), j < k + 1 → y.fGens[j]? = some g → hasB ps g.fPath = true) := fun j g' hj hg' => by
           rcases Nat.lt_or_ge j k with h | h
           ·exact HGK.out j g' h hg'
           ·obtain rfl : j = k := by omega
            rw [HG.out] at hg'
            cases hg'
            exact HBB.out
          go_wp2_with fail
          go_region_held3 (fun w' => w'.cell? ⟨w.heap.size, 0, none⟩ = some (.slice a0 n0 c0) ∧ w'.cell? ⟨w.heap.size, 1, none⟩ = some (.slice (some ⟨b, o, none⟩) n1 c1) ∧ w'.cell? ⟨b, o + i * 3 + 2, none⟩ = some (.slice (some ⟨b5, o5, none⟩) n4 c4) ∧ w'.cell? ⟨b5, o5 + k * 2 + 1, none⟩ = some (.string z0))
           (first | exact HSS.out _ (Below.refl _ _).drew | exact HSS.out _ (Below.refl _ _) | go_keep)
           (first
            | ((go_at_call 36; refine (HCF.out _ HBW.out.drew).mono ?_; rintro e w3 ⟨⟨r, rfl, hr⟩, rfl⟩; have hrn : ¬ r < 0 := hr.elim (fun h => by omega) (fun h => by cases h.2))))
          go_wp2_with fail
          go_roundw
          case rel => exact ⟨k + 1, by omega, by go_num, HN.out, HBQ.out.drew⟩
          case measure => simp [intOf]; omega
structure SrcW (md : Option Nat) (w : World) (x : ty.Wo) (a0 a1 a2 a3 : Option Addr) : Prop where
 st : ty.SrcIt md w a0 x.fStore
 pr : ty.SrcPr md w a1 x.fProfiles
 pe : ty.SrcPe md w a2 x.fPending
 nx : ty.SrcNx md w a3 x.fNexts
theorem SrcW.below {md : Option Nat} {w w' : World} {x : ty.Wo} {a0 a1 a2 a3 : Option Addr} (h : SrcW md w x a0 a1 a2 a3) (hb : Below w.heap.size w w') : SrcW md w' x a0 a1 a2 a3 := ⟨h.st.below hb, h.pr.below hb, h.pe.below hb, h.nx.below hb⟩
theorem SrcW.any {md : Option Nat} {w : World} {x : ty.Wo} {a0 a1 a2 a3 : Option Addr} (h : SrcW md w x a0 a1 a2 a3) : SrcW none w x a0 a1 a2 a3 := ⟨h.st.any, h.pr.any, h.pe.any, h.nx.any⟩
end Go.Proofs.YtpfnnjfapcnbnaaGreatDoor.so
