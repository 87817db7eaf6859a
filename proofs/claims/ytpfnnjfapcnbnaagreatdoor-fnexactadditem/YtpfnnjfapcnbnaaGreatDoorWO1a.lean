import Derived.Test.YtpfnnjfapcnbnaaGreatDoorSO2a
import Derived.Test.YtpfnnjfapcnbnaaGreatDoorYBa
import Derived.Test.YtpfnnjfapcnbnaaGreatDoorYCa
import Derived.Sort.Walk0
import Derived.Test.YtpfnnjfapcnbnaaGreatDoorPP1a
import Derived.Deep.CutRange
import Derived.Test.YtpfnnjfapcnbnaaGreatDoorTT2a
namespace Go.Proofs.YtpfnnjfapcnbnaaGreatDoor.so
open Go.ChangeShapes Go.WideShapes Go.ChangeAt Go.RowKit Go.Deep Go.Shelf Go.Maps
set_option linter.unusedVariables false
set_option linter.unusedSimpArgs false
theorem ascN_at {l : List ByteArray} {n k : Nat} (h : ap.ascN l n = true) (hk : k < n) : ap.ltB l k = true := by
 unfold ap.ascN at h
 exact List.all_eq_true.1 h k (List.mem_range.2 hk)
theorem asc_lt {ps : List ty.It} (h : ap.asB (ps.map fun y => y.fPath) = true) : ∀ (i j : Nat) (x y : ty.It), j < i → ps[j]? = some y → ps[i]? = some x → y.fPath.data.toList < x.fPath.data.toList
 | 0, j, x, y, hj, _, _ => by omega
 | K + 1, j, x, y, hj, hy, hx => by
  have hlt := (List.getElem?_eq_some_iff.1 hx).1
  have step : ∀ z, ps[K]? = some z → z.fPath.data.toList < x.fPath.data.toList := fun z hz => by
   have h1 := ascN_at (k := K + 1) h (by rw [List.length_map]; exact hlt)
   rw [ap.ltB_succ (pa_some hx) (pa_some hz), ByteArray.toList_eq, ByteArray.toList_eq, Go.Proofs.bytesLess_eq] at h1
   simpa using h1
  rcases Nat.lt_or_ge j K with hjk | hjk
  ·obtain ⟨z, hz⟩ : ∃ z, ps[K]? = some z := ⟨_, List.getElem?_eq_getElem (by omega)⟩
   exact List.lt_trans (asc_lt h K j z y hjk hy hz) (step z hz)
  ·obtain rfl : j = K := by omega
   exact step y hy
theorem bad_asc {ps : List ty.It} (h : ap.asB (ps.map fun y => y.fPath) = true) {i : Nat} {x : ty.It} (hx : ps[i]? = some x) : badN ps i = !itB (pths ps) x := by
 rw [bad_at hx]
 have : decide (x.fPath.data.toList ∈ pths (ps.take i)) = false := decide_eq_false fun hm => by
  unfold pths at hm
  obtain ⟨y, hy, e⟩ := List.mem_map.1 hm
  obtain ⟨j, hj⟩ := List.getElem?_of_mem hy
  have hji := (List.getElem?_eq_some_iff.1 hj).1
  rw [List.length_take] at hji
  rw [List.getElem?_take_of_lt (by omega)] at hj
  have := asc_lt h i j x y (by omega) hj hx
  rw [e] at this
  exact List.lt_irrefl _ this
 rw [this, Bool.false_or]
theorem mis_nil {ps : List ty.It} (h : ap.asB (ps.map fun y => y.fPath) = true) : decide ((misN ps ps.length).length = 0) = ps.all (itB (pths ps)) := by
 rw [Bool.eq_iff_iff, decide_eq_true_eq, List.all_eq_true]
 unfold misN
 rw [List.length_map]
 constructor
 ·intro h0 x hx
  obtain ⟨i, hi⟩ := List.getElem?_of_mem hx
  have hil := (List.getElem?_eq_some_iff.1 hi).1
  cases hb : itB (pths ps) x with
  | true => rfl
  | false =>
   have : i ∈ (List.range ps.length).filter (badN ps) := List.mem_filter.2 ⟨List.mem_range.2 hil, by rw [bad_asc h hi, hb]; rfl⟩
   rw [List.eq_nil_of_length_eq_zero h0] at this
   cases this
 ·intro hall
  rw [List.length_eq_zero_iff, List.filter_eq_nil_iff]
  intro i hi
  obtain ⟨x, hx⟩ : ∃ x, ps[i]? = some x := ⟨_, List.getElem?_eq_getElem (List.mem_range.1 hi)⟩
  rw [bad_asc h hx, hall x (List.mem_of_getElem? hx)]
  simp
set_option maxRecDepth 100000 in
set_option maxHeartbeats 4000000 in
theorem istore_any (lo : Nat) (a : Option Addr) (c : Nat) (ps : List ty.It) (w : World) (hb : ty.SrcIt (some lo) w a ps) (hw : ty.wtIt ps ≤ 1048576) (hm : tt.ML w) (hT : wd.TabB w) :
  Calls Tryz.prog 40 #[.slice a ps.length c] w fun e w' => e = .returned (.bool (stB ps)) ∧ Below w.heap.size w w' := by
 have hl0 := ty.wtIt_len ps
 have HAS : Hid (∀ W : World, W = w → Calls Tryz.prog 85 #[.slice a ps.length c, .func (.func 86) #[] #[]] W fun e w' => e = .returned (.bool (ap.asB (ps.map fun m => m.fPath))) ∧ Below W.heap.size W w') := fun W hW => by subst hW; exact ascI_any a c ps W hb.any (by omega)
 have HMI : Hid (ps.length ≤ 300 → ∀ W : World, Below w.heap.size w W → Calls Tryz.prog 87 #[.slice a ps.length c] W fun e w' => (∃ v, e = .returned v ∧ sr.OwnS W.heap.size w' v (misN ps ps.length)) ∧ Below W.heap.size W w') := fun h3 W h => mis_any lo a c ps W (hb.below h) hw (by omega) (hm.below h) (hT.below h)
 obtain ⟨R, hR⟩ : ∃ R, stB ps = R := ⟨_, rfl⟩
 have HR : Hid (R = (decide (ps.length ≤ 300) && (ap.asB (ps.map fun y => y.fPath) && ps.all (itB (pths ps))))) := by show _ = _; rw [← hR]; rfl
 have HN : Hid (ap.asB (ps.map fun y => y.fPath) = true → decide ((misN ps ps.length).length = 0) = ps.all (itB (pths ps))) := fun h => mis_nil h
 rw [hR]
 generalize ap.asB (ps.map fun m => m.fPath) = ba at HAS HR HN
 generalize ps.all (itB (pths ps)) = bm at HR HN
 obtain ⟨zs, hzs⟩ : ∃ z, misN ps ps.length = z := ⟨_, rfl⟩
 rw [hzs] at HMI HN
 clear hb hm hT hR hw hzs
 by_cases h3 : ps.length ≤ 300
 ·have h3' : (ps.length : Int) ≤ 300 := by omega
  cases ba with
  | false =>
   have HT : Hid (R = false) := by show _ = _; rw [HR.out]; simp
   go_enter Tryz.func40, Tryz.ntmps40
   go_wp2_with (go_at_call 85; refine (HAS.out _ rfl).mono ?_; rintro e w1 ⟨rfl, hl1⟩)
   go_ret
   exact ⟨ret_bool HT.out.symm, hl1⟩
  | true =>
   have HM2 := Lib.hid (HMI.out h3)
   have HT : Hid (R = decide (zs.length = 0)) := by show _ = _; rw [HN.out rfl, HR.out, decide_eq_true h3]; simp
   clear HMI HN HR
   go_enter Tryz.func40, Tryz.ntmps40
   go_wp2_with (go_at_call 85; refine (HAS.out _ rfl).mono ?_; rintro e w1 ⟨rfl, hl1⟩; refine Hid.out ?_)
   refine Lib.hid ?_
   go_wp2_with (go_at_call 87; refine (HM2.out _ hl1).mono ?_; rintro e w2 ⟨⟨v, rfl, hv⟩, hl2⟩; obtain ⟨vb, vo, vc, rfl, _, _, _⟩ := hv.row)
   go_ret
   exact ⟨ret_bool (by (rw [HT.out]) <;> first | rfl | (rw [Bool.eq_iff_iff]; simp; try omega)), hl1.trans (hl2.mono hl1.size)⟩
 ·have h3' : ¬ (ps.length : Int) ≤ 300 := by omega
  have HT : Hid (R = false) := by show _ = _; rw [HR.out, decide_eq_false h3]; rfl
  go_enter Tryz.func40, Tryz.ntmps40
  go_wp2
  go_ret
  exact ⟨ret_bool HT.out.symm, Below.refl _ _⟩
end Go.Proofs.YtpfnnjfapcnbnaaGreatDoor.so
namespace Go.Proofs.YtpfnnjfapcnbnaaGreatDoor.so
open Go.ChangeShapes Go.WideShapes Go.ChangeAt Go.RowKit Go.Deep Go.Shelf Go.Maps
set_option linter.unusedVariables false
set_option linter.unusedSimpArgs false
def hasB (ps : List ty.It) (p : ByteArray) : Bool := decide (p.data.toList ∈ pths ps)
theorem st_facts {ps : List ty.It} (h : stB ps = true) : ps.length ≤ 300 ∧ ap.asB (ps.map fun y => y.fPath) = true := by
 unfold stB at h
 simp only [Bool.and_eq_true, decide_eq_true_eq] at h
 exact ⟨h.1, h.2.1⟩
noncomputable def cmpI (p q : List UInt8) : Int := if p < q then -1 else if q < p then 1 else 0
theorem cmpI_lt {p q : List UInt8} (h : p < q) : cmpI p q = -1 := by unfold cmpI; rw [if_pos h]
theorem cmpI_gt {p q : List UInt8} (h : q < p) : cmpI p q = 1 := by unfold cmpI; rw [if_neg (fun h2 => List.lt_irrefl _ (List.lt_trans h h2)), if_pos h]
theorem cmpI_eq (p : List UInt8) : cmpI p p = 0 := by unfold cmpI; rw [if_neg (List.lt_irrefl _), if_neg (List.lt_irrefl _)]
theorem lt_triI (p q : List UInt8) : p < q ∨ p = q ∨ q < p := by
 by_cases h : p < q
 ·exact .inl h
 ·by_cases h2 : q < p
  ·exact .inr (.inr h2)
  ·exact .inr (.inl (List.le_antisymm (List.not_lt.1 h2) (List.not_lt.1 h)))
theorem cmpI_zero {p q : List UInt8} : cmpI p q = 0 ↔ p = q := by
 constructor
 ·intro h
  rcases lt_triI p q with h1 | h1 | h1
  ·rw [cmpI_lt h1] at h; cases h
  ·exact h1
  ·rw [cmpI_gt h1] at h; cases h
 ·rintro rfl; exact cmpI_eq _
theorem blI (x y : ByteArray) : Op.bytesLess x.toList y.toList = decide (x.data.toList < y.data.toList) := by rw [ByteArray.toList_eq, ByteArray.toList_eq, Go.Proofs.bytesLess_eq]
theorem nanI_any (p : ByteArray) (w : World) : Calls Tryz.prog 191 #[.string p] w fun e w' => e = .returned (.bool false) ∧ w' = w := by
 go_enter Tryz.func191, Tryz.ntmps191
 go_wp2
 go_ret
 first | exact ⟨rfl, rfl⟩ | exact ⟨by simp, rfl⟩
set_option maxRecDepth 100000 in
theorem cmpI_any (p q : ByteArray) (w : World) : Calls Tryz.prog 164 #[.string p, .string q] w fun e w' => e = .returned (.int .i64 (cmpI p.data.toList q.data.toList)) ∧ w' = w := by
 have HNA : Hid (∀ x W, Calls Tryz.prog 191 #[.string x] W fun e w' => e = .returned (.bool false) ∧ w' = W) := fun x W => nanI_any x W
 obtain ⟨r, hr⟩ : ∃ r, cmpI p.data.toList q.data.toList = r := ⟨_, rfl⟩
 rw [hr]
 have HR : Hid (cmpI p.data.toList q.data.toList = r) := hr
 clear hr
 rcases lt_triI p.data.toList q.data.toList with h | h | h
 ·have h1 : Op.bytesLess p.toList q.toList = true := by rw [blI]; simpa using h
  have e : r = -1 := HR.out.symm.trans (cmpI_lt h)
  subst e
  clear h HR
  go_enter Tryz.func164, Tryz.ntmps164
  go_wp2_with (go_at_call 191; refine (HNA.out _ _).mono ?_; rintro e w1 ⟨rfl, rfl⟩)
  go_ret
  exact ⟨rfl, rfl⟩
 ·have h1 : Op.bytesLess p.toList q.toList = false := by rw [blI, h]; exact decide_eq_false (List.lt_irrefl _)
  have h2 : (p.toList == q.toList) = true := by rw [ByteArray.toList_eq, ByteArray.toList_eq]; simpa using h
  have e : r = 0 := HR.out.symm.trans (by rw [h]; exact cmpI_eq _)
  subst e
  clear h HR
  go_enter Tryz.func164, Tryz.ntmps164
  go_wp2_with (go_at_call 191; refine (HNA.out _ _).mono ?_; rintro e w1 ⟨rfl, rfl⟩)
  go_ret
  exact ⟨rfl, rfl⟩
 ·have h1 : Op.bytesLess p.toList q.toList = false := by rw [blI]; exact decide_eq_false (fun h2 => List.lt_irrefl _ (List.lt_trans h h2))
  have h2 : (p.toList == q.toList) = false := by
   rw [ByteArray.toList_eq, ByteArray.toList_eq, beq_eq_false_iff_ne]
   intro e
   rw [e] at h
   exact List.lt_irrefl _ h
  have e : r = 1 := HR.out.symm.trans (cmpI_gt h)
  subst e
  clear h HR
  go_enter Tryz.func164, Tryz.ntmps164
  go_wp2_with (go_at_call 191; refine (HNA.out _ _).mono ?_; rintro e w1 ⟨rfl, rfl⟩)
  go_ret
  exact ⟨rfl, rfl⟩
set_option maxRecDepth 100000 in
theorem in1_any (p v1 v3 q : ByteArray) (v2 v4 : Value) (w : World) :
  Calls Tryz.prog 163 #[.agg #[.string p, .string v1, v2, .string v3, v4], .string q] w fun e w' => e = .returned (.int .i64 (cmpI p.data.toList q.data.toList)) ∧ Below w.heap.size w w' := by
 have HC : Hid (∀ W, Calls Tryz.prog 164 #[.string p, .string q] W fun e w' => e = .returned (.int .i64 (cmpI p.data.toList q.data.toList)) ∧ w' = W) := fun W => cmpI_any p q W
 obtain ⟨r, hr⟩ : ∃ r, cmpI p.data.toList q.data.toList = r := ⟨_, rfl⟩
 rw [hr] at HC ⊢
 clear hr
 go_enter Tryz.func163, Tryz.ntmps163
 go_wp2_with (go_at_call 164; refine (HC.out _).mono ?_; rintro e w1 ⟨rfl, rfl⟩)
 go_ret
 exact ⟨rfl, (Below.refl _ _).alloc (Nat.le_refl _) _⟩
def ItR (w : World) (a : Option Addr) (ps : List ty.It) : Prop := ∀ (i : Nat) (x : ty.It), ps[i]? = some x → ∃ b o a2 c2 a4 c4, a = some ⟨b, o, none⟩ ∧ w.cell? ⟨b, o + i * 5, none⟩ = some (.string x.fPath) ∧ w.cell? ⟨b, o + i * 5 + 1, none⟩ = some (.string x.fSum) ∧ w.cell? ⟨b, o + i * 5 + 2, none⟩ = some (.slice a2 x.fRefs.length c2) ∧ w.cell? ⟨b, o + i * 5 + 3, none⟩ = some (.string x.fFrom) ∧ w.cell? ⟨b, o + i * 5 + 4, none⟩ = some (.slice a4 x.fTree.length c4)
theorem ItR.of {w W : World} {a : Option Addr} {ps : List ty.It} (h : ty.SrcIt none w a ps) (hb : Below w.heap.size w W) : ItR W a ps := fun i x hx => by
 rcases h.below hb with h | ⟨b, o, e, _, hc⟩
 ·rw [h.2] at hx; simp at hx
 ·obtain ⟨a2, c2, a4, c4, q0, q1, q2, q3, q4, _⟩ := hc i x hx
  exact ⟨b, o, a2, c2, a4, c4, e, q0, q1, q2, q3, q4⟩
structure RkI (ps : List ty.It) (q : List UInt8) (J : Nat) : Prop where
 le : J ≤ ps.length
 lo : ∀ (j : Nat) (y : ty.It), j < J → ps[j]? = some y → y.fPath.data.toList < q
 hi : ∀ (j : Nat) (y : ty.It), J ≤ j → ps[j]? = some y → ¬ y.fPath.data.toList < q
def AscI (ps : List ty.It) : Prop := ∀ (i j : Nat) (x y : ty.It), j < i → ps[j]? = some y → ps[i]? = some x → y.fPath.data.toList < x.fPath.data.toList
theorem mem_pths {ps : List ty.It} {q : List UInt8} : q ∈ pths ps ↔ ∃ (i : Nat) (x : ty.It), ps[i]? = some x ∧ x.fPath.data.toList = q := by
 unfold pths
 rw [List.mem_map]
 constructor
 ·rintro ⟨x, hx, e⟩
  obtain ⟨i, hi⟩ := List.getElem?_of_mem hx
  exact ⟨i, x, hi, e⟩
 ·rintro ⟨i, x, hi, e⟩
  exact ⟨x, List.mem_of_getElem? hi, e⟩
theorem RkI.found {ps : List ty.It} {q : List UInt8} {J : Nat} (h : RkI ps q J) (ha : AscI ps) {x : ty.It} (hx : ps[J]? = some x) : x.fPath.data.toList = q ↔ q ∈ pths ps := by
 rw [mem_pths]
 constructor
 ·intro e; exact ⟨J, x, hx, e⟩
 ·rintro ⟨i, y, hy, e⟩
  rcases Nat.lt_trichotomy i J with h1 | h1 | h1
  ·exact absurd (h.lo i y h1 hy) (by rw [e]; exact List.lt_irrefl _)
  ·subst h1; rw [hx] at hy; cases hy; exact e
  ·have := ha i J y x h1 hx hy
   rw [e] at this
   exact absurd this (h.hi J x (Nat.le_refl _) hx)
theorem RkI.last {ps : List ty.It} {q : List UInt8} {J : Nat} (h : RkI ps q J) (hJ : J = ps.length) : ¬ q ∈ pths ps := by
 rw [mem_pths]
 rintro ⟨i, y, hy, e⟩
 have := h.lo i y (by have := (List.getElem?_eq_some_iff.1 hy).1; omega) hy
 rw [e] at this
 exact List.lt_irrefl _ this
set_option maxHeartbeats 4000000 in
set_option maxRecDepth 100000 in
theorem bsI_any (a : Option Addr) (c : Nat) (ps : List ty.It) (q : ByteArray) (w : World) (hb : ty.SrcIt none w a ps) (hn : ps.length ≤ 300) (hasc : AscI ps) :
  Calls Tryz.prog 162 #[.slice a ps.length c, .string q, .func (.func 163) #[] #[]] w fun e w' => (∃ J : Nat, RkI ps q.data.toList J ∧ e = .returned (.tuple #[.int .i64 (J : Int), .bool (hasB ps q)])) ∧ Below w.heap.size w w' := by
 have HR : Hid (∀ W, Below w.heap.size w W → ItR W a ps) := fun W h => ItR.of hb h
 have HC : Hid (∀ p v1 v3 v2 v4 W, Calls Tryz.prog 163 #[.agg #[.string p, .string v1, v2, .string v3, v4], .string q] W fun e w' => e = .returned (.int .i64 (cmpI p.data.toList q.data.toList)) ∧ Below W.heap.size W w') := fun p v1 v3 v2 v4 W => in1_any p v1 v3 q v2 v4 W
 have HUP : Hid (∀ (i j : Nat) (x y : ty.It), j ≤ i → ps[j]? = some y → ps[i]? = some x → x.fPath.data.toList < q.data.toList → y.fPath.data.toList < q.data.toList) := fun i j x y hji hy hx hlt => by
  rcases Nat.lt_or_ge j i with h | h
  ·exact List.lt_trans (hasc i j x y h hy hx) hlt
  ·obtain rfl : j = i := by omega
   rw [hy] at hx; cases hx; exact hlt
 have HFO : Hid (∀ (J : Nat), RkI ps q.data.toList J → ∀ x, ps[J]? = some x → hasB ps q = decide (x.fPath.data.toList = q.data.toList)) := fun J h x hx => by
  unfold hasB
  exact decide_eq_decide.2 (h.found hasc hx).symm
 have HLA : Hid (∀ (J : Nat), RkI ps q.data.toList J → J = ps.length → hasB ps q = false) := fun J h e => decide_eq_false (h.last e)
 obtain ⟨n, hnn⟩ : ∃ n, ps.length = n := ⟨_, rfl⟩
 have HN : Hid (ps.length = n) := hnn
 obtain ⟨V, hV⟩ : ∃ V, hasB ps q = V := ⟨_, rfl⟩
 rw [hV] at HFO HLA ⊢
 rw [hnn] at hn ⊢
 clear hb hasc hnn hV
 go_enter Tryz.func162, Tryz.ntmps162
 go_wp2
 go_loopw [9, 10, 11] (fun x y _ wr => ∃ lo hi : Nat, x = .int .i64 (lo : Int) ∧ y = .int .i64 (hi : Int) ∧ lo ≤ hi ∧ hi ≤ n ∧ (∀ (j : Nat) (y : ty.It), j < lo → ps[j]? = some y → y.fPath.data.toList < q.data.toList) ∧ (∀ (j : Nat) (y : ty.It), hi ≤ j → ps[j]? = some y → ¬ y.fPath.data.toList < q.data.toList) ∧ Below w.heap.size w wr) (fun x y _ _ => (intOf y - intOf x).toNat)
 case atStart => exact ⟨0, n, rfl, rfl, Nat.zero_le _, Nat.le_refl _, fun j y h => by omega, fun j y h hy => by have := (List.getElem?_eq_some_iff.1 hy).1; have := HN.out; omega, Below.refl _ _⟩
 case round =>
  obtain ⟨lo, hi, rfl, rfl, h1, hhn, hlo, hhi, hbel⟩ := hrel
  have HBE : Hid (Below w.heap.size w wr) := hbel
  have HLO : Hid (∀ (j : Nat) (y : ty.It), j < lo → ps[j]? = some y → y.fPath.data.toList < q.data.toList) := hlo
  have HHI : Hid (∀ (j : Nat) (y : ty.It), hi ≤ j → ps[j]? = some y → ¬ y.fPath.data.toList < q.data.toList) := hhi
  clear hlo hhi
  by_cases hl : lo < hi
  ·have hl' : (lo : Int) < (hi : Int) := by omega
   obtain ⟨m, hm⟩ : ∃ m : Nat, (lo + hi) / 2 = m := ⟨_, rfl⟩
   have hm1 : lo ≤ m := by omega
   have hm2 : m < hi := by omega
   have hmi : ((lo : Int) + (hi : Int)) / 2 = (m : Int) := by omega
   have hm0 : (0 : Int) ≤ (m : Int) := by omega
   have hmn : (m : Int) < (n : Int) := by omega
   obtain ⟨x, hx⟩ : ∃ x, ps[m]? = some x := ⟨_, List.getElem?_eq_getElem (by rw [HN.out]; omega)⟩
   obtain ⟨b, o, a2, c2, a4, c4, rfl, c0, c1, d2, d3, d4⟩ := HR.out wr hbel m x hx
   have HX : Hid (ps[m]? = some x) := hx
   have HCM : Hid (∀ W, Calls Tryz.prog 163 #[.agg #[.string x.fPath, .string x.fSum, .slice a2 x.fRefs.length c2, .string x.fFrom, .slice a4 x.fTree.length c4], .string q] W fun e w' => e = .returned (.int .i64 (cmpI x.fPath.data.toList q.data.toList)) ∧ Below W.heap.size W w') := fun W => HC.out _ _ _ _ _ W
   obtain ⟨P, hP⟩ : ∃ z, x.fPath = z := ⟨_, rfl⟩
   have HPX : Hid (x.fPath = P) := hP
   obtain ⟨z1, hz1⟩ : ∃ z, x.fSum = z := ⟨_, rfl⟩
   obtain ⟨z2, hz2⟩ : ∃ z, x.fRefs.length = z := ⟨_, rfl⟩
   obtain ⟨z3, hz3⟩ : ∃ z, x.fFrom = z := ⟨_, rfl⟩
   obtain ⟨z4, hz4⟩ : ∃ z, x.fTree.length = z := ⟨_, rfl⟩
   rw [hP] at c0 HCM
   rw [hz1] at c1 HCM
   rw [hz2] at d2 HCM
   rw [hz3] at d3 HCM
   rw [hz4] at d4 HCM
   clear hm hx hP hz1 hz2 hz3 hz4 hbel
   by_cases hmJ : P.data.toList < q.data.toList
   ·rw [cmpI_lt hmJ] at HCM
    have HNL : Hid (∀ (j : Nat) (y : ty.It), j < m + 1 → ps[j]? = some y → y.fPath.data.toList < q.data.toList) := fun j y hj hy => HUP.out m j x y (by omega) hy HX.out (by rw [HPX.out]; exact hmJ)
    clear hmJ
    go_wp2_with (go_at_call 163; refine (HCM.out _).mono ?_; rintro e w1 ⟨rfl, hl1⟩)
    go_roundw
    case rel => exact ⟨m + 1, hi, by go_num, by first | rfl | trivial, by omega, hhn, HNL.out, HHI.out, HBE.out.trans (hl1.mono HBE.out.size)⟩
    case measure => simp [intOf] <;> omega
   ·have hnn : ¬ cmpI P.data.toList q.data.toList < 0 := by
     rcases lt_triI P.data.toList q.data.toList with h | h | h
     ·exact absurd h hmJ
     ·rw [h, cmpI_eq]; omega
     ·rw [cmpI_gt h]; omega
    have HNH : Hid (∀ (j : Nat) (y : ty.It), m ≤ j → ps[j]? = some y → ¬ y.fPath.data.toList < q.data.toList) := fun j y hj hy hlt => hmJ (by have := HUP.out j m y x hj HX.out hy hlt; rwa [HPX.out] at this)
    obtain ⟨r, hr⟩ : ∃ r, cmpI P.data.toList q.data.toList = r := ⟨_, rfl⟩
    rw [hr] at HCM hnn
    clear hmJ hr
    go_wp2_with (go_at_call 163; refine (HCM.out _).mono ?_; rintro e w1 ⟨rfl, hl1⟩)
    go_roundw
    case rel => exact ⟨lo, m, by first | rfl | trivial, by first | rfl | trivial | go_num, by omega, by omega, HLO.out, HNH.out, HBE.out.trans (hl1.mono HBE.out.size)⟩
    case measure => simp [intOf] <;> omega
  ·have hl' : ¬ (lo : Int) < (hi : Int) := by omega
   obtain rfl : lo = hi := by omega
   have HRK : Hid (RkI ps q.data.toList lo) := ⟨by have := HN.out; omega, HLO.out, HHI.out⟩
   by_cases hln : lo < n
   ·have hln' : (lo : Int) < (n : Int) := by omega
    have hl0 : (0 : Int) ≤ (lo : Int) := by omega
    obtain ⟨x, hx⟩ : ∃ x, ps[lo]? = some x := ⟨_, List.getElem?_eq_getElem (by rw [HN.out]; omega)⟩
    obtain ⟨b, o, a2, c2, a4, c4, rfl, c0, c1, d2, d3, d4⟩ := HR.out wr hbel lo x hx
    have HVE : Hid (V = decide (cmpI x.fPath.data.toList q.data.toList = 0)) := by
     show _ = _
     rw [HFO.out lo HRK.out x hx]
     exact decide_eq_decide.2 cmpI_zero.symm
    have HCM : Hid (∀ W, Calls Tryz.prog 163 #[.agg #[.string x.fPath, .string x.fSum, .slice a2 x.fRefs.length c2, .string x.fFrom, .slice a4 x.fTree.length c4], .string q] W fun e w' => e = .returned (.int .i64 (cmpI x.fPath.data.toList q.data.toList)) ∧ Below W.heap.size W w') := fun W => HC.out _ _ _ _ _ W
    generalize x.fPath = P at *
    generalize x.fSum = z1 at *
    generalize x.fRefs.length = z2 at *
    generalize x.fFrom = z3 at *
    generalize x.fTree.length = z4 at *
    generalize cmpI P.data.toList q.data.toList = r at *
    clear hx hbel
    go_wp2_with (go_at_call 163; refine (HCM.out _).mono ?_; rintro e w1 ⟨rfl, hl1⟩)
    go_ret2
    exact ⟨⟨lo, HRK.out, by rw [HVE.out]; first | rfl | simp | (congr 3; simp)⟩, HBE.out.trans (hl1.mono HBE.out.size)⟩
   ·have hln' : ¬ (lo : Int) < (n : Int) := by omega
    have HVE : Hid (V = false) := HLA.out lo HRK.out (by have := HN.out; omega)
    clear hbel
    go_wp2
    go_ret2
    exact ⟨⟨lo, HRK.out, by rw [HVE.out]; rfl⟩, HBE.out⟩
set_option maxRecDepth 100000 in
theorem inum_any (a : Option Addr) (c : Nat) (ps : List ty.It) (q : ByteArray) (w : World) (hb : ty.SrcIt none w a ps) (hn : ps.length ≤ 300) (hasc : AscI ps) :
  Calls Tryz.prog 115 #[.slice a ps.length c, .string q] w fun e w' => (∃ J : Nat, RkI ps q.data.toList J ∧ e = .returned (.tuple #[.int .i64 (J : Int), .bool (hasB ps q)])) ∧ Below w.heap.size w w' := by
 have HB : Hid (Calls Tryz.prog 162 #[.slice a ps.length c, .string q, .func (.func 163) #[] #[]] w fun e w' => (∃ J : Nat, RkI ps q.data.toList J ∧ e = .returned (.tuple #[.int .i64 (J : Int), .bool (hasB ps q)])) ∧ Below w.heap.size w w') := bsI_any a c ps q w hb hn hasc
 clear hb hasc
 generalize hasB ps q = V at *
 generalize ps.length = n at *
 go_enter Tryz.func115, Tryz.ntmps115
 go_wp2_with (go_at_call 162; refine HB.out.mono ?_; rintro e w1 ⟨⟨J, hJ, rfl⟩, hl1⟩)
 go_ret2
 exact ⟨⟨J, hJ, rfl⟩, hl1⟩
end Go.Proofs.YtpfnnjfapcnbnaaGreatDoor.so
