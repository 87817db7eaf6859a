import Derived.Test.YtccnepenfglfoaaGreatFA
import Derived.Test.YtccnepenfglfoaaGreatFI
import Derived.Test.YtccnepenfglfoaaGreatUX
import Derived.Lib.Hide
namespace Go.Proofs.YtccnepenfglfoaaGreat.fa
open Go.ChangeShapes Go.WideShapes Go.ChangeAt Go.RowKit Go.Deep Go.Maps
set_option linter.unusedVariables false
set_option linter.unusedSimpArgs false

/-! ### Failing: numbers of units -/

noncomputable def cmpI (p q : List UInt8) : Int := if p < q then -1 else if q < p then 1 else 0
theorem cmpI_lt {p q : List UInt8} (h : p < q) : cmpI p q = -1 := by unfold cmpI; rw [if_pos h]
theorem cmpI_gt {p q : List UInt8} (h : q < p) : cmpI p q = 1 := by unfold cmpI; rw [if_neg (fun h2 => List.lt_irrefl _ (List.lt_trans h h2)), if_pos h]
theorem cmpI_eq (p : List UInt8) : cmpI p p = 0 := by unfold cmpI; rw [if_neg (List.lt_irrefl _), if_neg (List.lt_irrefl _)]
theorem lt_triI (p q : List UInt8) : p < q ∨ p = q ∨ q < p := by
  by_cases h : p < q
  · exact .inl h
  · by_cases h2 : q < p
    · exact .inr (.inr h2)
    · exact .inr (.inl (List.le_antisymm (List.not_lt.1 h2) (List.not_lt.1 h)))
theorem cmpI_zero {p q : List UInt8} : cmpI p q = 0 ↔ p = q := by
  constructor
  · intro h
    rcases lt_triI p q with h1 | h1 | h1
    · rw [cmpI_lt h1] at h; cases h
    · exact h1
    · rw [cmpI_gt h1] at h; cases h
  · rintro rfl; exact cmpI_eq _
theorem blI (x y : ByteArray) : Op.bytesLess x.toList y.toList = decide (x.data.toList < y.data.toList) := by rw [ByteArray.toList_eq, ByteArray.toList_eq, Go.Proofs.bytesLess_eq]

theorem nanI_any (p : ByteArray) (w : World) : Calls Tryz.prog 77 #[.string p] w fun e w' => e = .returned (.bool false) ∧ w' = w := by
  go_enter Tryz.func77, Tryz.ntmps77
  go_wp2
  go_ret
  first | exact ⟨rfl, rfl⟩ | exact ⟨by simp, rfl⟩

set_option maxRecDepth 100000 in
theorem cmpI_any (p q : ByteArray) (w : World) : Calls Tryz.prog 64 #[.string p, .string q] w fun e w' => e = .returned (.int .i64 (cmpI p.data.toList q.data.toList)) ∧ w' = w := by
  have HNA : Hid (∀ x W, Calls Tryz.prog 77 #[.string x] W fun e w' => e = .returned (.bool false) ∧ w' = W) := fun x W => nanI_any x W
  obtain ⟨r, hr⟩ : ∃ r, cmpI p.data.toList q.data.toList = r := ⟨_, rfl⟩
  rw [hr]
  have HR : Hid (cmpI p.data.toList q.data.toList = r) := hr
  clear hr
  rcases lt_triI p.data.toList q.data.toList with h | h | h
  · have h1 : Op.bytesLess p.toList q.toList = true := by rw [blI]; simpa using h
    have e : r = -1 := HR.out.symm.trans (cmpI_lt h)
    subst e
    clear h HR
    go_enter Tryz.func64, Tryz.ntmps64
    go_wp2_with (go_at_call 77; refine (HNA.out _ _).mono ?_; rintro e w1 ⟨rfl, rfl⟩)
    go_ret
    exact ⟨rfl, rfl⟩
  · have h1 : Op.bytesLess p.toList q.toList = false := by rw [blI, h]; exact decide_eq_false (List.lt_irrefl _)
    have h2 : (p.toList == q.toList) = true := by rw [ByteArray.toList_eq, ByteArray.toList_eq]; simpa using h
    have e : r = 0 := HR.out.symm.trans (by rw [h]; exact cmpI_eq _)
    subst e
    clear h HR
    go_enter Tryz.func64, Tryz.ntmps64
    go_wp2_with (go_at_call 77; refine (HNA.out _ _).mono ?_; rintro e w1 ⟨rfl, rfl⟩)
    go_ret
    exact ⟨rfl, rfl⟩
  · have h1 : Op.bytesLess p.toList q.toList = false := by rw [blI]; exact decide_eq_false (fun h2 => List.lt_irrefl _ (List.lt_trans h h2))
    have h2 : (p.toList == q.toList) = false := by
      rw [ByteArray.toList_eq, ByteArray.toList_eq, beq_eq_false_iff_ne]
      intro e
      rw [e] at h
      exact List.lt_irrefl _ h
    have e : r = 1 := HR.out.symm.trans (cmpI_gt h)
    subst e
    clear h HR
    go_enter Tryz.func64, Tryz.ntmps64
    go_wp2_with (go_at_call 77; refine (HNA.out _ _).mono ?_; rintro e w1 ⟨rfl, rfl⟩)
    go_ret
    exact ⟨rfl, rfl⟩

set_option maxRecDepth 100000 in
theorem in1_any (p v3 q : ByteArray) (v1 v2 : Value) (v4 : Bool) (w : World) :
    Calls Tryz.prog 63 #[.agg #[.string p, v1, v2, .string v3, .bool v4], .string q] w fun e w' => e = .returned (.int .i64 (cmpI p.data.toList q.data.toList)) ∧ Below w.heap.size w w' := by
  have HC : Hid (∀ W, Calls Tryz.prog 64 #[.string p, .string q] W fun e w' => e = .returned (.int .i64 (cmpI p.data.toList q.data.toList)) ∧ w' = W) := fun W => cmpI_any p q W
  obtain ⟨r, hr⟩ : ∃ r, cmpI p.data.toList q.data.toList = r := ⟨_, rfl⟩
  rw [hr] at HC ⊢
  clear hr
  go_enter Tryz.func63, Tryz.ntmps63
  go_wp2_with (go_at_call 64; refine (HC.out _).mono ?_; rintro e w1 ⟨rfl, rfl⟩)
  go_ret
  exact ⟨rfl, (Below.refl _ _).alloc (Nat.le_refl _) _⟩

/-- What an item is, as it is read. -/
def ItR (w : World) (a : Option Addr) (ps : List ty.Un) : Prop := ∀ (i : Nat) (x : ty.Un), ps[i]? = some x → ∃ b o a2 c2 a4 c4, a = some ⟨b, o, none⟩ ∧ w.cell? ⟨b, o + i * 5, none⟩ = some (.string x.fName) ∧ w.cell? ⟨b, o + i * 5 + 1, none⟩ = some (.slice a2 x.fAfter.length c2) ∧ w.cell? ⟨b, o + i * 5 + 2, none⟩ = some (.slice a4 x.fNeeds.length c4) ∧ w.cell? ⟨b, o + i * 5 + 3, none⟩ = some (.string x.fExec) ∧ w.cell? ⟨b, o + i * 5 + 4, none⟩ = some (.bool x.fKeep)
theorem ItR.of {w W : World} {a : Option Addr} {ps : List ty.Un} (h : ty.SrcUn none w a ps) (hb : Below w.heap.size w W) : ItR W a ps := fun i x hx => by
  rcases h.below hb with h | ⟨b, o, e, _, hc⟩
  · rw [h.2] at hx; simp at hx
  · obtain ⟨a2, c2, a4, c4, q0, q1, q2, q3, q4, _⟩ := hc i x hx
    exact ⟨b, o, a2, c2, a4, c4, e, q0, q1, q2, q3, q4⟩

/-- The number of those ahead of a text. -/
structure RkI (ps : List ty.Un) (q : List UInt8) (J : Nat) : Prop where
  le : J ≤ ps.length
  lo : ∀ (j : Nat) (y : ty.Un), j < J → ps[j]? = some y → y.fName.data.toList < q
  hi : ∀ (j : Nat) (y : ty.Un), J ≤ j → ps[j]? = some y → ¬ y.fName.data.toList < q

theorem RkI.num {ps : List ty.Un} {q : List UInt8} {J : Nat} (h : RkI ps q J) (hU : Us ps) {x : ty.Un} (hx : ps[J]? = some x) : decide (x.fName.data.toList = q) = decide (uNo ps q < ps.length) ∧ (x.fName.data.toList = q → uNo ps q = J) := by
  have hJ := (List.getElem?_eq_some_iff.1 hx).1
  have k : x.fName.data.toList = q → uNo ps q = J := fun e => uNo_yes hU hx e
  refine ⟨decide_eq_decide.2 ⟨fun e => by rw [k e]; exact hJ, fun hl => ?_⟩, k⟩
  obtain ⟨y, hy, e⟩ := uNo_get hl
  rcases Nat.lt_trichotomy (uNo ps q) J with h1 | h1 | h1
  · exact absurd (h.lo _ y h1 hy) (by show ¬ nmL y < q; rw [e]; exact List.lt_irrefl _)
  · rw [h1, hx] at hy; cases hy; exact e
  · have h2 := hU.asc _ J y x h1 hx hy
    rw [e] at h2
    exact absurd h2 (h.hi J x (Nat.le_refl _) hx)
theorem RkI.end {ps : List ty.Un} {q : List UInt8} {J : Nat} (h : RkI ps q J) (hJ : J = ps.length) : decide (uNo ps q < ps.length) = false := decide_eq_false fun hl => by
  obtain ⟨y, hy, e⟩ := uNo_get hl
  have := h.lo _ y (by omega) hy
  exact absurd this (by show ¬ nmL y < q; rw [e]; exact List.lt_irrefl _)

set_option maxHeartbeats 4000000 in
set_option maxRecDepth 100000 in
theorem bsI_any (a : Option Addr) (c : Nat) (ps : List ty.Un) (q : ByteArray) (w : World) (hb : ty.SrcUn none w a ps) (hn : ps.length ≤ 100) (hU : Us ps) :
    Calls Tryz.prog 62 #[.slice a ps.length c, .string q, .func (.func 63) #[] #[]] w fun e w' => (∃ J : Nat, RkI ps q.data.toList J ∧ e = .returned (.tuple #[.int .i64 (J : Int), .bool (decide (uNo ps q.data.toList < ps.length))])) ∧ Below w.heap.size w w' := by
  have HR : Hid (∀ W, Below w.heap.size w W → ItR W a ps) := fun W h => ItR.of hb h
  have HC : Hid (∀ p v3 v1 v2 v4 W, Calls Tryz.prog 63 #[.agg #[.string p, v1, v2, .string v3, .bool v4], .string q] W fun e w' => e = .returned (.int .i64 (cmpI p.data.toList q.data.toList)) ∧ Below W.heap.size W w') := fun p v3 v1 v2 v4 W => in1_any p v3 q v1 v2 v4 W
  have HUP : Hid (∀ (i j : Nat) (x y : ty.Un), j ≤ i → ps[j]? = some y → ps[i]? = some x → x.fName.data.toList < q.data.toList → y.fName.data.toList < q.data.toList) := fun i j x y hji hy hx hlt => by
    rcases Nat.lt_or_ge j i with h | h
    · exact List.lt_trans (hU.asc i j x y h hy hx) hlt
    · obtain rfl : j = i := by omega
      rw [hy] at hx; cases hx; exact hlt
  have HFO : Hid (∀ (J : Nat), RkI ps q.data.toList J → ∀ x, ps[J]? = some x → decide (uNo ps q.data.toList < ps.length) = decide (x.fName.data.toList = q.data.toList)) := fun J h x hx => by
    exact (h.num hU hx).1.symm
  have HLA : Hid (∀ (J : Nat), RkI ps q.data.toList J → J = ps.length → decide (uNo ps q.data.toList < ps.length) = false) := fun J h e => h.end e
  obtain ⟨n, hnn⟩ : ∃ n, ps.length = n := ⟨_, rfl⟩
  have HN : Hid (ps.length = n) := hnn
  obtain ⟨V, hV⟩ : ∃ V, decide (uNo ps q.data.toList < ps.length) = V := ⟨_, rfl⟩
  rw [hV] at HFO HLA ⊢
  rw [hnn] at hn ⊢
  clear hb hnn hV hU
  go_enter Tryz.func62, Tryz.ntmps62
  go_wp2
  go_loopw [9, 10, 11] (fun x y _ wr => ∃ lo hi : Nat, x = .int .i64 (lo : Int) ∧ y = .int .i64 (hi : Int) ∧ lo ≤ hi ∧ hi ≤ n ∧ (∀ (j : Nat) (y : ty.Un), j < lo → ps[j]? = some y → y.fName.data.toList < q.data.toList) ∧ (∀ (j : Nat) (y : ty.Un), hi ≤ j → ps[j]? = some y → ¬ y.fName.data.toList < q.data.toList) ∧ Below w.heap.size w wr) (fun x y _ _ => (intOf y - intOf x).toNat)
  case atStart => exact ⟨0, n, rfl, rfl, Nat.zero_le _, Nat.le_refl _, fun j y h => by omega, fun j y h hy => by have := (List.getElem?_eq_some_iff.1 hy).1; have := HN.out; omega, Below.refl _ _⟩
  case round =>
    obtain ⟨lo, hi, rfl, rfl, h1, hhn, hlo, hhi, hbel⟩ := hrel
    have HBE : Hid (Below w.heap.size w wr) := hbel
    have HLO : Hid (∀ (j : Nat) (y : ty.Un), j < lo → ps[j]? = some y → y.fName.data.toList < q.data.toList) := hlo
    have HHI : Hid (∀ (j : Nat) (y : ty.Un), hi ≤ j → ps[j]? = some y → ¬ y.fName.data.toList < q.data.toList) := hhi
    clear hlo hhi
    by_cases hl : lo < hi
    · have hl' : (lo : Int) < (hi : Int) := by omega
      obtain ⟨m, hm⟩ : ∃ m : Nat, (lo + hi) / 2 = m := ⟨_, rfl⟩
      have hm1 : lo ≤ m := by omega
      have hm2 : m < hi := by omega
      have hmi : ((lo : Int) + (hi : Int)) / 2 = (m : Int) := by omega
      have hm0 : (0 : Int) ≤ (m : Int) := by omega
      have hmn : (m : Int) < (n : Int) := by omega
      obtain ⟨x, hx⟩ : ∃ x, ps[m]? = some x := ⟨_, List.getElem?_eq_getElem (by rw [HN.out]; omega)⟩
      obtain ⟨b, o, a2, c2, a4, c4, rfl, c0, c1, d2, d3, d4⟩ := HR.out wr hbel m x hx
      have HX : Hid (ps[m]? = some x) := hx
      have HCM : Hid (∀ W, Calls Tryz.prog 63 #[.agg #[.string x.fName, .slice a2 x.fAfter.length c2, .slice a4 x.fNeeds.length c4, .string x.fExec, .bool x.fKeep], .string q] W fun e w' => e = .returned (.int .i64 (cmpI x.fName.data.toList q.data.toList)) ∧ Below W.heap.size W w') := fun W => HC.out _ _ _ _ _ W
      obtain ⟨P, hP⟩ : ∃ z, x.fName = z := ⟨_, rfl⟩
      have HPX : Hid (x.fName = P) := hP
      obtain ⟨z1, hz1⟩ : ∃ z, x.fAfter.length = z := ⟨_, rfl⟩
      obtain ⟨z2, hz2⟩ : ∃ z, x.fNeeds.length = z := ⟨_, rfl⟩
      obtain ⟨z3, hz3⟩ : ∃ z, x.fExec = z := ⟨_, rfl⟩
      obtain ⟨z4, hz4⟩ : ∃ z, x.fKeep = z := ⟨_, rfl⟩
      rw [hP] at c0 HCM
      rw [hz1] at c1 HCM
      rw [hz2] at d2 HCM
      rw [hz3] at d3 HCM
      rw [hz4] at d4 HCM
      clear hm hx hP hz1 hz2 hz3 hz4 hbel
      by_cases hmJ : P.data.toList < q.data.toList
      · rw [cmpI_lt hmJ] at HCM
        have HNL : Hid (∀ (j : Nat) (y : ty.Un), j < m + 1 → ps[j]? = some y → y.fName.data.toList < q.data.toList) := fun j y hj hy => HUP.out m j x y (by omega) hy HX.out (by rw [HPX.out]; exact hmJ)
        clear hmJ
        go_wp2_with (go_at_call 63; refine (HCM.out _).mono ?_; rintro e w1 ⟨rfl, hl1⟩)
        go_roundw
        case rel => exact ⟨m + 1, hi, by go_num, by first | rfl | trivial, by omega, hhn, HNL.out, HHI.out, HBE.out.trans (hl1.mono HBE.out.size)⟩
        case measure => simp [intOf] <;> omega
      · have hnn : ¬ cmpI P.data.toList q.data.toList < 0 := by
          rcases lt_triI P.data.toList q.data.toList with h | h | h
          · exact absurd h hmJ
          · rw [h, cmpI_eq]; omega
          · rw [cmpI_gt h]; omega
        have HNH : Hid (∀ (j : Nat) (y : ty.Un), m ≤ j → ps[j]? = some y → ¬ y.fName.data.toList < q.data.toList) := fun j y hj hy hlt => hmJ (by have := HUP.out j m y x hj HX.out hy hlt; rwa [HPX.out] at this)
        obtain ⟨r, hr⟩ : ∃ r, cmpI P.data.toList q.data.toList = r := ⟨_, rfl⟩
        rw [hr] at HCM hnn
        clear hmJ hr
        go_wp2_with (go_at_call 63; refine (HCM.out _).mono ?_; rintro e w1 ⟨rfl, hl1⟩)
        go_roundw
        case rel => exact ⟨lo, m, by first | rfl | trivial, by first | rfl | trivial | go_num, by omega, by omega, HLO.out, HNH.out, HBE.out.trans (hl1.mono HBE.out.size)⟩
        case measure => simp [intOf] <;> omega
    · have hl' : ¬ (lo : Int) < (hi : Int) := by omega
      obtain rfl : lo = hi := by omega
      have HRK : Hid (RkI ps q.data.toList lo) := ⟨by have := HN.out; omega, HLO.out, HHI.out⟩
      by_cases hln : lo < n
      · have hln' : (lo : Int) < (n : Int) := by omega
        have hl0 : (0 : Int) ≤ (lo : Int) := by omega
        obtain ⟨x, hx⟩ : ∃ x, ps[lo]? = some x := ⟨_, List.getElem?_eq_getElem (by rw [HN.out]; omega)⟩
        obtain ⟨b, o, a2, c2, a4, c4, rfl, c0, c1, d2, d3, d4⟩ := HR.out wr hbel lo x hx
        have HVE : Hid (V = decide (cmpI x.fName.data.toList q.data.toList = 0)) := by
          show _ = _
          rw [HFO.out lo HRK.out x hx]
          exact decide_eq_decide.2 cmpI_zero.symm
        have HCM : Hid (∀ W, Calls Tryz.prog 63 #[.agg #[.string x.fName, .slice a2 x.fAfter.length c2, .slice a4 x.fNeeds.length c4, .string x.fExec, .bool x.fKeep], .string q] W fun e w' => e = .returned (.int .i64 (cmpI x.fName.data.toList q.data.toList)) ∧ Below W.heap.size W w') := fun W => HC.out _ _ _ _ _ W
        generalize x.fName = P at *
        generalize x.fAfter.length = z1 at *
        generalize x.fNeeds.length = z2 at *
        generalize x.fExec = z3 at *
        generalize x.fKeep = z4 at *
        generalize cmpI P.data.toList q.data.toList = r at *
        clear hx hbel
        go_wp2_with (go_at_call 63; refine (HCM.out _).mono ?_; rintro e w1 ⟨rfl, hl1⟩)
        go_ret2
        exact ⟨⟨lo, HRK.out, by rw [HVE.out]; first | rfl | simp | (congr 3; simp)⟩, HBE.out.trans (hl1.mono HBE.out.size)⟩
      · have hln' : ¬ (lo : Int) < (n : Int) := by omega
        have HVE : Hid (V = false) := HLA.out lo HRK.out (by have := HN.out; omega)
        clear hbel
        go_wp2
        go_ret2
        exact ⟨⟨lo, HRK.out, by rw [HVE.out]; rfl⟩, HBE.out⟩

set_option maxRecDepth 100000 in
theorem unum_any (a : Option Addr) (c : Nat) (ps : List ty.Un) (q : ByteArray) (w : World) (hb : ty.SrcUn none w a ps) (hn : ps.length ≤ 100) (hU : Us ps) :
    Calls Tryz.prog 47 #[.slice a ps.length c, .string q] w fun e w' => e = .returned (.int .i64 ((uNo ps q.data.toList : Nat) : Int)) ∧ Below w.heap.size w w' := by
  have HB : Hid (Calls Tryz.prog 62 #[.slice a ps.length c, .string q, .func (.func 63) #[] #[]] w fun e w' => (∃ J : Nat, RkI ps q.data.toList J ∧ e = .returned (.tuple #[.int .i64 (J : Int), .bool (decide (uNo ps q.data.toList < ps.length))])) ∧ Below w.heap.size w w') := bsI_any a c ps q w hb hn hU
  have HJ : Hid (∀ J, RkI ps q.data.toList J → decide (uNo ps q.data.toList < ps.length) = true → uNo ps q.data.toList = J) := fun J h e => by
    have hl : uNo ps q.data.toList < ps.length := by simpa using e
    have hJl : J < ps.length := Nat.lt_of_le_of_ne h.le fun e2 => by rw [h.end e2] at e; cases e
    have hx := List.getElem?_eq_getElem hJl
    obtain ⟨k1, k2⟩ := h.num hU hx
    rw [e] at k1
    exact k2 (by simpa using k1)
  have HL : Hid (decide (uNo ps q.data.toList < ps.length) = false → uNo ps q.data.toList = ps.length) := fun h => by
    have := uNo_le ps q.data.toList
    have h2 : ¬ uNo ps q.data.toList < ps.length := by simpa using h
    omega
  clear hb hU
  generalize decide (uNo ps q.data.toList < ps.length) = V at *
  generalize uNo ps q.data.toList = R at *
  generalize ps.length = n at *
  cases V with
  | false =>
    obtain rfl := HL.out rfl
    go_enter Tryz.func47, Tryz.ntmps47
    go_wp2_with (go_at_call 62; refine HB.out.mono ?_; rintro e w1 ⟨⟨J, hJ, rfl⟩, hl1⟩)
    go_ret
    exact ⟨rfl, hl1⟩
  | true =>
    go_enter Tryz.func47, Tryz.ntmps47
    go_wp2_with (go_at_call 62; refine HB.out.mono ?_; rintro e w1 ⟨⟨J, hJ, rfl⟩, hl1⟩; have hRJ := HJ.out J hJ rfl)
    go_ret
    exact ⟨by rw [hRJ]; first | done | rfl, hl1⟩

/-- A row of numbers that is new. -/
theorem ib_zero (w : World) : fi.Ib w.heap.size (w.alloc (.cells #[] 3)) w.heap.size 0 0 [] := ⟨Nat.le_refl _, by simp, fun j hj => by simp at hj, fun j hj => by omega, Nat.le_refl _, Nat.zero_le _⟩
theorem new_one (w : World) (x : Nat) : ∀ j u, (fi.nV [x])[j]? = some u → (w.alloc (.cells #[.int .i64 (x : Int)] 3)).cell? ((⟨w.heap.size, 0, none⟩ : Addr).add j) = some u := by
  intro j u h
  match j, h with
  | 0, h =>
    simp only [fi.nV, List.map_cons, List.map_nil, List.getElem?_cons_zero, Option.some.injEq] at h
    subst h
    simp [Addr.add]
  | j + 1, h => simp [fi.nV] at h
/-- An append of one number, as an operation in a row. -/
theorem app_one {w : World} {ops : Array Oper} {rest : List Oper} {o : Oper} {a : Act} {Q : Exit → Act → World → Prop} (hgd : o.guard = none) (s y : Operand) (ho : o.op = .call { callee := .builtin .append, args := #[s, y], argTypes := #[48, 48] })
    {base g of cap : Nat} {l m : List Nat} {ad : Addr} {c : Nat} (hs : a.eval s = .slice (some ⟨g, of, none⟩) l.length cap) (hx : a.eval y = .slice (some ad) m.length c) (h : fi.Ib base w g of cap l) (hB : base ≤ w.heap.size) (hm : ∀ j u, (fi.nV m)[j]? = some u → w.cell? (ad.add j) = some u) (hz : l.length + m.length ≤ 1099511627)
    (k : ∀ g' o' cap' w', fi.Ap base w g w' g' o' cap' (l ++ m) → wpList Tryz.prog ops Q rest (a.put o.dst (.slice (some ⟨g', o', none⟩) (l ++ m).length cap')) w') : wpList Tryz.prog ops Q (o :: rest) a w := by
  obtain ⟨g', o', cap', w', hr, hA⟩ := fi.run_ints h hB ad c hm hz
  refine wpList_plain hgd fun K hK => ?_
  unfold Oper.wp execOp
  simp only [ho, resolve, invoke, builtin, Sem.run_bind, Sem.run_pure, Result.andThen_ok, List.map_toArray, List.map_cons, List.map_nil, hs, hx, hr o.type]
  exact hK _ _ (k g' o' cap' w' hA)

set_option maxRecDepth 100000 in
set_option maxHeartbeats 4000000 in
theorem needed_any (md : Option Nat) (a : Option Addr) (c : Nat) (us : List ty.Un) (u : ty.Un) (d1 : Value) (d2 : Option Addr) (e2 : Nat) (w : World) (hb : ty.SrcUn md w a us) (hU : Us us) (hu : u ∈ us) (hc : ∀ (k : Nat) (m : ByteArray), u.fNeeds[k]? = some m → ∃ nb no, d2 = some ⟨nb, no, none⟩ ∧ w.cell? ⟨nb, no + k, none⟩ = some (.string m)) :
    Calls Tryz.prog 78 #[.slice a us.length c, .agg #[.string u.fName, d1, .slice d2 u.fNeeds.length e2, .string u.fExec, .bool u.fKeep]] w fun e w' => (∃ g o cap, e = .returned (.slice (some ⟨g, o, none⟩) (nds us u).length cap) ∧ fi.Ib w.heap.size w' g o cap (nds us u)) ∧ Below w.heap.size w w' := by
  have HNU : Hid (∀ (q : ByteArray) W, Below w.heap.size w W → Calls Tryz.prog 47 #[.slice a us.length c, .string q] W fun e w' => e = .returned (.int .i64 ((uNo us q.data.toList : Nat) : Int)) ∧ Below W.heap.size W w') := fun q W h => unum_any a c us q W (hb.any.below h) hU.few hU
  have HC : Hid (∀ (k : Nat) (m : ByteArray), u.fNeeds[k]? = some m → ∀ W, Below w.heap.size w W → ∃ nb no, d2 = some ⟨nb, no, none⟩ ∧ W.cell? ⟨nb, no + k, none⟩ = some (.string m)) := fun k m h W hW => by
    obtain ⟨nb, no, e, h1⟩ := hc k m h
    exact ⟨nb, no, e, (hW.cell (p := ⟨nb, no + k, none⟩) (World.block_lt_of_cell? _ _ h1)).trans h1⟩
  have hnl := hU.nds u hu
  have HND : Hid (∀ (k : Nat) (m : ByteArray), u.fNeeds[k]? = some m → (nds us u).take (k + 1) = (nds us u).take k ++ [uNo us m.data.toList]) := fun k m h => by
    rw [List.take_add_one]
    unfold nds
    rw [List.getElem?_map, h]
    rfl
  have HNL : Hid ((nds us u).length = u.fNeeds.length) := nds_len us u
  obtain ⟨m, hm⟩ : ∃ m, u.fNeeds.length = m := ⟨_, rfl⟩
  have HM : Hid (u.fNeeds.length = m) := hm
  rw [hm] at hnl HNL ⊢
  have HTL : Hid (∀ k, k ≤ m → ((nds us u).take k).length = k) := fun k hk => by rw [List.length_take, HNL.out]; omega
  obtain ⟨P, hP⟩ : ∃ P, u.fName = P := ⟨_, rfl⟩
  obtain ⟨xe, hxe⟩ : ∃ q, u.fExec = q := ⟨_, rfl⟩
  obtain ⟨kp, hkp⟩ : ∃ q, u.fKeep = q := ⟨_, rfl⟩
  rw [hP, hxe, hkp]
  obtain ⟨W0, hW0⟩ : ∃ W0, W0 = (w.alloc (.cells #[.string P, d1, .slice d2 m e2, .string xe, .bool kp] 53)).alloc (.cells #[] 3) := ⟨_, rfl⟩
  have HW0 : Hid (W0 = (w.alloc (.cells #[.string P, d1, .slice d2 m e2, .string xe, .bool kp] 53)).alloc (.cells #[] 3)) := hW0
  have HB0 : Hid (Below w.heap.size w W0) := by show Below _ _ _; rw [hW0]; exact ((Below.refl _ _).alloc (Nat.le_refl _) _).alloc (by simp) _
  have HI0 : Hid (fi.Ib w.heap.size W0 (w.heap.size + 1) 0 0 []) := by
    have h := ib_zero (w.alloc (.cells #[.string P, d1, .slice d2 m e2, .string xe, .bool kp] 53))
    rw [← hW0, show (w.alloc (.cells #[.string P, d1, .slice d2 m e2, .string xe, .bool kp] 53)).heap.size = w.heap.size + 1 by simp] at h
    exact ⟨by omega, h.lt, h.cells, h.spare, h.le, h.max⟩
  clear hb hU hu hc hm hP hxe hkp hW0
  go_enter Tryz.func78, Tryz.ntmps78
  go_wp2
  rw [← HW0.out]
  go_loopw [5, 7, 12] (fun v _ y wr => ∃ k g o cap : Nat, k ≤ m ∧ y = .int .i64 (k : Int) ∧ v = .slice (some ⟨g, o, none⟩) k cap ∧ fi.Ib w.heap.size wr g o cap ((nds us u).take k) ∧ Below w.heap.size w wr) (fun _ _ y _ => m - (intOf y).toNat)
  case atStart => exact ⟨0, w.heap.size + 1, 0, 0, Nat.zero_le _, rfl, rfl, HI0.out, HB0.out⟩
  case round =>
    obtain ⟨k, g, o, cap, hk, rfl, rfl, hib, hbel⟩ := hrel
    have HIB : Hid (fi.Ib w.heap.size wr g o cap ((nds us u).take k)) := hib
    have HBE : Hid (Below w.heap.size w wr) := hbel
    clear hib
    by_cases hkl : k < m
    · have hkl' : (k : Int) < (m : Int) := by omega
      have hk0 : (0 : Int) ≤ (k : Int) := by omega
      obtain ⟨t, ht⟩ : ∃ t, u.fNeeds[k]? = some t := ⟨_, List.getElem?_eq_getElem (by rw [HM.out]; exact hkl)⟩
      obtain ⟨nb, no, hd2, ct⟩ := HC.out k t ht wr hbel
      subst hd2
      have HTK := Lib.hid (HND.out k t ht)
      have HNT := Lib.hid (HNU.out t wr hbel)
      have HLK := Lib.hid (HTL.out k hk)
      clear ht hbel
      generalize uNo us t.data.toList = R at *
      go_wp2_with (go_at_call 47; refine HNT.out.mono ?_; rintro e w2 ⟨rfl, hl2⟩; refine Hid.out ?_)
      refine Lib.hid ?_
      have HA2 : Hid (Below w2.heap.size w2 (w2.alloc (.cells #[.int .i64 (R : Int)] 3))) := (Below.refl _ _).alloc (Nat.le_refl _) _
      have HI2 := Lib.hid ((HIB.out.below hl2).below HA2.out)
      have HB2 := Lib.hid ((HBE.out.trans (hl2.mono HBE.out.size)).trans (HA2.out.mono (HBE.out.trans (hl2.mono HBE.out.size)).size))
      have HSL : Hid (∀ c, (Value.slice (some ⟨g, o, none⟩) k c) = .slice (some ⟨g, o, none⟩) ((nds us u).take k).length c) := fun c => by rw [HLK.out]
      clear hl2
      go_wp2_with (at_builtin; refine app_one (base := w.heap.size) (l := (nds us u).take k) (m := [R]) (ad := ⟨w2.heap.size, 0, none⟩) (c := 1) (g := g) (of := o) (cap := cap) rfl _ _ rfl (HSL.out _) rfl HI2.out (by have := HB2.out.size; omega) (new_one w2 R) (by rw [HLK.out]; simp; omega) ?_; intro g3 o3 cap3 w3 hA3; refine Hid.out ?_)
      refine Lib.hid ?_
      have HI3 : Hid (fi.Ib w.heap.size w3 g3 o3 cap3 ((nds us u).take (k + 1))) := by show fi.Ib _ _ _ _ _ _; rw [HTK.out]; exact hA3.ib
      have HB3 := Lib.hid (HB2.out.trans (hA3.bel HIB.out.new HB2.out.size))
      have HLE : Hid (min k (nds us u).length + 1 = k + 1) := by show _ = _; rw [HNL.out]; omega
      clear hA3
      rw [HLE.out]
      go_wp2
      go_roundw
      case rel => exact ⟨k + 1, g3, o3, cap3, by omega, by go_num, by first | rfl | trivial, HI3.out, HB3.out⟩
      case measure => simp [intOf]; omega
    · have hkl' : ¬ (k : Int) < (m : Int) := by omega
      obtain rfl : k = m := by omega
      have HI4 : Hid (fi.Ib w.heap.size wr g o cap (nds us u)) := by
        have h := HIB.out
        rw [List.take_of_length_le (by rw [HNL.out]; exact Nat.le_refl _)] at h
        exact h
      clear hbel
      go_wp2
      go_ret
      exact ⟨⟨g, o, cap, by rw [HNL.out]; first | done | rfl, HI4.out⟩, HBE.out⟩

end Go.Proofs.YtccnepenfglfoaaGreat.fa
