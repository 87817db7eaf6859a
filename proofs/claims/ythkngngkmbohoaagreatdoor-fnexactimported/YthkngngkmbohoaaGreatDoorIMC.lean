import Derived.Test.YthkngngkmbohoaaGreatDoorIMA
import Derived.Test.YthkngngkmbohoaaGreatDoorOX
import Derived.Lib.Hide
namespace Go.Proofs.YthkngngkmbohoaaGreatDoor.im
open Go.ChangeShapes Go.WideShapes Go.ChangeAt Go.RowKit Go.Deep Go.Maps
set_option linter.unusedVariables false
set_option linter.unusedSimpArgs false

/-! ### Imported: numbers of modules -/

noncomputable def cmpI (p q : List UInt8) : Int := if p < q then -1 else if q < p then 1 else 0
theorem cmpI_lt {p q : List UInt8} (h : p < q) : cmpI p q = -1 := by unfold cmpI; rw [if_pos h]
theorem cmpI_gt {p q : List UInt8} (h : q < p) : cmpI p q = 1 := by unfold cmpI; rw [if_neg (fun h2 => List.lt_irrefl _ (List.lt_trans h h2)), if_pos h]
theorem cmpI_eq (p : List UInt8) : cmpI p p = 0 := by unfold cmpI; rw [if_neg (List.lt_irrefl _), if_neg (List.lt_irrefl _)]
theorem lt_triI (p q : List UInt8) : p < q ∨ p = q ∨ q < p := by
  by_cases h : p < q
  · exact .inl h
  · by_cases h2 : q < p
    · exact .inr (.inr h2)
    · exact .inr (.inl (List.le_antisymm (List.not_lt.1 h2) (List.not_lt.1 h)))
theorem cmpI_zero {p q : List UInt8} : cmpI p q = 0 ↔ p = q := by
  constructor
  · intro h
    rcases lt_triI p q with h1 | h1 | h1
    · rw [cmpI_lt h1] at h; cases h
    · exact h1
    · rw [cmpI_gt h1] at h; cases h
  · rintro rfl; exact cmpI_eq _
theorem blI (x y : ByteArray) : Op.bytesLess x.toList y.toList = decide (x.data.toList < y.data.toList) := by rw [ByteArray.toList_eq, ByteArray.toList_eq, Go.Proofs.bytesLess_eq]

theorem nanI_any (p : ByteArray) (w : World) : Calls Tryz.prog 83 #[.string p] w fun e w' => e = .returned (.bool false) ∧ w' = w := by
  go_enter Tryz.func83, Tryz.ntmps83
  go_wp2
  go_ret
  first | exact ⟨rfl, rfl⟩ | exact ⟨by simp, rfl⟩

set_option maxRecDepth 100000 in
theorem cmpI_any (p q : ByteArray) (w : World) : Calls Tryz.prog 64 #[.string p, .string q] w fun e w' => e = .returned (.int .i64 (cmpI p.data.toList q.data.toList)) ∧ w' = w := by
  have HNA : Hid (∀ x W, Calls Tryz.prog 83 #[.string x] W fun e w' => e = .returned (.bool false) ∧ w' = W) := fun x W => nanI_any x W
  obtain ⟨r, hr⟩ : ∃ r, cmpI p.data.toList q.data.toList = r := ⟨_, rfl⟩
  rw [hr]
  have HR : Hid (cmpI p.data.toList q.data.toList = r) := hr
  clear hr
  rcases lt_triI p.data.toList q.data.toList with h | h | h
  · have h1 : Op.bytesLess p.toList q.toList = true := by rw [blI]; simpa using h
    have e : r = -1 := HR.out.symm.trans (cmpI_lt h)
    subst e
    clear h HR
    go_enter Tryz.func64, Tryz.ntmps64
    go_wp2_with (go_at_call 83; refine (HNA.out _ _).mono ?_; rintro e w1 ⟨rfl, rfl⟩)
    go_ret
    exact ⟨rfl, rfl⟩
  · have h1 : Op.bytesLess p.toList q.toList = false := by rw [blI, h]; exact decide_eq_false (List.lt_irrefl _)
    have h2 : (p.toList == q.toList) = true := by rw [ByteArray.toList_eq, ByteArray.toList_eq]; simpa using h
    have e : r = 0 := HR.out.symm.trans (by rw [h]; exact cmpI_eq _)
    subst e
    clear h HR
    go_enter Tryz.func64, Tryz.ntmps64
    go_wp2_with (go_at_call 83; refine (HNA.out _ _).mono ?_; rintro e w1 ⟨rfl, rfl⟩)
    go_ret
    exact ⟨rfl, rfl⟩
  · have h1 : Op.bytesLess p.toList q.toList = false := by rw [blI]; exact decide_eq_false (fun h2 => List.lt_irrefl _ (List.lt_trans h h2))
    have h2 : (p.toList == q.toList) = false := by
      rw [ByteArray.toList_eq, ByteArray.toList_eq, beq_eq_false_iff_ne]
      intro e
      rw [e] at h
      exact List.lt_irrefl _ h
    have e : r = 1 := HR.out.symm.trans (cmpI_gt h)
    subst e
    clear h HR
    go_enter Tryz.func64, Tryz.ntmps64
    go_wp2_with (go_at_call 83; refine (HNA.out _ _).mono ?_; rintro e w1 ⟨rfl, rfl⟩)
    go_ret
    exact ⟨rfl, rfl⟩

set_option maxRecDepth 100000 in
theorem in1_any (p q : ByteArray) (v1 v2 v3 : Value) (w : World) :
    Calls Tryz.prog 63 #[.agg #[.string p, v1, v2, v3], .string q] w fun e w' => e = .returned (.int .i64 (cmpI p.data.toList q.data.toList)) ∧ Below w.heap.size w w' := by
  have HC : Hid (∀ W, Calls Tryz.prog 64 #[.string p, .string q] W fun e w' => e = .returned (.int .i64 (cmpI p.data.toList q.data.toList)) ∧ w' = W) := fun W => cmpI_any p q W
  obtain ⟨r, hr⟩ : ∃ r, cmpI p.data.toList q.data.toList = r := ⟨_, rfl⟩
  rw [hr] at HC ⊢
  clear hr
  go_enter Tryz.func63, Tryz.ntmps63
  go_wp2_with (go_at_call 64; refine (HC.out _).mono ?_; rintro e w1 ⟨rfl, rfl⟩)
  go_ret
  exact ⟨rfl, (Below.refl _ _).alloc (Nat.le_refl _) _⟩

/-- What an item is, as it is read. -/
def ItR (w : World) (a : Option Addr) (ps : List ty.Md) : Prop := ∀ (i : Nat) (x : ty.Md), ps[i]? = some x → ∃ b o a2 c2 a3 c3 a4 c4, a = some ⟨b, o, none⟩ ∧ w.cell? ⟨b, o + i * 4, none⟩ = some (.string x.fName) ∧ w.cell? ⟨b, o + i * 4 + 1, none⟩ = some (.slice a2 x.fImports.length c2) ∧ w.cell? ⟨b, o + i * 4 + 2, none⟩ = some (.slice a3 x.fOptions.length c3) ∧ w.cell? ⟨b, o + i * 4 + 3, none⟩ = some (.slice a4 x.fDefs.length c4)
theorem ItR.of {w W : World} {a : Option Addr} {ps : List ty.Md} (h : ty.SrcMd none w a ps) (hb : Below w.heap.size w W) : ItR W a ps := fun i x hx => by
  rcases h.below hb with h | ⟨b, o, e, _, hc⟩
  · rw [h.2] at hx; simp at hx
  · obtain ⟨a2, c2, a3, c3, a4, c4, q0, q1, q2, q3, _⟩ := hc i x hx
    exact ⟨b, o, a2, c2, a3, c3, a4, c4, e, q0, q1, q2, q3⟩

/-- The number of those ahead of a text. -/
structure RkI (ps : List ty.Md) (q : List UInt8) (J : Nat) : Prop where
  le : J ≤ ps.length
  lo : ∀ (j : Nat) (y : ty.Md), j < J → ps[j]? = some y → y.fName.data.toList < q
  hi : ∀ (j : Nat) (y : ty.Md), J ≤ j → ps[j]? = some y → ¬ y.fName.data.toList < q

theorem RkI.num {ps : List ty.Md} {q : List UInt8} {J : Nat} (h : RkI ps q J) (hU : Us ps) {x : ty.Md} (hx : ps[J]? = some x) : decide (x.fName.data.toList = q) = decide (uNo ps q < ps.length) ∧ (x.fName.data.toList = q → uNo ps q = J) := by
  have hJ := (List.getElem?_eq_some_iff.1 hx).1
  have k : x.fName.data.toList = q → uNo ps q = J := fun e => uNo_yes hU hx e
  refine ⟨decide_eq_decide.2 ⟨fun e => by rw [k e]; exact hJ, fun hl => ?_⟩, k⟩
  obtain ⟨y, hy, e⟩ := uNo_get hl
  rcases Nat.lt_trichotomy (uNo ps q) J with h1 | h1 | h1
  · exact absurd (h.lo _ y h1 hy) (by show ¬ nmL y < q; rw [e]; exact List.lt_irrefl _)
  · rw [h1, hx] at hy; cases hy; exact e
  · have h2 := hU.asc _ J y x h1 hx hy
    rw [e] at h2
    exact absurd h2 (h.hi J x (Nat.le_refl _) hx)
theorem RkI.end {ps : List ty.Md} {q : List UInt8} {J : Nat} (h : RkI ps q J) (hJ : J = ps.length) : decide (uNo ps q < ps.length) = false := decide_eq_false fun hl => by
  obtain ⟨y, hy, e⟩ := uNo_get hl
  have := h.lo _ y (by omega) hy
  exact absurd this (by show ¬ nmL y < q; rw [e]; exact List.lt_irrefl _)

set_option maxHeartbeats 4000000 in
set_option maxRecDepth 100000 in
theorem bsI_any (a : Option Addr) (c : Nat) (ps : List ty.Md) (q : ByteArray) (w : World) (hb : ty.SrcMd none w a ps) (hn : ps.length ≤ 100) (hU : Us ps) :
    Calls Tryz.prog 62 #[.slice a ps.length c, .string q, .func (.func 63) #[] #[]] w fun e w' => (∃ J : Nat, RkI ps q.data.toList J ∧ e = .returned (.tuple #[.int .i64 (J : Int), .bool (decide (uNo ps q.data.toList < ps.length))])) ∧ Below w.heap.size w w' := by
  have HR : Hid (∀ W, Below w.heap.size w W → ItR W a ps) := fun W h => ItR.of hb h
  have HC : Hid (∀ p v1 v2 v3 W, Calls Tryz.prog 63 #[.agg #[.string p, v1, v2, v3], .string q] W fun e w' => e = .returned (.int .i64 (cmpI p.data.toList q.data.toList)) ∧ Below W.heap.size W w') := fun p v1 v2 v3 W => in1_any p q v1 v2 v3 W
  have HUP : Hid (∀ (i j : Nat) (x y : ty.Md), j ≤ i → ps[j]? = some y → ps[i]? = some x → x.fName.data.toList < q.data.toList → y.fName.data.toList < q.data.toList) := fun i j x y hji hy hx hlt => by
    rcases Nat.lt_or_ge j i with h | h
    · exact List.lt_trans (hU.asc i j x y h hy hx) hlt
    · obtain rfl : j = i := by omega
      rw [hy] at hx; cases hx; exact hlt
  have HFO : Hid (∀ (J : Nat), RkI ps q.data.toList J → ∀ x, ps[J]? = some x → decide (uNo ps q.data.toList < ps.length) = decide (x.fName.data.toList = q.data.toList)) := fun J h x hx => by
    exact (h.num hU hx).1.symm
  have HLA : Hid (∀ (J : Nat), RkI ps q.data.toList J → J = ps.length → decide (uNo ps q.data.toList < ps.length) = false) := fun J h e => h.end e
  obtain ⟨n, hnn⟩ : ∃ n, ps.length = n := ⟨_, rfl⟩
  have HN : Hid (ps.length = n) := hnn
  obtain ⟨V, hV⟩ : ∃ V, decide (uNo ps q.data.toList < ps.length) = V := ⟨_, rfl⟩
  rw [hV] at HFO HLA ⊢
  rw [hnn] at hn ⊢
  clear hb hnn hV hU
  go_enter Tryz.func62, Tryz.ntmps62
  go_wp2
  go_loopw [9, 10, 11] (fun x y _ wr => ∃ lo hi : Nat, x = .int .i64 (lo : Int) ∧ y = .int .i64 (hi : Int) ∧ lo ≤ hi ∧ hi ≤ n ∧ (∀ (j : Nat) (y : ty.Md), j < lo → ps[j]? = some y → y.fName.data.toList < q.data.toList) ∧ (∀ (j : Nat) (y : ty.Md), hi ≤ j → ps[j]? = some y → ¬ y.fName.data.toList < q.data.toList) ∧ Below w.heap.size w wr) (fun x y _ _ => (intOf y - intOf x).toNat)
  case atStart => exact ⟨0, n, rfl, rfl, Nat.zero_le _, Nat.le_refl _, fun j y h => by omega, fun j y h hy => by have := (List.getElem?_eq_some_iff.1 hy).1; have := HN.out; omega, Below.refl _ _⟩
  case round =>
    obtain ⟨lo, hi, rfl, rfl, h1, hhn, hlo, hhi, hbel⟩ := hrel
    have HBE : Hid (Below w.heap.size w wr) := hbel
    have HLO : Hid (∀ (j : Nat) (y : ty.Md), j < lo → ps[j]? = some y → y.fName.data.toList < q.data.toList) := hlo
    have HHI : Hid (∀ (j : Nat) (y : ty.Md), hi ≤ j → ps[j]? = some y → ¬ y.fName.data.toList < q.data.toList) := hhi
    clear hlo hhi
    by_cases hl : lo < hi
    · have hl' : (lo : Int) < (hi : Int) := by omega
      obtain ⟨m, hm⟩ : ∃ m : Nat, (lo + hi) / 2 = m := ⟨_, rfl⟩
      have hm1 : lo ≤ m := by omega
      have hm2 : m < hi := by omega
      have hmi : ((lo : Int) + (hi : Int)) / 2 = (m : Int) := by omega
      have hm0 : (0 : Int) ≤ (m : Int) := by omega
      have hmn : (m : Int) < (n : Int) := by omega
      obtain ⟨x, hx⟩ : ∃ x, ps[m]? = some x := ⟨_, List.getElem?_eq_getElem (by rw [HN.out]; omega)⟩
      obtain ⟨b, o, a2, c2, a3, c3, a4, c4, rfl, c0, c1, d2, d3⟩ := HR.out wr hbel m x hx
      have HX : Hid (ps[m]? = some x) := hx
      have HCM : Hid (∀ W, Calls Tryz.prog 63 #[.agg #[.string x.fName, .slice a2 x.fImports.length c2, .slice a3 x.fOptions.length c3, .slice a4 x.fDefs.length c4], .string q] W fun e w' => e = .returned (.int .i64 (cmpI x.fName.data.toList q.data.toList)) ∧ Below W.heap.size W w') := fun W => HC.out _ _ _ _ W
      obtain ⟨P, hP⟩ : ∃ z, x.fName = z := ⟨_, rfl⟩
      have HPX : Hid (x.fName = P) := hP
      obtain ⟨z1, hz1⟩ : ∃ z, x.fImports.length = z := ⟨_, rfl⟩
      obtain ⟨z2, hz2⟩ : ∃ z, x.fOptions.length = z := ⟨_, rfl⟩
      obtain ⟨z3, hz3⟩ : ∃ z, x.fDefs.length = z := ⟨_, rfl⟩
      rw [hP] at c0 HCM
      rw [hz1] at c1 HCM
      rw [hz2] at d2 HCM
      rw [hz3] at d3 HCM
      clear hm hx hP hz1 hz2 hz3 hbel
      by_cases hmJ : P.data.toList < q.data.toList
      · rw [cmpI_lt hmJ] at HCM
        have HNL : Hid (∀ (j : Nat) (y : ty.Md), j < m + 1 → ps[j]? = some y → y.fName.data.toList < q.data.toList) := fun j y hj hy => HUP.out m j x y (by omega) hy HX.out (by rw [HPX.out]; exact hmJ)
        clear hmJ
        go_wp2_with (go_at_call 63; refine (HCM.out _).mono ?_; rintro e w1 ⟨rfl, hl1⟩)
        go_roundw
        case rel => exact ⟨m + 1, hi, by go_num, by first | rfl | trivial, by omega, hhn, HNL.out, HHI.out, HBE.out.trans (hl1.mono HBE.out.size)⟩
        case measure => simp [intOf] <;> omega
      · have hnn : ¬ cmpI P.data.toList q.data.toList < 0 := by
          rcases lt_triI P.data.toList q.data.toList with h | h | h
          · exact absurd h hmJ
          · rw [h, cmpI_eq]; omega
          · rw [cmpI_gt h]; omega
        have HNH : Hid (∀ (j : Nat) (y : ty.Md), m ≤ j → ps[j]? = some y → ¬ y.fName.data.toList < q.data.toList) := fun j y hj hy hlt => hmJ (by have := HUP.out j m y x hj HX.out hy hlt; rwa [HPX.out] at this)
        obtain ⟨r, hr⟩ : ∃ r, cmpI P.data.toList q.data.toList = r := ⟨_, rfl⟩
        rw [hr] at HCM hnn
        clear hmJ hr
        go_wp2_with (go_at_call 63; refine (HCM.out _).mono ?_; rintro e w1 ⟨rfl, hl1⟩)
        go_roundw
        case rel => exact ⟨lo, m, by first | rfl | trivial, by first | rfl | trivial | go_num, by omega, by omega, HLO.out, HNH.out, HBE.out.trans (hl1.mono HBE.out.size)⟩
        case measure => simp [intOf] <;> omega
    · have hl' : ¬ (lo : Int) < (hi : Int) := by omega
      obtain rfl : lo = hi := by omega
      have HRK : Hid (RkI ps q.data.toList lo) := ⟨by have := HN.out; omega, HLO.out, HHI.out⟩
      by_cases hln : lo < n
      · have hln' : (lo : Int) < (n : Int) := by omega
        have hl0 : (0 : Int) ≤ (lo : Int) := by omega
        obtain ⟨x, hx⟩ : ∃ x, ps[lo]? = some x := ⟨_, List.getElem?_eq_getElem (by rw [HN.out]; omega)⟩
        obtain ⟨b, o, a2, c2, a3, c3, a4, c4, rfl, c0, c1, d2, d3⟩ := HR.out wr hbel lo x hx
        have HVE : Hid (V = decide (cmpI x.fName.data.toList q.data.toList = 0)) := by
          show _ = _
          rw [HFO.out lo HRK.out x hx]
          exact decide_eq_decide.2 cmpI_zero.symm
        have HCM : Hid (∀ W, Calls Tryz.prog 63 #[.agg #[.string x.fName, .slice a2 x.fImports.length c2, .slice a3 x.fOptions.length c3, .slice a4 x.fDefs.length c4], .string q] W fun e w' => e = .returned (.int .i64 (cmpI x.fName.data.toList q.data.toList)) ∧ Below W.heap.size W w') := fun W => HC.out _ _ _ _ W
        generalize x.fName = P at *
        generalize x.fImports.length = z1 at *
        generalize x.fOptions.length = z2 at *
        generalize x.fDefs.length = z3 at *
        generalize cmpI P.data.toList q.data.toList = r at *
        clear hx hbel
        go_wp2_with (go_at_call 63; refine (HCM.out _).mono ?_; rintro e w1 ⟨rfl, hl1⟩)
        go_ret2
        exact ⟨⟨lo, HRK.out, by rw [HVE.out]; first | rfl | simp | (congr 3; simp)⟩, HBE.out.trans (hl1.mono HBE.out.size)⟩
      · have hln' : ¬ (lo : Int) < (n : Int) := by omega
        have HVE : Hid (V = false) := HLA.out lo HRK.out (by have := HN.out; omega)
        clear hbel
        go_wp2
        go_ret2
        exact ⟨⟨lo, HRK.out, by rw [HVE.out]; rfl⟩, HBE.out⟩


set_option maxRecDepth 100000 in
theorem mnum_any (a : Option Addr) (c : Nat) (ps : List ty.Md) (q : ByteArray) (w : World) (hb : ty.SrcMd none w a ps) (hU : Us ps) :
    Calls Tryz.prog 40 #[.slice a ps.length c, .string q] w fun e w' => (∃ J : Nat, e = .returned (.tuple #[.int .i64 (J : Int), .bool (decide (uNo ps q.data.toList < ps.length))]) ∧ J ≤ ps.length ∧ (decide (uNo ps q.data.toList < ps.length) = true → uNo ps q.data.toList = J)) ∧ Below w.heap.size w w' := by
  have HB : Hid (Calls Tryz.prog 62 #[.slice a ps.length c, .string q, .func (.func 63) #[] #[]] w fun e w' => (∃ J : Nat, RkI ps q.data.toList J ∧ e = .returned (.tuple #[.int .i64 (J : Int), .bool (decide (uNo ps q.data.toList < ps.length))])) ∧ Below w.heap.size w w') := bsI_any a c ps q w hb hU.few hU
  have HJ : Hid (∀ J, RkI ps q.data.toList J → J ≤ ps.length ∧ (decide (uNo ps q.data.toList < ps.length) = true → uNo ps q.data.toList = J)) := fun J h => ⟨h.le, fun e => by
    have hl : uNo ps q.data.toList < ps.length := by simpa using e
    have hJl : J < ps.length := Nat.lt_of_le_of_ne h.le fun e2 => by rw [h.end e2] at e; cases e
    have hx := List.getElem?_eq_getElem hJl
    obtain ⟨k1, k2⟩ := h.num hU hx
    rw [e] at k1
    exact k2 (by simpa using k1)⟩
  clear hb hU
  generalize decide (uNo ps q.data.toList < ps.length) = V at *
  generalize uNo ps q.data.toList = R at *
  generalize ps.length = n at *
  go_enter Tryz.func40, Tryz.ntmps40
  go_wp2_with (go_at_call 62; refine HB.out.mono ?_; rintro e w1 ⟨⟨J, hJ, rfl⟩, hl1⟩)
  go_ret2
  exact ⟨⟨J, rfl, HJ.out J hJ⟩, hl1⟩

end Go.Proofs.YthkngngkmbohoaaGreatDoor.im
