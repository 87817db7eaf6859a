import Derived.Test.YtihjdggmmmlpkaaDoorPB
import Derived.Test.YtihjdggmmmlpkaaDoorKC
namespace Go.Proofs.YtihjdggmmmlpkaaDoor.pf
open Go.ChangeShapes Go.WideShapes Go.ChangeAt Go.RowKit Go.Deep Go.Maps
set_option linter.unusedVariables false
set_option linter.unusedSimpArgs false

/-! ### Profiles: where a name stands -/

/-- cmp.Compare of two texts. -/
noncomputable def cmpL (p q : List UInt8) : Int := if p < q then -1 else if q < p then 1 else 0
theorem cmpL_lt {p q : List UInt8} (h : p < q) : cmpL p q = -1 := by unfold cmpL; rw [if_pos h]
theorem cmpL_gt {p q : List UInt8} (h : q < p) : cmpL p q = 1 := by unfold cmpL; rw [if_neg (fun h2 => List.lt_irrefl _ (List.lt_trans h h2)), if_pos h]
theorem cmpL_eq (p : List UInt8) : cmpL p p = 0 := by unfold cmpL; rw [if_neg (List.lt_irrefl _), if_neg (List.lt_irrefl _)]
theorem lt_tri (p q : List UInt8) : p < q ∨ p = q ∨ q < p := by
  by_cases h : p < q
  · exact .inl h
  · by_cases h2 : q < p
    · exact .inr (.inr h2)
    · exact .inr (.inl (List.le_antisymm (List.not_lt.1 h2) (List.not_lt.1 h)))
theorem bl_yes {x y : ByteArray} (h : x.data.toList < y.data.toList) : Op.bytesLess x.toList y.toList = true := by rw [bl]; simpa using h
theorem bl_no {x y : ByteArray} (h : ¬ x.data.toList < y.data.toList) : Op.bytesLess x.toList y.toList = false := by rw [bl]; simpa using h

theorem nan_any (p : ByteArray) (w : World) : Calls Tryd.prog 79 #[.string p] w fun e w' => e = .returned (.bool false) ∧ w' = w := by
  go_enter Tryd.func79, Tryd.ntmps79
  go_wp2
  go_ret
  first | exact ⟨rfl, rfl⟩ | exact ⟨by simp, rfl⟩

set_option maxRecDepth 100000 in
theorem cmp_any (p q : ByteArray) (w : World) : Calls Tryd.prog 60 #[.string p, .string q] w fun e w' => e = .returned (.int .i64 (cmpL p.data.toList q.data.toList)) ∧ w' = w := by
  have HNA : Hid (∀ x W, Calls Tryd.prog 79 #[.string x] W fun e w' => e = .returned (.bool false) ∧ w' = W) := fun x W => nan_any x W
  obtain ⟨r, hr⟩ : ∃ r, cmpL p.data.toList q.data.toList = r := ⟨_, rfl⟩
  rw [hr]
  have HR : Hid (cmpL p.data.toList q.data.toList = r) := hr
  clear hr
  rcases lt_tri p.data.toList q.data.toList with h | h | h
  · have h1 := bl_yes h
    have e : r = -1 := HR.out.symm.trans (cmpL_lt h)
    subst e
    clear h HR
    go_enter Tryd.func60, Tryd.ntmps60
    go_wp2_with (go_at_call 79; refine (HNA.out _ _).mono ?_; rintro e w1 ⟨rfl, rfl⟩)
    go_ret
    exact ⟨rfl, rfl⟩
  · have h1 : Op.bytesLess p.toList q.toList = false := bl_no (by rw [h]; exact List.lt_irrefl _)
    have h2 : (p.toList == q.toList) = true := by rw [ByteArray.toList_eq, ByteArray.toList_eq]; simpa using h
    have e : r = 0 := HR.out.symm.trans (by rw [h]; exact cmpL_eq _)
    subst e
    clear h HR
    go_enter Tryd.func60, Tryd.ntmps60
    go_wp2_with (go_at_call 79; refine (HNA.out _ _).mono ?_; rintro e w1 ⟨rfl, rfl⟩)
    go_ret
    exact ⟨rfl, rfl⟩
  · have h1 : Op.bytesLess p.toList q.toList = false := bl_no (fun h2 => List.lt_irrefl _ (List.lt_trans h h2))
    have h2 : (p.toList == q.toList) = false := by
      rw [ByteArray.toList_eq, ByteArray.toList_eq, beq_eq_false_iff_ne]
      intro e
      rw [e] at h
      exact List.lt_irrefl _ h
    have e : r = 1 := HR.out.symm.trans (cmpL_gt h)
    subst e
    clear h HR
    go_enter Tryd.func60, Tryd.ntmps60
    go_wp2_with (go_at_call 79; refine (HNA.out _ _).mono ?_; rintro e w1 ⟨rfl, rfl⟩)
    go_ret
    exact ⟨rfl, rfl⟩

set_option maxRecDepth 100000 in
theorem pn1_any (p q : ByteArray) (z : Int) (u : Option Addr) (m c : Nat) (w : World) :
    Calls Tryd.prog 59 #[.agg #[.string p, .int .i64 z, .slice u m c], .string q] w fun e w' => e = .returned (.int .i64 (cmpL p.data.toList q.data.toList)) ∧ Below w.heap.size w w' := by
  have HC : Hid (∀ W, Calls Tryd.prog 60 #[.string p, .string q] W fun e w' => e = .returned (.int .i64 (cmpL p.data.toList q.data.toList)) ∧ w' = W) := fun W => cmp_any p q W
  obtain ⟨r, hr⟩ : ∃ r, cmpL p.data.toList q.data.toList = r := ⟨_, rfl⟩
  rw [hr] at HC ⊢
  clear hr
  go_enter Tryd.func59, Tryd.ntmps59
  go_wp2_with (go_at_call 60; refine (HC.out _).mono ?_; rintro e w1 ⟨rfl, rfl⟩)
  go_ret
  exact ⟨rfl, (Below.refl _ _).alloc (Nat.le_refl _) _⟩

def nmL (x : Pr) : List UInt8 := x.name.data.toList
/-- All that stand ahead of another have smaller names. -/
theorem AdjP.far {ps : List Pr} (h : AdjP ps) : ∀ (d i : Nat) (x y : Pr), ps[i]? = some x → ps[i + 1 + d]? = some y → nmL x < nmL y
  | 0, i, x, y, hx, hy => h i x y hx hy
  | d + 1, i, x, y, hx, hy => by
    have hlt := (List.getElem?_eq_some_iff.1 hy).1
    obtain ⟨z, hz⟩ : ∃ z, ps[i + 1 + d]? = some z := ⟨_, List.getElem?_eq_getElem (by omega)⟩
    exact List.lt_trans (h.far d i x z hx hz) (h (i + 1 + d) z y hz hy)
theorem AdjP.lt {ps : List Pr} (h : AdjP ps) {i j : Nat} {x y : Pr} (hx : ps[i]? = some x) (hy : ps[j]? = some y) (hij : i < j) : nmL x < nmL y :=
  h.far (j - i - 1) i x y hx (by rw [show i + 1 + (j - i - 1) = j by omega]; exact hy)

/-- The number of those ahead of a text. -/
structure Rk (ps : List Pr) (q : List UInt8) (a : Nat) : Prop where
  le : a ≤ ps.length
  lo : ∀ (j : Nat) (x : Pr), j < a → ps[j]? = some x → nmL x < q
  hi : ∀ (j : Nat) (x : Pr), a ≤ j → ps[j]? = some x → ¬ nmL x < q
def Is (ps : List Pr) (q : List UInt8) (a : Nat) : Prop := ∃ x, ps[a]? = some x ∧ nmL x = q
noncomputable def isB (ps : List Pr) (q : List UInt8) (a : Nat) : Bool := @decide (Is ps q a) (Classical.propDecidable _)
theorem isB_yes {ps : List Pr} {a : Nat} {q : List UInt8} (h : Is ps q a) : isB ps q a = true := by unfold isB; exact @decide_eq_true _ (Classical.propDecidable _) h
theorem isB_no {ps : List Pr} {a : Nat} {q : List UInt8} (h : ¬ Is ps q a) : isB ps q a = false := by unfold isB; exact @decide_eq_false _ (Classical.propDecidable _) h
theorem isB_iff {ps : List Pr} {a : Nat} {q : List UInt8} : isB ps q a = true ↔ Is ps q a := by unfold isB; exact @decide_eq_true_iff _ (Classical.propDecidable _)

/-- Where a name stands, or -1. -/
def fIx (ps : List Pr) (q : List UInt8) : Int := match ps.findIdx? (fun x => decide (nmL x = q)) with
  | some i => (i : Int)
  | none => -1
theorem fIx_yes {ps : List Pr} {q : List UInt8} {i : Nat} {x : Pr} (hx : ps[i]? = some x) (hn : nmL x = q) (hj : ∀ (j : Nat) (y : Pr), j < i → ps[j]? = some y → nmL y ≠ q) : fIx ps q = (i : Int) := by
  obtain ⟨hi, he⟩ := List.getElem?_eq_some_iff.1 hx
  have : ps.findIdx? (fun x => decide (nmL x = q)) = some i := by
    rw [List.findIdx?_eq_some_iff_getElem]
    refine ⟨hi, by simp [he, hn], fun j hji => ?_⟩
    have := hj j ps[j] hji (List.getElem?_eq_getElem (by omega))
    simpa using this
  unfold fIx
  rw [this]
theorem fIx_no {ps : List Pr} {q : List UInt8} (hj : ∀ (j : Nat) (y : Pr), ps[j]? = some y → nmL y ≠ q) : fIx ps q = -1 := by
  have : ps.findIdx? (fun x => decide (nmL x = q)) = none := by
    rw [List.findIdx?_eq_none_iff]
    intro x hx
    obtain ⟨i, hi⟩ := List.mem_iff_getElem?.1 hx
    simpa using hj i x hi
  unfold fIx
  rw [this]
theorem fIx_is {ps : List Pr} {q : List UInt8} {a : Nat} (hr : Rk ps q a) (h : Is ps q a) : fIx ps q = (a : Int) := by
  obtain ⟨x, hx, hn⟩ := h
  exact fIx_yes hx hn fun j y hj hy e => List.lt_irrefl _ (e ▸ hr.lo j y hj hy)
theorem fIx_not {ps : List Pr} {q : List UInt8} {a : Nat} (hA : AdjP ps) (hr : Rk ps q a) (h : ¬ Is ps q a) : fIx ps q = -1 := fIx_no fun j y hy e => by
  rcases Nat.lt_or_ge j a with h1 | h1
  · exact List.lt_irrefl _ (e ▸ hr.lo j y h1 hy)
  · rcases Nat.lt_or_ge a j with h2 | h2
    · obtain ⟨z, hz⟩ : ∃ z, ps[a]? = some z := ⟨_, List.getElem?_eq_getElem (by have := (List.getElem?_eq_some_iff.1 hy).1; omega)⟩
      exact hr.hi a z (Nat.le_refl _) hz (e ▸ hA.lt hz hy h2)
    · obtain rfl : j = a := by omega
      exact h ⟨y, hy, e⟩

set_option maxHeartbeats 4000000 in
set_option maxRecDepth 100000 in
theorem bs_any (ps : List Pr) (a : Option Addr) (cap : Nat) (q : ByteArray) (w : World) (hR : SrcP w a ps) (hA : AdjP ps) (hn : ps.length ≤ 1048576) :
    Calls Tryd.prog 58 #[.slice a ps.length cap, .string q, .func (.func 59) #[] #[]] w fun e w' => (∃ a : Nat, e = .returned (.tuple #[.int .i64 (a : Int), .bool (isB ps q.data.toList a)]) ∧ Rk ps q.data.toList a) ∧ Below w.heap.size w w' := by
  have HR : Hid (SrcP w a ps) := hR
  have HA : Hid (AdjP ps) := hA
  have HC : Hid (∀ p z u m c W, Calls Tryd.prog 59 #[.agg #[.string p, .int .i64 z, .slice u m c], .string q] W fun e w' => e = .returned (.int .i64 (cmpL p.data.toList q.data.toList)) ∧ Below W.heap.size W w') := fun p z u m c W => pn1_any p q z u m c W
  clear hR hA
  obtain ⟨n, hnn⟩ : ∃ n, ps.length = n := ⟨_, rfl⟩
  have HNN : Hid (ps.length = n) := hnn
  rw [hnn] at hn ⊢
  clear hnn
  go_enter Tryd.func58, Tryd.ntmps58
  go_wp2
  go_loopw [9, 10, 11] (fun x y _ wr => ∃ lo hi : Nat, x = .int .i64 (lo : Int) ∧ y = .int .i64 (hi : Int) ∧ lo ≤ hi ∧ hi ≤ n ∧ (∀ (j : Nat) (x : Pr), j < lo → ps[j]? = some x → nmL x < q.data.toList) ∧ (∀ (j : Nat) (x : Pr), hi ≤ j → ps[j]? = some x → ¬ nmL x < q.data.toList) ∧ Below w.heap.size w wr) (fun x y _ _ => (intOf y - intOf x).toNat)
  case atStart => exact ⟨0, n, rfl, rfl, Nat.zero_le _, Nat.le_refl _, fun j x h => by omega, fun j x h h2 => by have := (List.getElem?_eq_some_iff.1 h2).1; have := HNN.out; omega, Below.refl _ _⟩
  case round =>
    obtain ⟨lo, hi, rfl, rfl, hlh, hhn, h1, h2, hbel⟩ := hrel
    have H1 : Hid (∀ (j : Nat) (x : Pr), j < lo → ps[j]? = some x → nmL x < q.data.toList) := h1
    have H2 : Hid (∀ (j : Nat) (x : Pr), hi ≤ j → ps[j]? = some x → ¬ nmL x < q.data.toList) := h2
    have HBE : Hid (Below w.heap.size w wr) := hbel
    clear h1 h2
    by_cases hl : lo < hi
    · have hl' : (lo : Int) < (hi : Int) := by omega
      obtain ⟨m, hm⟩ : ∃ m : Nat, (lo + hi) / 2 = m := ⟨_, rfl⟩
      have hm1 : lo ≤ m := by omega
      have hm2 : m < hi := by omega
      have hmi : ((lo : Int) + (hi : Int)) / 2 = (m : Int) := by omega
      have hm0 : (0 : Int) ≤ (m : Int) := by omega
      have hmn : (m : Int) < (n : Int) := by omega
      obtain ⟨x, hx⟩ : ∃ x, ps[m]? = some x := ⟨_, List.getElem?_eq_getElem (by rw [HNN.out]; omega)⟩
      rcases HR.out with h | ⟨b, o, rfl, hc⟩
      · have := HNN.out; rw [h] at this; simp at this; omega
      obtain ⟨u, c, c0, c1, c2, -⟩ := (hc m x hx).below hbel
      have HX : Hid (ps[m]? = some x) := hx
      have HPM : Hid (nmL x = x.name.data.toList) := rfl
      obtain ⟨M, hM⟩ : ∃ M, x.name = M := ⟨_, rfl⟩
      obtain ⟨kM, hkM⟩ : ∃ k, x.now = k := ⟨_, rfl⟩
      obtain ⟨dM, hdM⟩ : ∃ d, x.gens.length = d := ⟨_, rfl⟩
      rw [hM] at c0 HPM
      rw [hkM] at c1
      rw [hdM] at c2
      have HCM : Hid (∀ W, Calls Tryd.prog 59 #[.agg #[.string M, .int .i64 kM, .slice u dM c], .string q] W fun e w' => e = .returned (.int .i64 (cmpL M.data.toList q.data.toList)) ∧ Below W.heap.size W w') := fun W => HC.out M kM u dM c W
      clear hm hM hkM hdM hbel hc hx
      by_cases hlt : M.data.toList < q.data.toList
      · rw [cmpL_lt hlt] at HCM
        have HN : Hid (∀ (j : Nat) (x : Pr), j < m + 1 → ps[j]? = some x → nmL x < q.data.toList) := fun j y hj hy => by
          rcases Nat.lt_or_ge j m with h | h
          · exact List.lt_trans (HA.out.lt hy HX.out h) (by rw [HPM.out]; exact hlt)
          · obtain rfl : j = m := by omega
            rw [HX.out] at hy
            cases hy
            rw [HPM.out]; exact hlt
        clear hlt
        go_wp2_with (go_at_call 59; refine (HCM.out _).mono ?_; rintro e w1 ⟨rfl, hl1⟩)
        go_roundw
        case rel => exact ⟨m + 1, hi, by go_num, by first | rfl | trivial, by omega, hhn, HN.out, H2.out, HBE.out.trans (hl1.mono HBE.out.size)⟩
        case measure => simp [intOf] <;> omega
      · have hnn : ¬ cmpL M.data.toList q.data.toList < 0 := by
          rcases lt_tri M.data.toList q.data.toList with h | h | h
          · exact absurd h hlt
          · rw [h, cmpL_eq]; omega
          · rw [cmpL_gt h]; omega
        obtain ⟨r, hr⟩ : ∃ r, cmpL M.data.toList q.data.toList = r := ⟨_, rfl⟩
        rw [hr] at HCM hnn
        have HN : Hid (∀ (j : Nat) (x : Pr), m ≤ j → ps[j]? = some x → ¬ nmL x < q.data.toList) := fun j y hj hy h => by
          rcases Nat.lt_or_ge m j with h' | h'
          · exact hlt (by rw [← HPM.out]; exact List.lt_trans (HA.out.lt HX.out hy h') h)
          · obtain rfl : j = m := by omega
            rw [HX.out] at hy
            cases hy
            exact hlt (by rw [← HPM.out]; exact h)
        clear hlt hr
        go_wp2_with (go_at_call 59; refine (HCM.out _).mono ?_; rintro e w1 ⟨rfl, hl1⟩)
        go_roundw
        case rel => exact ⟨lo, m, by first | rfl | trivial, by first | rfl | trivial | go_num, by omega, by omega, H1.out, HN.out, HBE.out.trans (hl1.mono HBE.out.size)⟩
        case measure => simp [intOf] <;> omega
    · have hl' : ¬ (lo : Int) < (hi : Int) := by omega
      obtain rfl : lo = hi := by omega
      have HRK : Hid (Rk ps q.data.toList lo) := ⟨by rw [HNN.out]; exact hhn, H1.out, H2.out⟩
      by_cases hln : lo < n
      · have hln' : (lo : Int) < (n : Int) := by omega
        have hl0 : (0 : Int) ≤ (lo : Int) := by omega
        obtain ⟨x, hx⟩ : ∃ x, ps[lo]? = some x := ⟨_, List.getElem?_eq_getElem (by rw [HNN.out]; omega)⟩
        rcases HR.out with h | ⟨b, o, rfl, hc⟩
        · have := HNN.out; rw [h] at this; simp at this; omega
        obtain ⟨u, c, c0, c1, c2, -⟩ := (hc lo x hx).below hbel
        have HX : Hid (ps[lo]? = some x) := hx
        have HPM : Hid (nmL x = x.name.data.toList) := rfl
        obtain ⟨M, hM⟩ : ∃ M, x.name = M := ⟨_, rfl⟩
        obtain ⟨kM, hkM⟩ : ∃ k, x.now = k := ⟨_, rfl⟩
        obtain ⟨dM, hdM⟩ : ∃ d, x.gens.length = d := ⟨_, rfl⟩
        rw [hM] at c0 HPM
        rw [hkM] at c1
        rw [hdM] at c2
        have HCM : Hid (∀ W, Calls Tryd.prog 59 #[.agg #[.string M, .int .i64 kM, .slice u dM c], .string q] W fun e w' => e = .returned (.int .i64 (cmpL M.data.toList q.data.toList)) ∧ Below W.heap.size W w') := fun W => HC.out M kM u dM c W
        clear hM hkM hdM hbel hc hx
        by_cases he : M.data.toList = q.data.toList
        · have HIS : Hid (isB ps q.data.toList lo = true) := isB_yes ⟨x, HX.out, HPM.out.trans he⟩
          rw [he, cmpL_eq] at HCM
          clear he
          go_wp2_with (go_at_call 59; refine (HCM.out _).mono ?_; rintro e w1 ⟨rfl, hl1⟩)
          go_ret2
          exact ⟨⟨lo, by rw [HIS.out]; rfl, HRK.out⟩, HBE.out.trans (hl1.mono HBE.out.size)⟩
        · have HIS : Hid (isB ps q.data.toList lo = false) := isB_no fun ⟨y, hy, e⟩ => by
            rw [HX.out] at hy
            cases hy
            exact he (HPM.out.symm.trans e)
          have hnz : (cmpL M.data.toList q.data.toList == 0) = false := by
            rw [beq_eq_false_iff_ne]
            rcases lt_tri M.data.toList q.data.toList with h | h | h
            · rw [cmpL_lt h]; omega
            · exact absurd h he
            · rw [cmpL_gt h]; omega
          obtain ⟨r, hr⟩ : ∃ r, cmpL M.data.toList q.data.toList = r := ⟨_, rfl⟩
          rw [hr] at HCM hnz
          have hnz2 : ¬ r = 0 := by simpa using hnz
          clear he hr
          go_wp2_with (go_at_call 59; refine (HCM.out _).mono ?_; rintro e w1 ⟨rfl, hl1⟩)
          go_ret2
          exact ⟨⟨lo, by rw [HIS.out]; rfl, HRK.out⟩, HBE.out.trans (hl1.mono HBE.out.size)⟩
      · have hln' : ¬ (lo : Int) < (n : Int) := by omega
        have HIS : Hid (isB ps q.data.toList lo = false) := isB_no fun ⟨y, hy, e⟩ => by have := (List.getElem?_eq_some_iff.1 hy).1; have := HNN.out; omega
        clear hbel
        go_wp2
        go_ret2
        exact ⟨⟨lo, by rw [HIS.out]; rfl, HRK.out⟩, HBE.out⟩

set_option maxRecDepth 100000 in
theorem pnum_any (ps : List Pr) (a : Option Addr) (cap : Nat) (q : ByteArray) (w : World) (hR : SrcP w a ps) (hA : AdjP ps) (hn : ps.length ≤ 1048576) :
    Calls Tryd.prog 29 #[.slice a ps.length cap, .string q] w fun e w' => (∃ a : Nat, e = .returned (.tuple #[.int .i64 (a : Int), .bool (isB ps q.data.toList a)]) ∧ Rk ps q.data.toList a) ∧ Below w.heap.size w w' := by
  have HC : Hid (∀ W : World, W = w → Calls Tryd.prog 58 #[.slice a ps.length cap, .string q, .func (.func 59) #[] #[]] W fun e w' => (∃ a : Nat, e = .returned (.tuple #[.int .i64 (a : Int), .bool (isB ps q.data.toList a)]) ∧ Rk ps q.data.toList a) ∧ Below w.heap.size w w') := fun W hW => by subst hW; exact bs_any ps a cap q W hR hA hn
  clear hR hA
  generalize ps.length = n at *
  go_enter Tryd.func29, Tryd.ntmps29
  go_wp2_with (go_at_call 58; refine (HC.out _ rfl).mono ?_; rintro e w1 ⟨⟨a, rfl, ha⟩, hl1⟩; have HA : Hid (Rk ps q.data.toList a) := ha; clear ha)
  go_ret2
  exact ⟨⟨_, rfl, HA.out⟩, hl1⟩

set_option maxHeartbeats 2000000 in
set_option maxRecDepth 100000 in
theorem l13Find_any (ps : List Pr) (a : Option Addr) (cap : Nat) (q : ByteArray) (w : World) (hR : SrcP w a ps) (hn : ps.length ≤ 1048576) :
    Calls Tryd.prog 36 #[.slice a ps.length cap, .string q] w fun e w' => e = .returned (.int .i64 (fIx ps q.data.toList)) ∧ w' = w := by
  have HR : Hid (SrcP w a ps) := hR
  obtain ⟨m, hmm⟩ : ∃ n, ps.length = n := ⟨_, rfl⟩
  have HNN : Hid (ps.length = m) := hmm
  rw [hmm] at hn ⊢
  clear hmm hR
  go_enter Tryd.func36, Tryd.ntmps36
  go_wp2
  go_loop [5] (fun y => ∃ i : Nat, i ≤ m ∧ y = .int .i64 (i : Int) ∧ (∀ (j : Nat) (y : Pr), j < i → ps[j]? = some y → nmL y ≠ q.data.toList)) (fun y => m - (intOf y).toNat)
  case atStart => exact ⟨0, Nat.zero_le _, rfl, fun j y h => by omega⟩
  case round =>
    obtain ⟨i, hi, rfl, h1⟩ := hrel
    have H1 : Hid (∀ (j : Nat) (y : Pr), j < i → ps[j]? = some y → nmL y ≠ q.data.toList) := h1
    clear h1
    by_cases hin : i < m
    · have hin' : (i : Int) < (m : Int) := by omega
      have hi0 : (0 : Int) ≤ (i : Int) := by omega
      obtain ⟨x, hx⟩ : ∃ x, ps[i]? = some x := ⟨_, List.getElem?_eq_getElem (by rw [HNN.out]; exact hin)⟩
      rcases HR.out with h | ⟨b, o, rfl, hc⟩
      · have := HNN.out; rw [h] at this; simp at this; omega
      obtain ⟨u, c, c0, -, -, -⟩ := hc i x hx
      have HX : Hid (ps[i]? = some x) := hx
      obtain ⟨M, hM⟩ : ∃ m, x.name = m := ⟨_, rfl⟩
      rw [hM] at c0
      have HM : Hid (nmL x = M.data.toList) := by show _ = _; unfold nmL; rw [hM]
      clear hM hc hx
      by_cases hu : M.data.toList = q.data.toList
      · have HF : Hid (fIx ps q.data.toList = (i : Int)) := fIx_yes HX.out (HM.out.trans hu) H1.out
        have hu' : (M.toList == q.toList) = true := by rw [ByteArray.toList_eq, ByteArray.toList_eq]; simpa using hu
        clear hu
        go_wp2
        go_ret
        exact ⟨by rw [HF.out]; first | done | rfl, rfl⟩
      · have hu' : (M.toList == q.toList) = false := by rw [ByteArray.toList_eq, ByteArray.toList_eq, beq_eq_false_iff_ne]; exact hu
        have HN : Hid (∀ (j : Nat) (y : Pr), j < i + 1 → ps[j]? = some y → nmL y ≠ q.data.toList) := fun j y hj hy => by
          rcases Nat.lt_or_ge j i with h | h
          · exact H1.out j y h hy
          · obtain rfl : j = i := by omega
            rw [HX.out] at hy
            cases hy
            rw [HM.out]; exact hu
        clear hu
        go_wp2
        go_round
        case rel => exact ⟨i + 1, by omega, by go_num, HN.out⟩
        case measure => simp [intOf] <;> omega
    · have hin' : ¬ (i : Int) < (m : Int) := by omega
      have HF : Hid (fIx ps q.data.toList = -1) := fIx_no fun j y hy => H1.out j y (by have := (List.getElem?_eq_some_iff.1 hy).1; have := HNN.out; omega) hy
      go_wp2
      go_ret
      exact ⟨by rw [HF.out]; first | done | rfl, rfl⟩

end Go.Proofs.YtihjdggmmmlpkaaDoor.pf
