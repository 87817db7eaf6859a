import Derived.Test.YtabhgmpbokkjlaaDoorTP
import Derived.Test.YtabhgmpbokkjlaaDoorTW
namespace Go.Proofs.YtabhgmpbokkjlaaDoor.tt
open Go.ChangeShapes Go.WideShapes Go.ChangeAt Go.RowKit Go.Deep
set_option linter.unusedVariables false
set_option linter.unusedSimpArgs false

/-! ### PutEntry: where an entry stands (slices.BinarySearchFunc over entries) -/

/-- cmp.Compare of two texts. -/
noncomputable def cmpL (p q : List UInt8) : Int := if p < q then -1 else if q < p then 1 else 0
theorem cmpL_lt {p q : List UInt8} (h : p < q) : cmpL p q = -1 := by unfold cmpL; rw [if_pos h]
theorem cmpL_gt {p q : List UInt8} (h : q < p) : cmpL p q = 1 := by unfold cmpL; rw [if_neg (fun h2 => List.lt_irrefl _ (List.lt_trans h h2)), if_pos h]
theorem cmpL_eq (p : List UInt8) : cmpL p p = 0 := by unfold cmpL; rw [if_neg (List.lt_irrefl _), if_neg (List.lt_irrefl _)]
theorem lt_tri (p q : List UInt8) : p < q ∨ p = q ∨ q < p := by
  by_cases h : p < q
  · exact .inl h
  · by_cases h2 : q < p
    · exact .inr (.inr h2)
    · exact .inr (.inl (List.le_antisymm (List.not_lt.1 h2) (List.not_lt.1 h)))
theorem bl_yes {x y : ByteArray} (h : x.data.toList < y.data.toList) : Op.bytesLess x.toList y.toList = true := by rw [bl]; simpa using h
theorem bl_no {x y : ByteArray} (h : ¬ x.data.toList < y.data.toList) : Op.bytesLess x.toList y.toList = false := by rw [bl]; simpa using h

theorem nan_any (p : ByteArray) (w : World) : Calls Tryd.prog 99 #[.string p] w fun e w' => e = .returned (.bool false) ∧ w' = w := by
  go_enter Tryd.func99, Tryd.ntmps99
  go_wp2
  go_ret
  first | exact ⟨rfl, rfl⟩ | exact ⟨by simp, rfl⟩

set_option maxRecDepth 100000 in
theorem cmp_any (p q : ByteArray) (w : World) : Calls Tryd.prog 84 #[.string p, .string q] w fun e w' => e = .returned (.int .i64 (cmpL p.data.toList q.data.toList)) ∧ w' = w := by
  have HNA : Hid (∀ x W, Calls Tryd.prog 99 #[.string x] W fun e w' => e = .returned (.bool false) ∧ w' = W) := fun x W => nan_any x W
  obtain ⟨r, hr⟩ : ∃ r, cmpL p.data.toList q.data.toList = r := ⟨_, rfl⟩
  rw [hr]
  have HR : Hid (cmpL p.data.toList q.data.toList = r) := hr
  clear hr
  rcases lt_tri p.data.toList q.data.toList with h | h | h
  · have h1 := bl_yes h
    have e : r = -1 := HR.out.symm.trans (cmpL_lt h)
    subst e
    clear h HR
    go_enter Tryd.func84, Tryd.ntmps84
    go_wp2_with (go_at_call 99; refine (HNA.out _ _).mono ?_; rintro e w1 ⟨rfl, rfl⟩)
    go_ret
    exact ⟨rfl, rfl⟩
  · have h1 : Op.bytesLess p.toList q.toList = false := bl_no (by rw [h]; exact List.lt_irrefl _)
    have h2 : (p.toList == q.toList) = true := by rw [ByteArray.toList_eq, ByteArray.toList_eq]; simpa using h
    have e : r = 0 := HR.out.symm.trans (by rw [h]; exact cmpL_eq _)
    subst e
    clear h HR
    go_enter Tryd.func84, Tryd.ntmps84
    go_wp2_with (go_at_call 99; refine (HNA.out _ _).mono ?_; rintro e w1 ⟨rfl, rfl⟩)
    go_ret
    exact ⟨rfl, rfl⟩
  · have h1 : Op.bytesLess p.toList q.toList = false := bl_no (fun h2 => List.lt_irrefl _ (List.lt_trans h h2))
    have h2 : (p.toList == q.toList) = false := by
      rw [ByteArray.toList_eq, ByteArray.toList_eq, beq_eq_false_iff_ne]
      intro e
      rw [e] at h
      exact List.lt_irrefl _ h
    have e : r = 1 := HR.out.symm.trans (cmpL_gt h)
    subst e
    clear h HR
    go_enter Tryd.func84, Tryd.ntmps84
    go_wp2_with (go_at_call 99; refine (HNA.out _ _).mono ?_; rintro e w1 ⟨rfl, rfl⟩)
    go_ret
    exact ⟨rfl, rfl⟩

set_option maxRecDepth 100000 in
theorem en1_any (p d q : ByteArray) (k : Int) (x : Bool) (w : World) :
    Calls Tryd.prog 83 #[.agg #[.string p, .int .i64 k, .string d, .bool x], .string q] w fun e w' => e = .returned (.int .i64 (cmpL p.data.toList q.data.toList)) ∧ Below w.heap.size w w' := by
  have HC : Hid (∀ W, Calls Tryd.prog 84 #[.string p, .string q] W fun e w' => e = .returned (.int .i64 (cmpL p.data.toList q.data.toList)) ∧ w' = W) := fun W => cmp_any p q W
  obtain ⟨r, hr⟩ : ∃ r, cmpL p.data.toList q.data.toList = r := ⟨_, rfl⟩
  rw [hr] at HC ⊢
  clear hr
  go_enter Tryd.func83, Tryd.ntmps83
  go_wp2_with (go_at_call 84; refine (HC.out _).mono ?_; rintro e w1 ⟨rfl, rfl⟩)
  go_ret
  exact ⟨rfl, (Below.refl _ _).alloc (Nat.le_refl _) _⟩

/-- The number of those ahead of a text. -/
structure Rk (E : Nat → En) (n : Nat) (q : List UInt8) (a : Nat) : Prop where
  le : a ≤ n
  lo : ∀ j, j < a → pth E j < q
  hi : ∀ j, a ≤ j → j < n → ¬ pth E j < q
theorem Rk.uniq {E : Nat → En} {n a b : Nat} {q : List UInt8} (h : Rk E n q a) (g : Rk E n q b) : a = b := by
  rcases Nat.lt_trichotomy a b with h1 | h1 | h1
  · exact absurd (g.lo a h1) (h.hi a (Nat.le_refl _) (by have := g.le; omega))
  · exact h1
  · exact absurd (h.lo b h1) (g.hi b (Nat.le_refl _) (by have := h.le; omega))
def Is (E : Nat → En) (n : Nat) (q : List UInt8) (a : Nat) : Prop := a < n ∧ pth E a = q
noncomputable def isB (E : Nat → En) (n : Nat) (q : List UInt8) (a : Nat) : Bool := @decide (Is E n q a) (Classical.propDecidable _)
theorem isB_yes {E : Nat → En} {n a : Nat} {q : List UInt8} (h : Is E n q a) : isB E n q a = true := by unfold isB; exact @decide_eq_true _ (Classical.propDecidable _) h
theorem isB_no {E : Nat → En} {n a : Nat} {q : List UInt8} (h : ¬ Is E n q a) : isB E n q a = false := by unfold isB; exact @decide_eq_false _ (Classical.propDecidable _) h
theorem isB_iff {E : Nat → En} {n a : Nat} {q : List UInt8} : isB E n q a = true ↔ Is E n q a := by unfold isB; exact @decide_eq_true_iff _ (Classical.propDecidable _)

set_option maxHeartbeats 4000000 in
set_option maxRecDepth 100000 in
theorem bs_any (E : Nat → En) (b o n cap : Nat) (q : ByteArray) (w : World) (hR : EnR w b o n E) (hA : Asc E n) (hn : n ≤ 1048576) :
    Calls Tryd.prog 82 #[.slice (some ⟨b, o, none⟩) n cap, .string q, .func (.func 83) #[] #[]] w fun e w' => (∃ a : Nat, e = .returned (.tuple #[.int .i64 (a : Int), .bool (isB E n q.data.toList a)]) ∧ Rk E n q.data.toList a) ∧ Below w.heap.size w w' := by
  have HR : Hid (EnR w b o n E) := hR
  have HA : Hid (Asc E n) := hA
  have HC : Hid (∀ p d k x W, Calls Tryd.prog 83 #[.agg #[.string p, .int .i64 k, .string d, .bool x], .string q] W fun e w' => e = .returned (.int .i64 (cmpL p.data.toList q.data.toList)) ∧ Below W.heap.size W w') := fun p d k x W => en1_any p d q k x W
  clear hR hA
  go_enter Tryd.func82, Tryd.ntmps82
  go_wp2
  go_loopw [9, 10, 11] (fun x y _ wr => ∃ lo hi : Nat, x = .int .i64 (lo : Int) ∧ y = .int .i64 (hi : Int) ∧ lo ≤ hi ∧ hi ≤ n ∧ (∀ j, j < lo → pth E j < q.data.toList) ∧ (∀ j, hi ≤ j → j < n → ¬ pth E j < q.data.toList) ∧ Below w.heap.size w wr) (fun x y _ _ => (intOf y - intOf x).toNat)
  case atStart => exact ⟨0, n, rfl, rfl, Nat.zero_le _, Nat.le_refl _, fun j h => by omega, fun j h h2 => by omega, Below.refl _ _⟩
  case round =>
    obtain ⟨lo, hi, rfl, rfl, hlh, hhn, h1, h2, hbel⟩ := hrel
    have H1 : Hid (∀ j, j < lo → pth E j < q.data.toList) := h1
    have H2 : Hid (∀ j, hi ≤ j → j < n → ¬ pth E j < q.data.toList) := h2
    have HBE : Hid (Below w.heap.size w wr) := hbel
    clear h1 h2
    by_cases hl : lo < hi
    · have hl' : (lo : Int) < (hi : Int) := by omega
      obtain ⟨m, hm⟩ : ∃ m : Nat, (lo + hi) / 2 = m := ⟨_, rfl⟩
      have hm1 : lo ≤ m := by omega
      have hm2 : m < hi := by omega
      have hmi : ((lo : Int) + (hi : Int)) / 2 = (m : Int) := by omega
      have hm0 : (0 : Int) ≤ (m : Int) := by omega
      have hmn : (m : Int) < (n : Int) := by omega
      obtain ⟨c0, c1, c2, c3⟩ := (HR.out m (by omega)).below hbel
      have HPM : Hid (pth E m = (E m).path.data.toList) := rfl
      obtain ⟨M, hM⟩ : ∃ M, (E m).path = M := ⟨_, rfl⟩
      obtain ⟨kM, hkM⟩ : ∃ k, (E m).kind = k := ⟨_, rfl⟩
      obtain ⟨dM, hdM⟩ : ∃ d, (E m).data = d := ⟨_, rfl⟩
      obtain ⟨xM, hxM⟩ : ∃ x, (E m).exec = x := ⟨_, rfl⟩
      rw [hM] at c0 HPM
      rw [hkM] at c1
      rw [hdM] at c2
      rw [hxM] at c3
      have HCM : Hid (∀ W, Calls Tryd.prog 83 #[.agg #[.string M, .int .i64 kM, .string dM, .bool xM], .string q] W fun e w' => e = .returned (.int .i64 (cmpL M.data.toList q.data.toList)) ∧ Below W.heap.size W w') := fun W => HC.out M dM kM xM W
      clear hm hM hkM hdM hxM hbel
      by_cases hlt : M.data.toList < q.data.toList
      · rw [cmpL_lt hlt] at HCM
        have HN : Hid (∀ j, j < m + 1 → pth E j < q.data.toList) := fun j hj => by
          rcases Nat.lt_or_ge j m with h | h
          · exact List.lt_trans (HA.out j m h (by omega)) (by rw [HPM.out]; exact hlt)
          · obtain rfl : j = m := by omega
            rw [HPM.out]; exact hlt
        clear hlt
        go_wp2_with (go_at_call 83; refine (HCM.out _).mono ?_; rintro e w1 ⟨rfl, hl1⟩)
        go_roundw
        case rel => exact ⟨m + 1, hi, by go_num, by first | rfl | trivial, by omega, hhn, HN.out, H2.out, HBE.out.trans (hl1.mono HBE.out.size)⟩
        case measure => simp [intOf] <;> omega
      · have hnn : ¬ cmpL M.data.toList q.data.toList < 0 := by
          rcases lt_tri M.data.toList q.data.toList with h | h | h
          · exact absurd h hlt
          · rw [h, cmpL_eq]; omega
          · rw [cmpL_gt h]; omega
        obtain ⟨r, hr⟩ : ∃ r, cmpL M.data.toList q.data.toList = r := ⟨_, rfl⟩
        rw [hr] at HCM hnn
        have HN : Hid (∀ j, m ≤ j → j < n → ¬ pth E j < q.data.toList) := fun j hj hj2 h => by
          rcases Nat.lt_or_ge m j with h' | h'
          · exact hlt (by rw [← HPM.out]; exact List.lt_trans (HA.out m j h' hj2) h)
          · obtain rfl : j = m := by omega
            exact hlt (by rw [← HPM.out]; exact h)
        clear hlt hr
        go_wp2_with (go_at_call 83; refine (HCM.out _).mono ?_; rintro e w1 ⟨rfl, hl1⟩)
        go_roundw
        case rel => exact ⟨lo, m, by first | rfl | trivial, by first | rfl | trivial | go_num, by omega, by omega, H1.out, HN.out, HBE.out.trans (hl1.mono HBE.out.size)⟩
        case measure => simp [intOf] <;> omega
    · have hl' : ¬ (lo : Int) < (hi : Int) := by omega
      obtain rfl : lo = hi := by omega
      have HRK : Hid (Rk E n q.data.toList lo) := ⟨hhn, H1.out, H2.out⟩
      by_cases hln : lo < n
      · have hln' : (lo : Int) < (n : Int) := by omega
        have hl0 : (0 : Int) ≤ (lo : Int) := by omega
        obtain ⟨c0, c1, c2, c3⟩ := (HR.out lo hln).below hbel
        have HPM : Hid (pth E lo = (E lo).path.data.toList) := rfl
        obtain ⟨M, hM⟩ : ∃ M, (E lo).path = M := ⟨_, rfl⟩
        obtain ⟨kM, hkM⟩ : ∃ k, (E lo).kind = k := ⟨_, rfl⟩
        obtain ⟨dM, hdM⟩ : ∃ d, (E lo).data = d := ⟨_, rfl⟩
        obtain ⟨xM, hxM⟩ : ∃ x, (E lo).exec = x := ⟨_, rfl⟩
        rw [hM] at c0 HPM
        rw [hkM] at c1
        rw [hdM] at c2
        rw [hxM] at c3
        have HCM : Hid (∀ W, Calls Tryd.prog 83 #[.agg #[.string M, .int .i64 kM, .string dM, .bool xM], .string q] W fun e w' => e = .returned (.int .i64 (cmpL M.data.toList q.data.toList)) ∧ Below W.heap.size W w') := fun W => HC.out M dM kM xM W
        clear hM hkM hdM hxM hbel
        by_cases he : M.data.toList = q.data.toList
        · have HIS : Hid (isB E n q.data.toList lo = true) := isB_yes ⟨hln, HPM.out.trans he⟩
          rw [he, cmpL_eq] at HCM
          clear he
          go_wp2_with (go_at_call 83; refine (HCM.out _).mono ?_; rintro e w1 ⟨rfl, hl1⟩)
          go_ret2
          exact ⟨⟨lo, by rw [HIS.out]; rfl, HRK.out⟩, HBE.out.trans (hl1.mono HBE.out.size)⟩
        · have HIS : Hid (isB E n q.data.toList lo = false) := isB_no fun h => he (HPM.out.symm.trans h.2)
          have hnz : (cmpL M.data.toList q.data.toList == 0) = false := by
            rw [beq_eq_false_iff_ne]
            rcases lt_tri M.data.toList q.data.toList with h | h | h
            · rw [cmpL_lt h]; omega
            · exact absurd h he
            · rw [cmpL_gt h]; omega
          obtain ⟨r, hr⟩ : ∃ r, cmpL M.data.toList q.data.toList = r := ⟨_, rfl⟩
          rw [hr] at HCM hnz
          have hnz2 : ¬ r = 0 := by simpa using hnz
          clear he hr
          go_wp2_with (go_at_call 83; refine (HCM.out _).mono ?_; rintro e w1 ⟨rfl, hl1⟩)
          go_ret2
          exact ⟨⟨lo, by rw [HIS.out]; rfl, HRK.out⟩, HBE.out.trans (hl1.mono HBE.out.size)⟩
      · have hln' : ¬ (lo : Int) < (n : Int) := by omega
        have HIS : Hid (isB E n q.data.toList lo = false) := isB_no fun h => hln h.1
        clear hbel
        go_wp2
        go_ret2
        exact ⟨⟨lo, by rw [HIS.out]; rfl, HRK.out⟩, HBE.out⟩

end Go.Proofs.YtabhgmpbokkjlaaDoor.tt
