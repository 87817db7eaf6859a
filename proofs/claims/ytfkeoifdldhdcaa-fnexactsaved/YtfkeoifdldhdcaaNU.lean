import Derived.Test.YtfkeoifdldhdcaaNV
import Derived.Test.YtfkeoifdldhdcaaDN
import Derived.Test.YtfkeoifdldhdcaaDK
namespace Go.Proofs.Ytfkeoifdldhdcaa.dl
open Go.ChangeShapes Go.WideShapes Go.ChangeAt Go.RowKit Go.Deep
open bf (Bf Ap)
set_option linter.unusedVariables false
set_option linter.unusedSimpArgs false

/-! ### FnExactMakeDelta's walk -/

theorem bel_grownM {B b : Nat} {w w1 w2 : World} (h : Below B w w1) (hg : w1.grownBy w2 (some b)) (hB : B ≤ w1.heap.size) (hb : B ≤ b) : Below B w w2 := h.grown hg hB (fun k hk => by cases hk; exact hb)
/-- A row of bytes as it is copied. -/
def RwM (w : World) (g : Nat) (l : List UInt8) (n : Nat) : Prop := w.rowIs g 5 n (fun i => .int .u8 ((inB l)[i]?.getD 0))
theorem RwM.by {w : World} {g n : Nat} {l : List UInt8} (h : RwM w g l n) (hn : l.length = n) : By w g l := fun j hj => by rw [World.rowIs.cell h (by omega), inB_at l j hj]
theorem RwM.lt {w : World} {g n : Nat} {l : List UInt8} (h : RwM w g l n) : g < w.heap.size := World.rowIs.lt h
theorem RwM.below {w w' : World} {g n : Nat} {l : List UInt8} (h : RwM w g l n) (hb : Below w.heap.size w w') : RwM w' g l n := World.rowIs.of_block h (hb.block g h.lt)
theorem RwM.bs {w : World} {g n : Nat} {l : List UInt8} (h : RwM w g l n) : sm.Bs w (some ⟨g, 0, none⟩) n (inB l) := sm.Bs.row h
theorem RwM.wb {w : World} {g n : Nat} {l : List UInt8} (h : RwM w g l n) : WB w g n := fun j hj => ⟨by rw [World.rowIs.cell h hj]; rfl, World.rowIs.frozen h j⟩

theorem wt_appM (ss : List Sp) (x : Sp) : wt (ss ++ [x]) = wt ss + 1 + x.d.length := by
  unfold wt wtS
  rw [List.take_length, List.take_length]
  simp
  omega
theorem wt_addB (X : List Sp) (y : UInt8) : wt (addB X y) ≤ wt X + 2 := by
  unfold addB
  cases hl : X.getLast? with
  | none =>
    have : X = [] := List.getLast?_eq_none_iff.1 hl
    subst this
    simp [wt, wtS]
  | some x =>
    obtain ⟨X', rfl⟩ := List.getLast?_eq_some_iff.1 hl
    simp only
    split
    · rw [List.dropLast_concat, wt_appM, wt_appM]
      simp
      omega
    · rw [wt_appM]
      simp
theorem wt_mkA (old : List UInt8) : ∀ (f : Nat) (rest : List UInt8) (X : List Sp), wt (mkA old f rest X) ≤ wt X + 2 * rest.length
  | 0, rest, X => by unfold mkA; omega
  | f + 1, [], X => by unfold mkA; omega
  | f + 1, y :: r, X => by
    rw [mkA]
    split
    · next h =>
      have ih := wt_mkA old f ((y :: r).drop (fd old (y :: r) old.length).2) (X ++ [⟨1, ((fd old (y :: r) old.length).1 : Int), ((fd old (y :: r) old.length).2 : Int), []⟩])
      rw [wt_appM, List.length_drop] at ih
      have h2 := fd_rest old (y :: r) old.length
      simp at ih h2 ⊢
      omega
    · have ih := wt_mkA old f r (addB X y)
      have h2 := wt_addB X y
      simp
      omega
theorem wt_mkB (old fresh : List UInt8) : wt (mkB' old fresh) ≤ 6000 := by
  unfold mkB'
  split
  · have := wt_mkA old fresh.length fresh []
    have h0 : wt [] = 0 := rfl
    omega
  · have h0 : wt [] = 0 := rfl
    omega

theorem res_ow {w w' : World} {X : List Sp} {e : Ending} (h : MkRes w w' X e) : (∃ G cap gs base, e = .returned (.slice (some ⟨G, 0, none⟩) X.length cap) ∧ w.heap.size ≤ base ∧ OwS base w'.heap.size w' G gs X) ∧ Below w.heap.size w w' := by
  obtain ⟨v, zs, base, rfl, hx, hb, hrow, hbl⟩ := h
  obtain ⟨G, cap, gs, rfl, ho⟩ := hrow.ow
  rw [hx] at ho ⊢
  exact ⟨⟨G, cap, gs, base, rfl, hb, ho⟩, hbl⟩

set_option maxRecDepth 100000 in
set_option maxHeartbeats 8000000 in
theorem mk_law (a0 : Option Addr) (on cap0 : Nat) (l0 : List UInt8) (a1 : Option Addr) (nn cap1 : Nat) (l1 : List UInt8) (w : World) (hb0 : sm.Bs w a0 on (inB l0)) (hon : on = l0.length) (hb1 : sm.Bs w a1 nn (inB l1)) (hnn : nn = l1.length) :
    Calls Try.prog 3 #[.slice a0 on cap0, .slice a1 nn cap1] w fun e w' => e = .returned (.bool true) ∧ Below w.heap.size w w' := by
  by_cases hf : 1048576 < on
  · have hf' : (1048576 : Int) < (on : Int) := by omega
    go_enter Try.func3, Try.ntmps3
    go_wp2
    go_ret
    exact ⟨rfl, Below.refl _ _⟩
  have hf' : ¬ (1048576 : Int) < (on : Int) := by omega
  by_cases hg : 1048576 < nn
  · have hg' : (1048576 : Int) < (nn : Int) := by omega
    go_enter Try.func3, Try.ntmps3
    go_wp2
    go_ret
    exact ⟨rfl, Below.refl _ _⟩
  have hg' : ¬ (1048576 : Int) < (nn : Int) := by omega
  have hon2 : on ≤ 1048576 := by omega
  have hnn2 : nn ≤ 1048576 := by omega
  obtain ⟨X, hXE⟩ : ∃ X, mkB' l0 l1 = X := ⟨_, rfl⟩
  have hX : wt X ≤ 6000 := by rw [← hXE]; exact wt_mkB _ _
  have HW : Hid (wt X ≤ 1048576) := by show _ ≤ _; omega
  have HT0 : Hid (∀ W, Below w.heap.size w W → Calls Try.prog 6 #[.slice a0 on cap0] W fun e w' => e = .returned (.slice (some ⟨W.heap.size, 0, none⟩) on on) ∧ RwM w' W.heap.size l0 on ∧ Below W.heap.size W w') := fun W hW => sm.to_any a0 on cap0 (inB l0) W (hb0.below hW) (by omega)
  have HT1 : Hid (∀ W, Below w.heap.size w W → Calls Try.prog 6 #[.slice a1 nn cap1] W fun e w' => e = .returned (.slice (some ⟨W.heap.size, 0, none⟩) nn nn) ∧ RwM w' W.heap.size l1 nn ∧ Below W.heap.size W w') := fun W hW => sm.to_any a1 nn cap1 (inB l1) W (hb1.below hW) (by omega)
  obtain ⟨n, hnE⟩ : ∃ n, X.length = n := ⟨_, rfl⟩
  have HSP : Hid (∀ (W : World) b b', RwM W b l0 on → RwM W b' l1 nn → Calls Try.prog 5 #[.slice (some ⟨b, 0, none⟩) on on, .slice (some ⟨b', 0, none⟩) nn nn] W fun e w' => (∃ G cap gs base, e = .returned (.slice (some ⟨G, 0, none⟩) n cap) ∧ W.heap.size ≤ base ∧ OwS base w'.heap.size w' G gs X) ∧ Below W.heap.size W w') := fun W b b' h0 h1 => by
    rw [← hnE, ← hXE]
    exact (smk_any b b' on nn l0 l1 hon.symm hnn.symm hon2 hnn2 W (h0.by hon.symm) (h1.by hnn.symm) h0.lt h1.lt).mono fun e w' h => res_ow h
  have HIP : Hid (∀ (W : World) b b', RwM W b l0 on → RwM W b' l1 nn → Calls Try.prog 7 #[.slice (some ⟨b, 0, none⟩) on on, .slice (some ⟨b', 0, none⟩) nn nn] W fun e w' => (∃ G cap gs base, e = .returned (.slice (some ⟨G, 0, none⟩) n cap) ∧ W.heap.size ≤ base ∧ OwS base w'.heap.size w' G gs X) ∧ Below W.heap.size W w') := fun W b b' h0 h1 => by
    rw [← hnE, ← hXE]
    exact (imk_any b b' on nn l0 l1 hon.symm hnn.symm hon2 hnn2 W (h0.by hon.symm) (h1.by hnn.symm) h0.lt h1.lt).mono fun e w' h => res_ow h
  have HE0 : Hid (∀ (W : World) g g', RwM W g l0 on → RwM W g' l0 on → Calls Try.prog 9 #[.slice (some ⟨g, 0, none⟩) on on, .slice (some ⟨g', 0, none⟩) on on] W fun e w' => e = .returned (.bool true) ∧ Below W.heap.size W w') := fun W g g' h1 h2 => (sm.eq_any _ _ _ _ _ _ _ h1.bs h2.bs (by omega)).mono fun e w' ⟨he, q, hq⟩ => ⟨he, by rw [hq]; exact Go.below_drewN (Below.refl _ _) _⟩
  have HE1 : Hid (∀ (W : World) g g', RwM W g l1 nn → RwM W g' l1 nn → Calls Try.prog 9 #[.slice (some ⟨g, 0, none⟩) nn nn, .slice (some ⟨g', 0, none⟩) nn nn] W fun e w' => e = .returned (.bool true) ∧ Below W.heap.size W w') := fun W g g' h1 h2 => (sm.eq_any _ _ _ _ _ _ _ h1.bs h2.bs (by omega)).mono fun e w' ⟨he, q, hq⟩ => ⟨he, by rw [hq]; exact Go.below_drewN (Below.refl _ _) _⟩
  have HES : Hid (∀ (W : World) b b' c c', SrcS W (some ⟨b, 0, none⟩) X → SrcS W (some ⟨b', 0, none⟩) X → Calls Try.prog 8 #[.slice (some ⟨b, 0, none⟩) n c, .slice (some ⟨b', 0, none⟩) n c'] W fun e w' => e = .returned (.bool true) ∧ Below W.heap.size W w') := fun W b b' c c' h1 h2 => by rw [← hnE]; exact eqS_any _ _ _ _ X W h1 h2 HW.out
  obtain ⟨K0, hK0⟩ : ∃ K, 1 + on = K := ⟨_, rfl⟩
  obtain ⟨K1, hK1⟩ : ∃ K, K0 + nn = K := ⟨_, rfl⟩
  obtain ⟨K, hK⟩ : ∃ K, kAt 1 X X.length = K := ⟨_, rfl⟩
  have HM0 : Hid (∀ (W : World) g, RwM W g l0 on → Calls Try.prog 10 #[.slice (some ⟨g, 0, none⟩) on on, .int .i64 1] W fun e w' => e = .returned (.int .i64 (K0 : Int)) ∧ W.grownBy w' (some g)) := fun W g h => by
    have := markB_any (some ⟨g, 0, none⟩) g on on 1 W (.inr rfl) h.wb (by omega)
    rw [hK0] at this
    exact this.mono fun e w' ⟨h1, _, _, h4⟩ => ⟨h1, h4⟩
  have HM1 : Hid (∀ (W : World) g, RwM W g l1 nn → Calls Try.prog 10 #[.slice (some ⟨g, 0, none⟩) nn nn, .int .i64 (K0 : Int)] W fun e w' => e = .returned (.int .i64 (K1 : Int)) ∧ W.grownBy w' (some g)) := fun W g h => by
    have := markB_any (some ⟨g, 0, none⟩) g nn nn K0 W (.inr rfl) h.wb (by omega)
    rw [hK1] at this
    exact this.mono fun e w' ⟨h1, _, _, h4⟩ => ⟨h1, h4⟩
  have HMS : Hid (∀ (W : World) lo hi b gs c, OwS lo hi W b gs X → Calls Try.prog 11 #[.slice (some ⟨b, 0, none⟩) n c, .int .i64 1] W fun e w' => e = .returned (.int .i64 (K : Int)) ∧ OwS lo hi w' b gs (mkS 1 X) ∧ Mid lo hi W w') := fun W lo hi b gs c ho => by
    rw [← hnE, ← hK]
    exact markS_any lo hi b c 1 gs X W ho HW.out (by omega)
  have HHS : Hid (∀ (W : World) lo hi b gs c, OwS lo hi W b gs (mkS 1 X) → Calls Try.prog 12 #[.slice (some ⟨b, 0, none⟩) n c, .int .i64 1] W fun e w' => e = .returned (.int .i64 (K : Int)) ∧ Below W.heap.size W w') := fun W lo hi b gs c ho => by
    rw [← hnE, ← hK]
    exact heldS_any lo hi b c 1 gs X W ho HW.out (by omega)
  have hk1 : ¬ (K1 : Int) < 0 := by omega
  have hk2 : ¬ (K : Int) < 0 := by omega
  clear hnE hK hK0 hK1 hon hnn hf hg hon2 hnn2 hX hXE hb0 hb1
  go_enter Try.func3, Try.ntmps3
  have HFL : Hid True := trivial
  go_wp2_with (first | (go_at_call 6; refine (HT0.out _ (Below.refl _ _)).mono ?_; rintro e w1 ⟨rfl, hr1, B1⟩; refine Hid.out ?_) | go_in)
  refine Lib.hid ?_
  have HR1 : Hid (RwM w1 w.heap.size l0 on) := hr1
  clear hr1
  go_wp2_with (first | (go_at_call 6; refine (HT1.out _ B1).mono ?_; rintro e w2 ⟨rfl, hr2, hl2⟩; refine Hid.out ?_) | go_in)
  refine Lib.hid ?_
  have B2 : Below w.heap.size w w2 := B1.trans (hl2.mono B1.size)
  have HR2 : Hid (RwM w2 w1.heap.size l1 nn) := hr2
  have HR12 : Hid (RwM w2 w.heap.size l0 on) := HR1.out.below hl2
  clear hr2 hl2
  go_wp2_with (first | (go_at_call 5; refine (HSP.out _ _ _ HR12.out HR2.out).mono ?_; rintro e w3 ⟨⟨G3, c3, gs3, bs3, rfl, hbs3, ho3⟩, hl3⟩; refine Hid.out ?_) | go_in)
  refine Lib.hid ?_
  have B3 : Below w.heap.size w w3 := B2.trans (hl3.mono B2.size)
  have HO3 : Hid (OwS bs3 w3.heap.size w3 G3 gs3 X) := ho3
  clear ho3
  go_wp2_with (first | (go_at_call 6; refine (HT0.out _ B3).mono ?_; rintro e w4 ⟨rfl, hr4, hl4⟩; refine Hid.out ?_) | go_in)
  refine Lib.hid ?_
  have B4 : Below w.heap.size w w4 := B3.trans (hl4.mono B3.size)
  have HR4 : Hid (RwM w4 w3.heap.size l0 on) := hr4
  have HO34 : Hid (OwS bs3 w3.heap.size w4 G3 gs3 X) := HO3.out.below hl4
  have hlt4 : w3.heap.size < w4.heap.size := World.rowIs.lt hr4
  clear hr4 hl4
  go_wp2_with (first | (go_at_call 6; refine (HT1.out _ B4).mono ?_; rintro e w5 ⟨rfl, hr5, hl5⟩; refine Hid.out ?_) | go_in)
  refine Lib.hid ?_
  have B5 : Below w.heap.size w w5 := B4.trans (hl5.mono B4.size)
  have HR5 : Hid (RwM w5 w4.heap.size l1 nn) := hr5
  have HR45 : Hid (RwM w5 w3.heap.size l0 on) := HR4.out.below hl5
  have HO35 : Hid (OwS bs3 w3.heap.size w5 G3 gs3 X) := HO34.out.below hl5
  have hlt5 : w4.heap.size < w5.heap.size := World.rowIs.lt hr5
  clear hr5 hl5
  go_wp2_with (first | (go_at_call 7; refine (HIP.out _ _ _ HR45.out HR5.out).mono ?_; rintro e w6 ⟨⟨G6, c6, gs6, bs6, rfl, hbs6, ho6⟩, hl6⟩; refine Hid.out ?_) | go_in)
  refine Lib.hid ?_
  have B6 : Below w.heap.size w w6 := B5.trans (hl6.mono B5.size)
  have HO6 : Hid (OwS bs6 w6.heap.size w6 G6 gs6 X) := ho6
  have HO36 : Hid (OwS bs3 w3.heap.size w6 G3 gs3 X) := HO35.out.below hl6
  have HA6 : Hid (RwM w6 w3.heap.size l0 on) := HR45.out.below hl6
  have HC6 : Hid (RwM w6 w4.heap.size l1 nn) := HR5.out.below hl6
  clear ho6 hl6
  go_wp2_with (first | (go_at_call 8; refine (HES.out _ _ _ _ _ HO6.out.src HO36.out.src).mono ?_; rintro e w7 ⟨rfl, hl7⟩; refine Hid.out ?_) | go_in)
  refine Lib.hid ?_
  have B7 : Below w.heap.size w w7 := B6.trans (hl7.mono B6.size)
  have D7 : Below w6.heap.size w6 w7 := hl7
  clear hl7
  go_wp2_with (first | (go_at_call 6; refine (HT0.out _ B7).mono ?_; rintro e w8 ⟨rfl, hr8, hl8⟩; refine Hid.out ?_) | go_in)
  refine Lib.hid ?_
  have B8 : Below w.heap.size w w8 := B7.trans (hl8.mono B7.size)
  have D8 : Below w6.heap.size w6 w8 := D7.trans (hl8.mono D7.size)
  have HR8 : Hid (RwM w8 w7.heap.size l0 on) := hr8
  have HA8 : Hid (RwM w8 w3.heap.size l0 on) := HA6.out.below D8
  clear hr8 hl8 D7
  go_wp2_with (first | (go_at_call 9; refine (HE0.out _ _ _ HA8.out HR8.out).mono ?_; rintro e w9 ⟨rfl, hl9⟩; refine Hid.out ?_) | go_in)
  refine Lib.hid ?_
  have B9 : Below w.heap.size w w9 := B8.trans (hl9.mono B8.size)
  have D9 : Below w6.heap.size w6 w9 := D8.trans (hl9.mono D8.size)
  clear hl9 D8
  go_wp2_with (first | (go_at_call 6; refine (HT1.out _ B9).mono ?_; rintro e w10 ⟨rfl, hr10, hl10⟩; refine Hid.out ?_) | go_in)
  refine Lib.hid ?_
  have B10 : Below w.heap.size w w10 := B9.trans (hl10.mono B9.size)
  have D10 : Below w6.heap.size w6 w10 := D9.trans (hl10.mono D9.size)
  have HR10 : Hid (RwM w10 w9.heap.size l1 nn) := hr10
  have HC10 : Hid (RwM w10 w4.heap.size l1 nn) := HC6.out.below D10
  clear hr10 hl10 D9
  go_wp2_with (first | (go_at_call 9; refine (HE1.out _ _ _ HC10.out HR10.out).mono ?_; rintro e w11 ⟨rfl, hl11⟩; refine Hid.out ?_) | go_in)
  refine Lib.hid ?_
  have B11 : Below w.heap.size w w11 := B10.trans (hl11.mono B10.size)
  have D11 : Below w6.heap.size w6 w11 := D10.trans (hl11.mono D10.size)
  have HA11 : Hid (RwM w11 w3.heap.size l0 on) := HA6.out.below D11
  have HC11 : Hid (RwM w11 w4.heap.size l1 nn) := HC6.out.below D11
  have HO11 : Hid (OwS bs6 w6.heap.size w11 G6 gs6 X) := HO6.out.below D11
  have HP11 : Hid (OwS bs3 w3.heap.size w11 G3 gs3 X) := HO36.out.below D11
  have hs3 := B3.size
  have hs4 := B4.size
  clear hl11 D10 D11
  go_wp2_with (first | (go_at_call 10; refine (HM0.out _ _ HA11.out).mono ?_; rintro e w12 ⟨rfl, hg12⟩; refine Hid.out ?_) | go_in)
  refine Lib.hid ?_
  have B12 : Below w.heap.size w w12 := bel_grownM B11 hg12 B11.size hs3
  have HC12 : Hid (RwM w12 w4.heap.size l1 nn) := World.rowIs.of_block HC11.out (hg12.block w4.heap.size HC11.out.lt (fun e => by have := Option.some.inj e; omega))
  have HO12 : Hid (OwS bs6 w6.heap.size w12 G6 gs6 X) := HO11.out.kept hg12.size (fun k h1 h2 => hg12.block k (Nat.lt_of_lt_of_le h2 HO11.out.hi_le) (fun e => by have := Option.some.inj e; omega))
  have HP12 : Hid (OwS bs3 w3.heap.size w12 G3 gs3 X) := HP11.out.kept hg12.size (fun k h1 h2 => hg12.block k (Nat.lt_of_lt_of_le h2 HP11.out.hi_le) (fun e => by have := Option.some.inj e; omega))
  clear hg12
  go_wp2_with (first | (go_at_call 10; refine (HM1.out _ _ HC12.out).mono ?_; rintro e w13 ⟨rfl, hg13⟩; refine Hid.out ?_) | go_in)
  refine Lib.hid ?_
  have B13 : Below w.heap.size w w13 := bel_grownM B12 hg13 B12.size hs4
  have HO13 : Hid (OwS bs6 w6.heap.size w13 G6 gs6 X) := HO12.out.kept hg13.size (fun k h1 h2 => hg13.block k (Nat.lt_of_lt_of_le h2 HO12.out.hi_le) (fun e => by have := Option.some.inj e; omega))
  have HP13 : Hid (OwS bs3 w3.heap.size w13 G3 gs3 X) := HP12.out.kept hg13.size (fun k h1 h2 => hg13.block k (Nat.lt_of_lt_of_le h2 HP12.out.hi_le) (fun e => by have := Option.some.inj e; omega))
  clear hg13
  go_wp2_with (first | (go_at_call 8; refine (HES.out _ _ _ _ _ HO13.out.src HP13.out.src).mono ?_; rintro e w14 ⟨rfl, hl14⟩; refine Hid.out ?_) | go_in)
  refine Lib.hid ?_
  have B14 : Below w.heap.size w w14 := B13.trans (hl14.mono B13.size)
  have HO14 : Hid (OwS bs6 w6.heap.size w14 G6 gs6 X) := HO13.out.below hl14
  have HP14 : Hid (OwS bs3 w3.heap.size w14 G3 gs3 X) := HP13.out.below hl14
  have hsb6 : w.heap.size ≤ bs6 := Nat.le_trans B5.size hbs6
  clear hl14
  go_wp2_with (first | (go_at_call 11; refine (HMS.out _ _ _ _ _ _ HO14.out).mono ?_; rintro e w15 ⟨rfl, hm15, hd15⟩; refine Hid.out ?_) | go_in)
  refine Lib.hid ?_
  have B15 : Below w.heap.size w w15 := B14.trans (hd15.toBelow hsb6 B14.size)
  have HM15 : Hid (OwS bs6 w6.heap.size w15 G6 gs6 (mkS 1 X)) := hm15
  have HP15 : Hid (OwS bs3 w3.heap.size w15 G3 gs3 X) := HP14.out.kept hd15.size (fun k h1 h2 => hd15.block k (Nat.lt_of_lt_of_le h2 HP14.out.hi_le) (.inl (by omega)))
  clear hm15 hd15
  go_wp2_with (first | (go_at_call 12; refine (HHS.out _ _ _ _ _ _ HM15.out).mono ?_; rintro e w16 ⟨rfl, hl16⟩; refine Hid.out ?_) | go_in)
  refine Lib.hid ?_
  have B16 : Below w.heap.size w w16 := B15.trans (hl16.mono B15.size)
  have HM16 : Hid (OwS bs6 w6.heap.size w16 G6 gs6 (mkS 1 X)) := HM15.out.below hl16
  have HP16 : Hid (OwS bs3 w3.heap.size w16 G3 gs3 X) := HP15.out.below hl16
  clear hl16
  go_wp2_with (first | (go_at_call 6; refine (HT0.out _ B16).mono ?_; rintro e w17 ⟨rfl, hr17, hl17⟩; refine Hid.out ?_) | go_in)
  refine Lib.hid ?_
  have B17 : Below w.heap.size w w17 := B16.trans (hl17.mono B16.size)
  have HR17 : Hid (RwM w17 w16.heap.size l0 on) := hr17
  have D17 : Below w16.heap.size w16 w17 := hl17
  clear hr17 hl17
  go_wp2_with (first | (go_at_call 6; refine (HT1.out _ B17).mono ?_; rintro e w18 ⟨rfl, hr18, hl18⟩; refine Hid.out ?_) | go_in)
  refine Lib.hid ?_
  have B18 : Below w.heap.size w w18 := B17.trans (hl18.mono B17.size)
  have HR18 : Hid (RwM w18 w17.heap.size l1 nn) := hr18
  have HR1718 : Hid (RwM w18 w16.heap.size l0 on) := HR17.out.below hl18
  have D18 : Below w16.heap.size w16 w18 := D17.trans (hl18.mono D17.size)
  clear hr18 hl18 D17
  go_wp2_with (first | (go_at_call 7; refine (HIP.out _ _ _ HR1718.out HR18.out).mono ?_; rintro e w19 ⟨⟨G19, c19, gs19, bs19, rfl, hbs19, ho19⟩, hl19⟩; refine Hid.out ?_) | go_in)
  refine Lib.hid ?_
  have B19 : Below w.heap.size w w19 := B18.trans (hl19.mono B18.size)
  have D19 : Below w16.heap.size w16 w19 := D18.trans (hl19.mono D18.size)
  have HO19 : Hid (OwS bs19 w19.heap.size w19 G19 gs19 X) := ho19
  have HP19 : Hid (OwS bs3 w3.heap.size w19 G3 gs3 X) := HP16.out.below D19
  have HM19 : Hid (OwS bs6 w6.heap.size w19 G6 gs6 (mkS 1 X)) := HM16.out.below D19
  clear ho19 hl19 D18 D19
  go_wp2_with (first | (go_at_call 8; refine (HES.out _ _ _ _ _ HO19.out.src HP19.out.src).mono ?_; rintro e w20 ⟨rfl, hl20⟩; refine Hid.out ?_) | go_in)
  refine Lib.hid ?_
  have B20 : Below w.heap.size w w20 := B19.trans (hl20.mono B19.size)
  have HM20 : Hid (OwS bs6 w6.heap.size w20 G6 gs6 (mkS 1 X)) := HM19.out.below hl20
  clear hl20
  go_wp2_with (first | (go_at_call 12; refine (HHS.out _ _ _ _ _ _ HM20.out).mono ?_; rintro e w21 ⟨rfl, hl21⟩; refine Hid.out ?_) | go_in)
  refine Lib.hid ?_
  have B21 : Below w.heap.size w w21 := B20.trans (hl21.mono B20.size)
  clear hl21
  go_wp2
  go_ret
  exact ⟨rfl, B21⟩

end Go.Proofs.Ytfkeoifdldhdcaa.dl
