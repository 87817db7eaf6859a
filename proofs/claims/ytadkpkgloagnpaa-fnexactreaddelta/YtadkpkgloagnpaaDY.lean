import Derived.Test.YtadkpkgloagnpaaDR
import Derived.Test.YtadkpkgloagnpaaDN
import Derived.Test.YtadkpkgloagnpaaDK
namespace Go.Proofs.Ytadkpkgloagnpaa.dl
open Go.ChangeShapes Go.WideShapes Go.ChangeAt Go.RowKit Go.Deep
open bf (Bf Ap)
set_option linter.unusedVariables false
set_option linter.unusedSimpArgs false

/-! ### FnExactApplyDelta's walk -/

theorem bs_bf' {base : Nat} {w : World} {g cap z : Nat} {l : List UInt8} (hz : z = l.length) (h : Bf base w g cap l) : sm.Bs w (some ⟨g, 0, none⟩) z (inB l) := by
  subst hz
  exact .inr ⟨g, 0, rfl, fun i hi => by rw [Nat.zero_add, h.cells i hi, inB_at l i hi]⟩
theorem bel_grown' {B b : Nat} {w w1 w2 : World} (h : Below B w w1) (hg : w1.grownBy w2 (some b)) (hB : B ≤ w1.heap.size) (hb : B ≤ b) : Below B w w2 := h.grown hg hB (fun k hk => by cases hk; exact hb)
theorem OwS.rd' {lo hi : Nat} {w : World} {b : Nat} {gs : Nat → Nat} {ss : List Sp} (h : OwS lo hi w b gs ss) : Rd w b 0 ss := fun i x hx => by
  rcases h.src with h' | ⟨b', o', e, h'⟩
  · rw [h'] at hx; simp at hx
  · cases e; exact h' i x hx

/-- A row of bytes as it is copied. -/
def RwB (w : World) (g : Nat) (l : List UInt8) (n : Nat) : Prop := w.rowIs g 5 n (fun i => .int .u8 ((inB l)[i]?.getD 0))
theorem RwB.by {w : World} {g n : Nat} {l : List UInt8} (h : RwB w g l n) (hn : l.length = n) : By w g l := fun j hj => by rw [World.rowIs.cell h (by omega), inB_at l j hj]
theorem RwB.lt {w : World} {g n : Nat} {l : List UInt8} (h : RwB w g l n) : g < w.heap.size := World.rowIs.lt h
theorem RwB.below {w w' : World} {g n : Nat} {l : List UInt8} (h : RwB w g l n) (hb : Below w.heap.size w w') : RwB w' g l n := World.rowIs.of_block h (hb.block g h.lt)
theorem RwB.bs {w : World} {g n : Nat} {l : List UInt8} (h : RwB w g l n) : sm.Bs w (some ⟨g, 0, none⟩) n (inB l) := sm.Bs.row h
theorem RwB.wb {w : World} {g n : Nat} {l : List UInt8} (h : RwB w g l n) : WB w g n := fun j hj => ⟨by rw [World.rowIs.cell h hj]; rfl, World.rowIs.frozen h j⟩

set_option maxRecDepth 100000 in
set_option maxHeartbeats 4000000 in
theorem ad_law (a0 : Option Addr) (on cap0 : Nat) (old : List UInt8) (a1 : Option Addr) (cap1 : Nat) (ss : List Sp) (w : World) (hb0 : sm.Bs w a0 on (inB old)) (hon : old.length = on) (hb : SrcS w a1 ss) (hs : SmS ss) :
    Calls Try.prog 3 #[.slice a0 on cap0, .slice a1 ss.length cap1] w fun e w' => e = .returned (.bool true) ∧ Below w.heap.size w w' := by
  by_cases hf : 1048576 < on
  · have hf' : (1048576 : Int) < (on : Int) := by omega
    go_enter Try.func3, Try.ntmps3
    go_wp2
    go_ret
    exact ⟨rfl, Below.refl _ _⟩
  have hf' : ¬ (1048576 : Int) < (on : Int) := by omega
  have hon2 : on ≤ 1048576 := by omega
  have HI : Hid (∀ x ∈ ss, I64 x.p ∧ I64 x.n) := fun x hx => ⟨(hs.2 x hx).2.2.1, (hs.2 x hx).2.2.2⟩
  have HSZ : Hid (Calls Try.prog 8 #[.slice a1 ss.length cap1, .int .i64 1048576] w fun e w' => (∃ r : Int, e = .returned (.int .i64 r) ∧ (r = -1 ∨ 0 ≤ r ∧ r = 1048576 - (wt ss : Int))) ∧ Below w.heap.size w w') := szS_any a1 cap1 ss w hb hs
  have HTO : Hid (∀ W, Below w.heap.size w W → wt ss ≤ 1048576 → Calls Try.prog 11 #[.slice a1 ss.length cap1] W fun e w' => e = .returned (.slice (some ⟨W.heap.size, 0, none⟩) ss.length ss.length) ∧ (∃ gs, OwS W.heap.size w'.heap.size w' W.heap.size gs ss) ∧ Below W.heap.size W w') := fun W hW hw => toS_any a1 cap1 ss W (hb.below hW) hw
  have HTB : Hid (∀ W, Below w.heap.size w W → Calls Try.prog 10 #[.slice a0 on cap0] W fun e w' => e = .returned (.slice (some ⟨W.heap.size, 0, none⟩) on on) ∧ RwB w' W.heap.size old on ∧ Below W.heap.size W w') := fun W hW => sm.to_any a0 on cap0 (inB old) W (hb0.below hW) (by omega)
  clear hb hs hb0
  obtain ⟨l, hl⟩ : ∃ l, l = adB old ss := ⟨_, rfl⟩
  obtain ⟨ok, hok⟩ : ∃ ok, ok = adOk old ss := ⟨_, rfl⟩
  have HLL : Hid (l.length ≤ 1000000) := by
    show _ ≤ _
    rw [hl]
    cases h : adOk old ss with
    | false => rw [adB_no h]; simp
    | true => rw [adB_yes h]; exact (adOk_iff.1 h).2.2
  obtain ⟨n, hnn⟩ : ∃ n, ss.length = n := ⟨_, rfl⟩
  have HSP : Hid (∀ (W : World) ob b, By W ob old → ob < W.heap.size → Rd W b 0 ss → wt ss ≤ 1048576 → Calls Try.prog 9 #[.slice (some ⟨ob, 0, none⟩) on on, .slice (some ⟨b, 0, none⟩) n n] W fun e w' => (∃ g c z, e = .returned (.tuple #[.slice (some ⟨g, 0, none⟩) z c, .bool ok]) ∧ Bys W w' l g c z) ∧ Below W.heap.size W w') := fun W ob b ho hlt hE hw => by rw [hl, hok, ← hnn]; exact sad_any ob b 0 ss.length old ss W ho hlt (by omega) hE hw on hon
  have HIP : Hid (∀ (W : World) ob b, By W ob old → ob < W.heap.size → Rd W b 0 ss → wt ss ≤ 1048576 → Calls Try.prog 12 #[.slice (some ⟨ob, 0, none⟩) on on, .slice (some ⟨b, 0, none⟩) n n] W fun e w' => (∃ g c z, e = .returned (.tuple #[.slice (some ⟨g, 0, none⟩) z c, .bool ok]) ∧ Bys W w' l g c z) ∧ Below W.heap.size W w') := fun W ob b ho hlt hE hw => by rw [hl, hok, ← hnn]; exact iad_any ob b 0 ss.length old ss W ho hlt hE hw HI.out on hon hon2
  have HEB : Hid (∀ (W : World) g g' c c' z base base', z = l.length → Bf base W g c l → Bf base' W g' c' l → Calls Try.prog 13 #[.slice (some ⟨g, 0, none⟩) z c, .slice (some ⟨g', 0, none⟩) z c'] W fun e w' => e = .returned (.bool true) ∧ Below W.heap.size W w') := fun W g g' c c' z base base' hz h1 h2 => (sm.eq_any _ _ _ _ _ _ _ (bs_bf' hz h1) (bs_bf' hz h2) (by have := HLL.out; omega)).mono fun e w' ⟨he, q, hq⟩ => ⟨he, by rw [hq]; exact bel_drewN _ _⟩
  have HEO : Hid (∀ (W : World) g g', RwB W g old on → RwB W g' old on → Calls Try.prog 13 #[.slice (some ⟨g, 0, none⟩) on on, .slice (some ⟨g', 0, none⟩) on on] W fun e w' => e = .returned (.bool true) ∧ Below W.heap.size W w') := fun W g g' h1 h2 => (sm.eq_any _ _ _ _ _ _ _ h1.bs h2.bs (by omega)).mono fun e w' ⟨he, q, hq⟩ => ⟨he, by rw [hq]; exact bel_drewN _ _⟩
  have HES : Hid (∀ (W : World) b b', SrcS W (some ⟨b, 0, none⟩) ss → SrcS W (some ⟨b', 0, none⟩) ss → wt ss ≤ 1048576 → Calls Try.prog 14 #[.slice (some ⟨b, 0, none⟩) n n, .slice (some ⟨b', 0, none⟩) n n] W fun e w' => e = .returned (.bool true) ∧ Below W.heap.size W w') := fun W b b' h1 h2 hw => by rw [← hnn]; exact eqS_any _ _ _ _ ss W h1 h2 hw
  obtain ⟨K1, hK1⟩ : ∃ K, 1 + on = K := ⟨_, rfl⟩
  obtain ⟨K, hK⟩ : ∃ K, kAt K1 ss ss.length = K := ⟨_, rfl⟩
  have HMO : Hid (∀ (W : World) g, RwB W g old on → Calls Try.prog 15 #[.slice (some ⟨g, 0, none⟩) on on, .int .i64 1] W fun e w' => e = .returned (.int .i64 (K1 : Int)) ∧ W.grownBy w' (some g)) := fun W g h => by
    have := markB_any (some ⟨g, 0, none⟩) g on on 1 W (.inr rfl) h.wb (by omega)
    rw [hK1] at this
    exact this.mono fun e w' ⟨h1, _, _, h4⟩ => ⟨h1, h4⟩
  have HMS : Hid (∀ (W : World) lo hi b gs, OwS lo hi W b gs ss → wt ss ≤ 1048576 → Calls Try.prog 16 #[.slice (some ⟨b, 0, none⟩) n n, .int .i64 (K1 : Int)] W fun e w' => e = .returned (.int .i64 (K : Int)) ∧ Mid lo hi W w') := fun W lo hi b gs ho hw => by
    rw [← hnn, ← hK]
    exact (markS_any lo hi b ss.length K1 gs ss W ho hw (by omega)).mono fun e w' ⟨h1, _, h3⟩ => ⟨h1, h3⟩
  have HON : Hid (old.length = on) := hon
  rw [hnn] at HSZ HTO ⊢
  clear hl hnn hK hK1 hok hon hf hon2
  go_enter Try.func3, Try.ntmps3
  go_wp2_with (go_at_call 8; refine HSZ.out.mono ?_; rintro e w1 ⟨⟨r, rfl, hr⟩, hl1⟩)
  · go_ret
    exact ⟨rfl, hl1⟩
  · have hw : wt ss ≤ 1048576 := by obtain ⟨h1, h2⟩ := hr.resolve_left (by omega); omega
    have HW : Hid (wt ss ≤ 1048576) := hw
    clear hr hw
    have s1 := hl1.size
    go_wp2_with (go_at_call 10; refine (HTB.out _ hl1).mono ?_; rintro e wA ⟨rfl, hrA, hlA⟩; refine Hid.out ?_)
    refine Lib.hid ?_
    have BA : Below w.heap.size w wA := hl1.trans (hlA.mono s1)
    have HRA : Hid (RwB wA w1.heap.size old on) := hrA
    clear hrA
    go_wp2_with (go_at_call 11; refine (HTO.out _ BA HW.out).mono ?_; rintro e w2 ⟨rfl, ⟨gs2, ho2⟩, hl2⟩; refine Hid.out ?_)
    refine Lib.hid ?_
    have B2 : Below w.heap.size w w2 := BA.trans (hl2.mono BA.size)
    have HR2 : Hid (RwB w2 w1.heap.size old on) := HRA.out.below hl2
    go_wp2_with (go_at_call 9; refine (HSP.out _ _ _ (HR2.out.by HON.out) HR2.out.lt ho2.rd' HW.out).mono ?_; rintro e w3 ⟨⟨g3, c3, z3, rfl, hz3, hbf3⟩, hl3⟩; have HZ : Hid (z3 = l.length) := hz3; clear hz3; refine Hid.out ?_)
    refine Lib.hid ?_
    have B3 : Below w.heap.size w w3 := B2.trans (hl3.mono B2.size)
    have HBF3 : Hid (Bf w2.heap.size w3 g3 c3 l) := hbf3
    have hg3 : g3 < w3.heap.size := hbf3.lt
    clear hbf3 ho2
    go_wp2_with (go_at_call 10; refine (HTB.out _ B3).mono ?_; rintro e wB ⟨rfl, hrB, hlB⟩; refine Hid.out ?_)
    refine Lib.hid ?_
    have BB : Below w.heap.size w wB := B3.trans (hlB.mono B3.size)
    have HRB : Hid (RwB wB w3.heap.size old on) := hrB
    have hltB : w3.heap.size < wB.heap.size := World.rowIs.lt hrB
    clear hrB
    go_wp2_with (go_at_call 11; refine (HTO.out _ BB HW.out).mono ?_; rintro e w4 ⟨rfl, ⟨gs4, ho4⟩, hl4⟩; refine Hid.out ?_)
    refine Lib.hid ?_
    have B4 : Below w.heap.size w w4 := BB.trans (hl4.mono BB.size)
    have HO4 : Hid (OwS wB.heap.size w4.heap.size w4 wB.heap.size gs4 ss) := ho4
    have hlt4 : wB.heap.size < w4.heap.size := ho4.bhi
    have HR4 : Hid (RwB w4 w3.heap.size old on) := HRB.out.below hl4
    clear ho4
    go_wp2_with (go_at_call 12; refine (HIP.out _ _ _ (HR4.out.by HON.out) HR4.out.lt HO4.out.rd' HW.out).mono ?_; rintro e w5 ⟨⟨g5, c5, z5, rfl, hz5, hbf5⟩, hl5⟩; obtain rfl : z5 = z3 := hz5.trans HZ.out.symm; clear hz5; refine Hid.out ?_)
    refine Lib.hid ?_
    have B5 : Below w.heap.size w w5 := B4.trans (hl5.mono B4.size)
    have HBF5 : Hid (Bf w4.heap.size w5 g5 c5 l) := hbf5
    have hg5 : w4.heap.size ≤ g5 := HBF5.out.new
    have b35 : Below w3.heap.size w3 w5 := (hlB.trans (hl4.mono hlB.size)).trans (hl5.mono (Nat.le_trans hlB.size hl4.size))
    have HB35 : Hid (Bf w2.heap.size w5 g3 c3 l) := HBF3.out.below b35
    have HO5 : Hid (OwS wB.heap.size w4.heap.size w5 wB.heap.size gs4 ss) := HO4.out.below hl5
    have HR5 : Hid (RwB w5 w3.heap.size old on) := HR4.out.below hl5
    clear hbf5
    go_wp2_with (go_at_call 13; refine (HEB.out _ _ _ _ _ _ _ _ HZ.out HBF5.out HB35.out).mono ?_; rintro e w6 ⟨rfl, hl6⟩; refine Hid.out ?_)
    refine Lib.hid ?_
    have B6 : Below w.heap.size w w6 := B5.trans (hl6.mono B5.size)
    have HR6 : Hid (RwB w6 w3.heap.size old on) := HR5.out.below hl6
    go_wp2_with (go_at_call 10; refine (HTB.out _ B6).mono ?_; rintro e wC ⟨rfl, hrC, hlC⟩; refine Hid.out ?_)
    refine Lib.hid ?_
    have BC : Below w.heap.size w wC := B6.trans (hlC.mono B6.size)
    have HRC : Hid (RwB wC w3.heap.size old on) := HR6.out.below hlC
    have HRN : Hid (RwB wC w6.heap.size old on) := hrC
    clear hrC
    go_wp2_with (go_at_call 13; refine (HEO.out _ _ _ HRC.out HRN.out).mono ?_; rintro e wD ⟨rfl, hlD⟩; refine Hid.out ?_)
    refine Lib.hid ?_
    have BD : Below w.heap.size w wD := BC.trans (hlD.mono BC.size)
    have HRD : Hid (RwB wD w3.heap.size old on) := HRC.out.below hlD
    go_wp2_with (go_at_call 11; refine (HTO.out _ BD HW.out).mono ?_; rintro e w7 ⟨rfl, ⟨gs7, ho7⟩, hl7⟩; refine Hid.out ?_)
    refine Lib.hid ?_
    have B7 : Below w.heap.size w w7 := BD.trans (hl7.mono BD.size)
    have b57 : Below w5.heap.size w5 w7 := ((hl6.trans (hlC.mono hl6.size)).trans (hlD.mono (Nat.le_trans hl6.size hlC.size))).trans (hl7.mono (Nat.le_trans (Nat.le_trans hl6.size hlC.size) hlD.size))
    have HO7 : Hid (OwS wB.heap.size w4.heap.size w7 wB.heap.size gs4 ss) := HO5.out.below b57
    have HR7 : Hid (RwB w7 w3.heap.size old on) := HR5.out.below b57
    go_wp2_with (go_at_call 14; refine (HES.out _ _ _ HO7.out.src ho7.src HW.out).mono ?_; rintro e w8 ⟨rfl, hl8⟩; refine Hid.out ?_)
    refine Lib.hid ?_
    have B8 : Below w.heap.size w w8 := B7.trans (hl8.mono B7.size)
    have b58 : Below w5.heap.size w5 w8 := b57.trans (hl8.mono b57.size)
    have HO8 : Hid (OwS wB.heap.size w4.heap.size w8 wB.heap.size gs4 ss) := HO7.out.below hl8
    have HR8 : Hid (RwB w8 w3.heap.size old on) := HR7.out.below hl8
    have HB58 : Hid (Bf w4.heap.size w8 g5 c5 l) := HBF5.out.below b58
    have HB38 : Hid (Bf w2.heap.size w8 g3 c3 l) := HB35.out.below b58
    have hs3 := B3.size
    have hsB := BB.size
    clear ho7
    go_wp2_with (go_at_call 15; refine (HMO.out _ _ HR8.out).mono ?_; rintro e wE ⟨rfl, hgE⟩; refine Hid.out ?_)
    refine Lib.hid ?_
    have BE : Below w.heap.size w wE := bel_grown' B8 hgE B8.size hs3
    have HOE : Hid (OwS wB.heap.size w4.heap.size wE wB.heap.size gs4 ss) := HO8.out.kept hgE.size (fun k h1 h2 => hgE.block k (Nat.lt_of_lt_of_le h2 HO8.out.hi_le) (fun e => by have := Option.some.inj e; omega))
    have HB5E : Hid (Bf w4.heap.size wE g5 c5 l) := HB58.out.kept hgE.size (hgE.block g5 HB58.out.lt (fun e => by have := Option.some.inj e; omega))
    have HB3E : Hid (Bf w2.heap.size wE g3 c3 l) := HB38.out.kept hgE.size (hgE.block g3 HB38.out.lt (fun e => by have := Option.some.inj e; omega))
    clear hgE
    go_wp2_with (go_at_call 16; refine (HMS.out _ _ _ _ _ HOE.out HW.out).mono ?_; rintro e w9 ⟨rfl, hm9⟩; refine Hid.out ?_)
    refine Lib.hid ?_
    have B9 : Below w.heap.size w w9 := BE.trans (hm9.toBelow hsB BE.size)
    have HB59 : Hid (Bf w4.heap.size w9 g5 c5 l) := HB5E.out.kept hm9.size (hm9.block g5 HB5E.out.lt (.inr (by omega)))
    have HB39 : Hid (Bf w2.heap.size w9 g3 c3 l) := HB3E.out.kept hm9.size (hm9.block g3 HB3E.out.lt (.inl (by omega)))
    have hk9 : ¬ (K : Int) < 0 := by omega
    clear hm9
    go_wp2_with (go_at_call 13; refine (HEB.out _ _ _ _ _ _ _ _ HZ.out HB59.out HB39.out).mono ?_; rintro e w10 ⟨rfl, hl10⟩; refine Hid.out ?_)
    refine Lib.hid ?_
    have B10 : Below w.heap.size w w10 := B9.trans (hl10.mono B9.size)
    have HB510 : Hid (Bf w4.heap.size w10 g5 c5 l) := HB59.out.below hl10
    have HB310 : Hid (Bf w2.heap.size w10 g3 c3 l) := HB39.out.below hl10
    have HWB : Hid (WB w10 g5 z5) := fun j hj => HB510.out.spare j (by have := HB510.out.le; have := HZ.out; omega)
    have hzb : 1 + z5 ≤ 9000000000000 := by have := HLL.out; have := HZ.out; omega
    obtain ⟨K2, hK2⟩ : ∃ K : Nat, 1 + z5 = K := ⟨_, rfl⟩
    have HMK : Hid (Calls Try.prog 15 #[.slice (some ⟨g5, 0, none⟩) z5 c5, .int .i64 1] w10 fun e w' => e = .returned (.int .i64 (K2 : Int)) ∧ MB w' g5 z5 1 ∧ w10.grownBy w' (some g5)) := by
      have := markB_any (some ⟨g5, 0, none⟩) g5 z5 c5 1 _ (.inr rfl) HWB.out hzb
      rw [hK2] at this
      exact this.mono fun e w' ⟨h1, h2, _, h4⟩ => ⟨h1, h2, h4⟩
    have HHB : Hid (∀ W, MB W g5 z5 1 → Calls Try.prog 17 #[.slice (some ⟨g5, 0, none⟩) z5 c5, .int .i64 1] W fun e w' => e = .returned (.int .i64 (K2 : Int)) ∧ w' = W) := fun W hW => by
      have := heldB_any (some ⟨g5, 0, none⟩) g5 z5 c5 1 W (.inr rfl) hW hzb
      rw [hK2] at this
      exact this
    have hk11 : ¬ (K2 : Int) < 0 := by omega
    clear hK2
    go_wp2_with (go_at_call 15; refine HMK.out.mono ?_; rintro e w11 ⟨rfl, hm11, hg11⟩; refine Hid.out ?_)
    refine Lib.hid ?_
    have s45 : w.heap.size ≤ g5 := Nat.le_trans B4.size hg5
    have B11 : Below w.heap.size w w11 := bel_grown' B10 hg11 B10.size s45
    have HB311 : Hid (Bf w2.heap.size w11 g3 c3 l) := HB310.out.kept hg11.size (hg11.block g3 HB310.out.lt (fun e => by have := Option.some.inj e; omega))
    have HMB : Hid (MB w11 g5 z5 1) := hm11
    have hlt11 : g5 < w11.heap.size := Nat.lt_of_lt_of_le HB510.out.lt hg11.size
    clear hm11 hg11
    go_wp2_with (go_at_call 17; refine (HHB.out _ HMB.out).mono ?_; rintro e w12 ⟨rfl, hw12⟩; obtain rfl := hw12.symm; refine Hid.out ?_)
    refine Lib.hid ?_
    go_wp2_with (go_at_call 10; refine (HTB.out _ B11).mono ?_; rintro e wF ⟨rfl, hrF, hlF⟩; refine Hid.out ?_)
    refine Lib.hid ?_
    have BF : Below w.heap.size w wF := B11.trans (hlF.mono B11.size)
    have HRF : Hid (RwB wF w11.heap.size old on) := hrF
    clear hrF
    go_wp2_with (go_at_call 11; refine (HTO.out _ BF HW.out).mono ?_; rintro e w13 ⟨rfl, ⟨gs13, ho13⟩, hl13⟩; refine Hid.out ?_)
    refine Lib.hid ?_
    have B13 : Below w.heap.size w w13 := BF.trans (hl13.mono BF.size)
    have HR13 : Hid (RwB w13 w11.heap.size old on) := HRF.out.below hl13
    go_wp2_with (go_at_call 12; refine (HIP.out _ _ _ (HR13.out.by HON.out) HR13.out.lt ho13.rd' HW.out).mono ?_; rintro e w14 ⟨⟨g14, c14, z14, rfl, hz14, hbf14⟩, hl14⟩; obtain rfl : z14 = z5 := hz14.trans HZ.out.symm; clear hz14; refine Hid.out ?_)
    refine Lib.hid ?_
    have B14 : Below w.heap.size w w14 := B13.trans (hl14.mono B13.size)
    have b1114 : Below w11.heap.size w11 w14 := (hlF.trans (hl13.mono hlF.size)).trans (hl14.mono (Nat.le_trans hlF.size hl13.size))
    have HB314 : Hid (Bf w2.heap.size w14 g3 c3 l) := HB311.out.below b1114
    have HB14 : Hid (Bf w13.heap.size w14 g14 c14 l) := hbf14
    have HMB14 : Hid (MB w14 g5 z14 1) := fun j hj => (b1114.cell (p := ⟨g5, j, none⟩) hlt11).trans (HMB.out j hj)
    clear hbf14 ho13
    go_wp2_with (go_at_call 13; refine (HEB.out _ _ _ _ _ _ _ _ HZ.out HB14.out HB314.out).mono ?_; rintro e w15 ⟨rfl, hl15⟩; refine Hid.out ?_)
    refine Lib.hid ?_
    have HMB15 : Hid (MB w15 g5 z14 1) := fun j hj => (hl15.cell (p := ⟨g5, j, none⟩) (Nat.lt_of_lt_of_le hlt11 b1114.size)).trans (HMB14.out j hj)
    go_wp2_with (go_at_call 17; refine (HHB.out _ HMB15.out).mono ?_; rintro e w16 ⟨rfl, hw16⟩; obtain rfl := hw16.symm)
    go_ret
    exact ⟨rfl, B14.trans (hl15.mono B14.size)⟩

end Go.Proofs.Ytadkpkgloagnpaa.dl
