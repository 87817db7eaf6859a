import Derived.Test.YthpgjamnekcjfaaDoorPD
import Derived.Test.YthpgjamnekcjfaaDoorMA
import Derived.Test.YthpgjamnekcjfaaDoorWS
namespace Go.Proofs.YthpgjamnekcjfaaDoor.tt
open Go.ChangeShapes Go.WideShapes Go.ChangeAt Go.RowKit Go.Deep
set_option linter.unusedVariables false
set_option linter.unusedSimpArgs false

/-! ### FnExactPackTree's walk -/

def inB (l : List UInt8) : List Int := l.map fun b => (b.toNat : Int)
theorem bs_bf {base : Nat} {w : World} {g cap z : Nat} {l : List UInt8} (hz : z = l.length) (h : bf.Bf base w g cap l) : sm.Bs w (some ⟨g, 0, none⟩) z (inB l) := by
  subst hz
  exact .inr ⟨g, 0, rfl, fun i hi => by rw [Nat.zero_add, h.cells i hi]; simp [inB, hi]⟩
theorem pkB_len2 {E : Nat → En} {n : Nat} (hS : SmE n E) : (pkB E n).length ≤ 1099511627776 := by
  cases h : treeB E n with
  | false => rw [pkB_no h]; simp
  | true =>
    have h5 := (treeB_tr' h).1
    have h1 := pkL_len hS n (Nat.le_refl _)
    have h2 := hd_len h5
    rw [pkB_yes h, List.length_append]
    omega
theorem bel_drewN (w : World) (q : Nat) : Below w.heap.size w (w.drewN q) := ⟨rfl, rfl, rfl, Nat.le_refl _, fun _ _ => rfl⟩
theorem bel_grown {B b : Nat} {w w1 w2 : World} (h : Below B w w1) (hg : w1.grownBy w2 (some b)) (hB : B ≤ w1.heap.size) (hb : B ≤ b) : Below B w w2 := h.grown hg hB (fun k hk => by cases hk; exact hb)

set_option maxRecDepth 100000 in
set_option maxHeartbeats 2000000 in
theorem pack_law (hC : ∀ E, AtC E) (a0 : Option Addr) (len0 cap0 : Nat) (E0 : Nat → En) (w : World) (hm : ML w) (hb : SrcE w a0 len0 E0) (hn0 : len0 ≤ maxLen) (hs0 : ∀ i, i < len0 → (E0 i).path.size ≤ maxLen ∧ (E0 i).data.size ≤ maxLen) :
    Calls Tryd.prog 4 #[.slice a0 len0 cap0] w fun e w' => e = .returned (.bool true) ∧ Below w.heap.size w w' := by
  go_enter Tryd.func4, Tryd.ntmps4
  go_wp2_with (go_at_call 9; refine (szS_any _ _ _ E0 _ hb hn0 hs0).mono ?_; rintro e w1 ⟨⟨r, rfl, hr⟩, hl1⟩)
  · go_ret
    exact ⟨rfl, hl1⟩
  · obtain ⟨hr0, hn, hs⟩ := hr.resolve_left (by omega)
    clear hr
    have s1 := hl1.size
    have HSR : Hid (∀ W, Below w.heap.size w W → SrcE W a0 len0 E0) := fun W hW => hb.below hW
    have HML : Hid (∀ W, Below w.heap.size w W → ML W) := fun W hW => hm.below hW
    obtain ⟨l, hl⟩ : ∃ l, l = pkB E0 len0 := ⟨_, rfl⟩
    have HLL : Hid (l.length ≤ 1099511627776) := by show _ ≤ _; rw [hl]; exact pkB_len2 hs
    have HSP : Hid (∀ W b, EnR W b 0 len0 E0 → Calls Tryd.prog 14 #[.slice (some ⟨b, 0, none⟩) len0 len0] W fun e w' => (∃ g c z, e = .returned (.slice (some ⟨g, 0, none⟩) z c) ∧ Pkd W w' l g c z) ∧ Below W.heap.size W w') := fun W b hE => by rw [hl]; exact spack_any E0 b 0 len0 len0 W hE hs hn (Nat.le_refl _) (by unfold maxLen; omega)
    have HIP : Hid (∀ W b, Below w.heap.size w W → EnR W b 0 len0 E0 → Calls Tryd.prog 15 #[.slice (some ⟨b, 0, none⟩) len0 len0] W fun e w' => (∃ g c z, e = .returned (.slice (some ⟨g, 0, none⟩) z c) ∧ Pkd W w' l g c z) ∧ Below W.heap.size W w') := fun W b hW hE => by rw [hl]; exact ipack_any E0 b 0 len0 len0 W hE hs hn (HML.out W hW) (hC E0)
    have HEB : Hid (∀ (W : World) g g' c c' z base base', z = l.length → bf.Bf base W g c l → bf.Bf base' W g' c' l → Calls Tryd.prog 16 #[.slice (some ⟨g, 0, none⟩) z c, .slice (some ⟨g', 0, none⟩) z c'] W fun e w' => e = .returned (.bool true) ∧ Below W.heap.size W w') := fun W g g' c c' z base base' hz h1 h2 => (sm.eq_any _ _ _ _ _ _ _ (bs_bf hz h1) (bs_bf hz h2) (by rw [hz]; exact HLL.out)).mono fun e w' ⟨he, q, hq⟩ => ⟨he, by rw [hq]; exact bel_drewN _ _⟩
    clear hl hb hm
    go_wp2_with (go_at_call 11; refine (toS_full _ _ _ E0 _ (HSR.out _ hl1) hn).mono ?_; rintro e w2 ⟨rfl, hr2, hl2⟩; refine Hid.out ?_)
    refine Lib.hid ?_
    have B2 : Below w.heap.size w w2 := hl1.trans (hl2.mono s1)
    go_wp2_with (go_at_call 14; refine (HSP.out _ _ (enr_row hr2)).mono ?_; rintro e w3 ⟨⟨g3, c3, z3, rfl, hz3, hbf3⟩, hl3⟩; have HZ : Hid (z3 = l.length) := hz3; clear hz3; refine Hid.out ?_)
    refine Lib.hid ?_
    have B3 : Below w.heap.size w w3 := B2.trans (hl3.mono B2.size)
    have HBF3 : Hid (bf.Bf w2.heap.size w3 g3 c3 l) := hbf3
    clear hbf3 hr2
    go_wp2_with (go_at_call 11; refine (toS_full _ _ _ E0 _ (HSR.out _ B3) hn).mono ?_; rintro e w4 ⟨rfl, hr4, hl4⟩; refine Hid.out ?_)
    refine Lib.hid ?_
    have B4 : Below w.heap.size w w4 := B3.trans (hl4.mono B3.size)
    have hlt4 : w3.heap.size < w4.heap.size := hr4.lt
    have HR4 : Hid (w4.rowIs w3.heap.size 49 (len0 * 4) (cellE E0)) := hr4
    clear hr4
    go_wp2_with (go_at_call 15; refine (HIP.out _ _ B4 (enr_row HR4.out)).mono ?_; rintro e w5 ⟨⟨g5, c5, z5, rfl, hz5, hbf5⟩, hl5⟩; obtain rfl : z5 = z3 := hz5.trans HZ.out.symm; clear hz5; refine Hid.out ?_)
    refine Lib.hid ?_
    have B5 : Below w.heap.size w w5 := B4.trans (hl5.mono B4.size)
    have HBF5 : Hid (bf.Bf w4.heap.size w5 g5 c5 l) := hbf5
    have hg3 : g3 < w3.heap.size := HBF3.out.lt
    have hg5 : w4.heap.size ≤ g5 := HBF5.out.new
    have HB35 : Hid (bf.Bf w2.heap.size w5 g3 c3 l) := (HBF3.out.below hl4).below hl5
    have HR5 : Hid (w5.rowIs w3.heap.size 49 (len0 * 4) (cellE E0)) := HR4.out.of_block (hl5.block _ HR4.out.lt)
    clear hbf5
    go_wp2_with (go_at_call 16; refine (HEB.out _ _ _ _ _ _ _ _ HZ.out HBF5.out HB35.out).mono ?_; rintro e w6 ⟨rfl, hl6⟩; refine Hid.out ?_)
    refine Lib.hid ?_
    have B6 : Below w.heap.size w w6 := B5.trans (hl6.mono B5.size)
    go_wp2_with (go_at_call 11; refine (toS_any _ _ _ E0 _ (HSR.out _ B6) hn).mono ?_; rintro e w7 ⟨rfl, hr7, hl7⟩; refine Hid.out ?_)
    refine Lib.hid ?_
    have B7 : Below w.heap.size w w7 := B6.trans (hl7.mono B6.size)
    go_wp2_with (go_at_call 13; refine (eqS_any _ _ _ _ _ E0 _ (((enr_row HR5.out).below hl6).below hl7) hr7 hn).mono ?_; rintro e w8 ⟨rfl, hl8⟩; refine Hid.out ?_)
    refine Lib.hid ?_
    have B8 : Below w.heap.size w w8 := B7.trans (hl8.mono B7.size)
    have b57 : Below w5.heap.size w5 w7 := hl6.trans (hl7.mono hl6.size)
    have b58 : Below w5.heap.size w5 w8 := b57.trans (hl8.mono b57.size)
    have HR8 : Hid (w8.rowIs w3.heap.size 49 (len0 * 4) (cellE E0)) := HR5.out.of_block (b58.block _ HR5.out.lt)
    have HB58 : Hid (bf.Bf w4.heap.size w8 g5 c5 l) := HBF5.out.below b58
    have HB38 : Hid (bf.Bf w2.heap.size w8 g3 c3 l) := HB35.out.below b58
    have hs3 := B3.size
    clear hr7
    obtain ⟨K, hK⟩ : ∃ K : Nat, 1 + 4 * len0 = K := ⟨_, rfl⟩
    have HME : Hid (Calls Tryd.prog 17 #[.slice (some ⟨w3.heap.size, 0, none⟩) len0 len0, .int .i64 1] w8 fun e w' => e = .returned (.int .i64 (K : Int)) ∧ w8.grownBy w' (some w3.heap.size)) := by
      have := markE_any w3.heap.size len0 len0 1 _ _ _ HR8.out (Nat.le_refl _) (by omega) hn (by omega)
      rw [hK] at this
      exact this.mono fun e w' ⟨h1, _, h3⟩ => ⟨h1, h3⟩
    clear hK
    go_wp2_with (go_at_call 17; refine HME.out.mono ?_; rintro e w9 ⟨rfl, hg9⟩; refine Hid.out ?_)
    refine Lib.hid ?_
    have B9 : Below w.heap.size w w9 := bel_grown B8 hg9 B8.size hs3
    have HB59 : Hid (bf.Bf w4.heap.size w9 g5 c5 l) := HB58.out.kept hg9.size (hg9.block g5 HB58.out.lt (fun e => by have := Option.some.inj e; omega))
    have HB39 : Hid (bf.Bf w2.heap.size w9 g3 c3 l) := HB38.out.kept hg9.size (hg9.block g3 HB38.out.lt (fun e => by have := Option.some.inj e; omega))
    have hk9 : ¬ (K : Int) < 0 := by omega
    clear hg9
    go_wp2_with (go_at_call 16; refine (HEB.out _ _ _ _ _ _ _ _ HZ.out HB59.out HB39.out).mono ?_; rintro e w10 ⟨rfl, hl10⟩; refine Hid.out ?_)
    refine Lib.hid ?_
    have B10 : Below w.heap.size w w10 := B9.trans (hl10.mono B9.size)
    have HB510 : Hid (bf.Bf w4.heap.size w10 g5 c5 l) := HB59.out.below hl10
    have HB310 : Hid (bf.Bf w2.heap.size w10 g3 c3 l) := HB39.out.below hl10
    have HWB : Hid (WB w10 g5 z5) := fun j hj => HB510.out.spare j (by have := HB510.out.le; have := HZ.out; omega)
    have hzb : 1 + z5 ≤ 9000000000000 := by have := HLL.out; have := HZ.out; omega
    obtain ⟨K2, hK2⟩ : ∃ K : Nat, 1 + z5 = K := ⟨_, rfl⟩
    have HMK : Hid (Calls Tryd.prog 18 #[.slice (some ⟨g5, 0, none⟩) z5 c5, .int .i64 1] w10 fun e w' => e = .returned (.int .i64 (K2 : Int)) ∧ MB w' g5 z5 1 ∧ w10.grownBy w' (some g5)) := by
      have := markB_any g5 z5 c5 1 _ HWB.out hzb
      rw [hK2] at this
      exact this
    have HHB : Hid (∀ W, MB W g5 z5 1 → Calls Tryd.prog 19 #[.slice (some ⟨g5, 0, none⟩) z5 c5, .int .i64 1] W fun e w' => e = .returned (.int .i64 (K2 : Int)) ∧ w' = W) := fun W hW => by
      have := heldB_any g5 z5 c5 1 W hW hzb
      rw [hK2] at this
      exact this
    have hk11 : ¬ (K2 : Int) < 0 := by omega
    clear hK2
    go_wp2_with (go_at_call 18; refine HMK.out.mono ?_; rintro e w11 ⟨rfl, hm11, hg11⟩; refine Hid.out ?_)
    refine Lib.hid ?_
    have s45 : w.heap.size ≤ g5 := Nat.le_trans B4.size hg5
    have B11 : Below w.heap.size w w11 := bel_grown B10 hg11 B10.size s45
    have HB311 : Hid (bf.Bf w2.heap.size w11 g3 c3 l) := HB310.out.kept hg11.size (hg11.block g3 HB310.out.lt (fun e => by have := Option.some.inj e; omega))
    have HMB : Hid (MB w11 g5 z5 1) := hm11
    have hlt11 : g5 < w11.heap.size := Nat.lt_of_lt_of_le HB510.out.lt hg11.size
    clear hm11 hg11
    go_wp2_with (go_at_call 19; refine (HHB.out _ HMB.out).mono ?_; rintro e w12 ⟨rfl, hw12⟩; obtain rfl := hw12.symm; refine Hid.out ?_)
    refine Lib.hid ?_
    go_wp2_with (go_at_call 11; refine (toS_any _ _ _ E0 _ (HSR.out _ B11) hn).mono ?_; rintro e w13 ⟨rfl, hr13, hl13⟩; refine Hid.out ?_)
    refine Lib.hid ?_
    have B13 : Below w.heap.size w w13 := B11.trans (hl13.mono B11.size)
    go_wp2_with (go_at_call 15; refine (HIP.out _ _ B13 hr13).mono ?_; rintro e w14 ⟨⟨g14, c14, z14, rfl, hz14, hbf14⟩, hl14⟩; obtain rfl : z14 = z5 := hz14.trans HZ.out.symm; clear hz14; refine Hid.out ?_)
    refine Lib.hid ?_
    have B14 : Below w.heap.size w w14 := B13.trans (hl14.mono B13.size)
    have b1114 : Below w11.heap.size w11 w14 := hl13.trans (hl14.mono hl13.size)
    have HB314 : Hid (bf.Bf w2.heap.size w14 g3 c3 l) := HB311.out.below b1114
    have HB14 : Hid (bf.Bf w13.heap.size w14 g14 c14 l) := hbf14
    have HMB14 : Hid (MB w14 g5 z14 1) := fun j hj => (b1114.cell (p := ⟨g5, j, none⟩) hlt11).trans (HMB.out j hj)
    clear hbf14 hr13
    go_wp2_with (go_at_call 16; refine (HEB.out _ _ _ _ _ _ _ _ HZ.out HB14.out HB314.out).mono ?_; rintro e w15 ⟨rfl, hl15⟩; refine Hid.out ?_)
    refine Lib.hid ?_
    have HMB15 : Hid (MB w15 g5 z14 1) := fun j hj => (hl15.cell (p := ⟨g5, j, none⟩) (Nat.lt_of_lt_of_le hlt11 b1114.size)).trans (HMB14.out j hj)
    go_wp2_with (go_at_call 19; refine (HHB.out _ HMB15.out).mono ?_; rintro e w16 ⟨rfl, hw16⟩; obtain rfl := hw16.symm)
    go_ret
    exact ⟨rfl, B14.trans (hl15.mono B14.size)⟩

end Go.Proofs.YthpgjamnekcjfaaDoor.tt
