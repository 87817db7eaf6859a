import Derived.Test.YtbpkekdapkkilaaDoorUI
import Derived.Test.YtbpkekdapkkilaaDoorUE
import Derived.Test.YtbpkekdapkkilaaDoorRW
namespace Go.Proofs.YtbpkekdapkkilaaDoor.up
open Go.ChangeShapes Go.WideShapes Go.ChangeAt Go.RowKit Go.Deep
open tt (inB RwE RowE rwE_of markR_any heldR_any eqS_any EnR mEs bel_grownE bel_drewN WB markB_any MB)
set_option linter.unusedVariables false
set_option linter.unusedSimpArgs false

/-! ### FnExactUnpackTree's walk -/

/-- Both sides answer the same: a flag, and one tree. -/
theorem unR_one (l : List UInt8) : ∃ (ok : Bool) (n : Nat) (F : Nat → tt.En), n ≤ 1048576 ∧ ∀ (w w' : World) (e : Ending), UnR w w' l e → ∃ v, e = .returned (.tuple #[v, .bool ok]) ∧ RowE w.heap.size w' v n F := by
  by_cases h : ∃ E n, Good l E n
  · obtain ⟨E, n, hg⟩ := h
    refine ⟨true, n, E, by have := (tt.treeB_tr' hg.1).1; omega, fun w w' e hu => ?_⟩
    obtain ⟨v, ok, m, X, rfl, hr, hm, hh⟩ := hu
    rcases hh with ⟨rfl, _, h2⟩ | ⟨_, _, h2⟩
    · obtain ⟨rfl, h3⟩ := h2 E n hg
      exact ⟨v, rfl, tt.rowE_congr hr h3⟩
    · exact absurd hg (h2 E n)
  · refine ⟨false, 0, fun _ => default, by omega, fun w w' e hu => ?_⟩
    obtain ⟨v, ok, m, X, rfl, hr, hm, hh⟩ := hu
    rcases hh with ⟨rfl, h1, _⟩ | ⟨rfl, rfl, _⟩
    · exact absurd ⟨X, m, h1⟩ h
    · exact ⟨v, rfl, tt.rowE_congr hr fun k hk => by omega⟩
theorem by_row {w : World} {g n : Nat} {l : List UInt8} (h : w.rowIs g 5 n (fun i => .int .u8 ((inB l)[i]?.getD 0))) (hn : n = l.length) : By w g l := fun j hj => by rw [h.cell (by omega), tt.inB_at l j hj]

set_option maxRecDepth 100000 in
set_option maxHeartbeats 4000000 in
theorem unp_law (hC : ∀ E, tt.AtC E) (a0 : Option Addr) (len0 cap0 : Nat) (l : List UInt8) (w : World) (hm : tt.ML w) (hb : sm.Bs w a0 len0 (inB l)) (hn0 : len0 = l.length) :
    Calls Tryd.prog 3 #[.slice a0 len0 cap0] w fun e w' => e = .returned (.bool true) ∧ Below w.heap.size w w' := by
  by_cases hf : 1048576 < len0
  · have hf' : (1048576 : Int) < (len0 : Int) := by omega
    go_enter Tryd.func3, Tryd.ntmps3
    go_wp2
    go_ret
    exact ⟨rfl, Below.refl _ _⟩
  have hf' : ¬ (1048576 : Int) < (len0 : Int) := by omega
  have hln : l.length ≤ 1048576 := by omega
  have hl2 : len0 ≤ 1099511627776 := by omega
  obtain ⟨ok, n, F, hnb, hone⟩ := unR_one l
  have HSR : Hid (∀ W, Below w.heap.size w W → sm.Bs W a0 len0 (inB l)) := fun W hW => hb.below hW
  have HSP : Hid (∀ W b, b < W.heap.size → By W b l → Calls Tryd.prog 5 #[.slice (some ⟨b, 0, none⟩) len0 len0] W fun e w' => (∃ v, e = .returned (.tuple #[v, .bool ok]) ∧ RowE W.heap.size w' v n F) ∧ Below W.heap.size W w') := fun W b hbW hE => (sunp_any b len0 l hn0 hln W hE hbW).mono fun e w' ⟨h1, h2⟩ => ⟨hone _ _ _ h1, h2⟩
  have HIP : Hid (∀ W b, Below w.heap.size w W → b < W.heap.size → By W b l → Calls Tryd.prog 7 #[.slice (some ⟨b, 0, none⟩) len0 len0] W fun e w' => (∃ v, e = .returned (.tuple #[v, .bool ok]) ∧ RowE W.heap.size w' v n F) ∧ Below W.heap.size W w') := fun W b hW hbW hE => (iunp_any hC b len0 l hn0 hln W hE hbW (hm.below hW)).mono fun e w' ⟨h1, h2⟩ => ⟨hone _ _ _ h1, h2⟩
  have HTO : Hid (∀ W, Below w.heap.size w W → Calls Tryd.prog 6 #[.slice a0 len0 cap0] W fun e w' => e = .returned (.slice (some ⟨W.heap.size, 0, none⟩) len0 len0) ∧ w'.rowIs W.heap.size 5 len0 (fun i => .int .u8 ((inB l)[i]?.getD 0)) ∧ Below W.heap.size W w') := fun W hW => sm.to_any a0 len0 cap0 (inB l) W (HSR.out W hW) hl2
  have HBY : Hid (∀ W g, W.rowIs g 5 len0 (fun i => .int .u8 ((inB l)[i]?.getD 0)) → By W g l) := fun W g h => by_row h hn0
  have HEB : Hid (∀ W g g', W.rowIs g 5 len0 (fun i => .int .u8 ((inB l)[i]?.getD 0)) → W.rowIs g' 5 len0 (fun i => .int .u8 ((inB l)[i]?.getD 0)) → Calls Tryd.prog 9 #[.slice (some ⟨g, 0, none⟩) len0 len0, .slice (some ⟨g', 0, none⟩) len0 len0] W fun e w' => e = .returned (.bool true) ∧ Below W.heap.size W w') := fun W g g' h1 h2 => (sm.eq_any _ _ _ _ _ _ _ (sm.Bs.row h1) (sm.Bs.row h2) hl2).mono fun e w' ⟨he, q, hq⟩ => ⟨he, by rw [hq]; exact bel_drewN _ _⟩
  have HEQ : Hid (∀ (W : World) g g' c c' base base', RwE base W g n F → RwE base' W g' n F → Calls Tryd.prog 8 #[.slice (some ⟨g, 0, none⟩) n c, .slice (some ⟨g', 0, none⟩) n c'] W fun e w' => e = .returned (.bool true) ∧ Below W.heap.size W w') := fun W g g' c c' base base' h1 h2 => eqS_any _ _ _ _ _ F _ h1.ent h2.ent hnb
  clear hn0 hone hb hm hln
  go_enter Tryd.func3, Tryd.ntmps3
  go_wp2_with (go_at_call 6; refine (HTO.out _ (Below.refl _ _)).mono ?_; rintro e w2 ⟨rfl, hr2, B2⟩; refine Hid.out ?_)
  refine Lib.hid ?_
  have hlt2 := hr2.lt
  have HY2 := HBY.out _ _ hr2
  have HY2 : Hid (By w2 w.heap.size l) := HY2
  clear hr2
  go_wp2_with (go_at_call 5; refine (HSP.out _ _ hlt2 HY2.out).mono ?_; rintro e w3 ⟨⟨v3, rfl, hv3⟩, hl3⟩; obtain ⟨g3, c3, rfl, hq3⟩ := rwE_of hv3; refine Hid.out ?_)
  refine Lib.hid ?_
  have B3 : Below w.heap.size w w3 := B2.trans (hl3.mono B2.size)
  have HQ3 : Hid (RwE w2.heap.size w3 g3 n F) := hq3
  have hg3 : g3 < w3.heap.size := hq3.lt
  clear hv3 hq3
  go_wp2_with (go_at_call 6; refine (HTO.out _ B3).mono ?_; rintro e w4 ⟨rfl, hr4, hl4⟩; refine Hid.out ?_)
  refine Lib.hid ?_
  have B4 : Below w.heap.size w w4 := B3.trans (hl4.mono B3.size)
  have hlt4 : w3.heap.size < w4.heap.size := hr4.lt
  have HR4 : Hid (w4.rowIs w3.heap.size 5 len0 (fun i => .int .u8 ((inB l)[i]?.getD 0))) := hr4
  clear hr4
  go_wp2_with (go_at_call 7; refine (HIP.out _ _ B4 hlt4 (HBY.out _ _ HR4.out)).mono ?_; rintro e w5 ⟨⟨v5, rfl, hv5⟩, hl5⟩; obtain ⟨g5, c5, rfl, hq5⟩ := rwE_of hv5; refine Hid.out ?_)
  refine Lib.hid ?_
  have B5 : Below w.heap.size w w5 := B4.trans (hl5.mono B4.size)
  have HQ5 : Hid (RwE w4.heap.size w5 g5 n F) := hq5
  have hg5 : w4.heap.size ≤ g5 := hq5.new
  have HQ35 : Hid (RwE w2.heap.size w5 g3 n F) := (HQ3.out.below hl4).below hl5
  have HR5 : Hid (w5.rowIs w3.heap.size 5 len0 (fun i => .int .u8 ((inB l)[i]?.getD 0))) := HR4.out.of_block (hl5.block _ hlt4)
  clear hv5 hq5
  go_wp2_with (go_at_call 8; refine (HEQ.out _ _ _ _ _ _ _ HQ5.out HQ35.out).mono ?_; rintro e w6 ⟨rfl, hl6⟩; refine Hid.out ?_)
  refine Lib.hid ?_
  have B6 : Below w.heap.size w w6 := B5.trans (hl6.mono B5.size)
  go_wp2_with (go_at_call 6; refine (HTO.out _ B6).mono ?_; rintro e w7 ⟨rfl, hr7, hl7⟩; refine Hid.out ?_)
  refine Lib.hid ?_
  have B7 : Below w.heap.size w w7 := B6.trans (hl7.mono B6.size)
  have b57 : Below w5.heap.size w5 w7 := hl6.trans (hl7.mono hl6.size)
  have HR57 : Hid (w7.rowIs w3.heap.size 5 len0 (fun i => .int .u8 ((inB l)[i]?.getD 0))) := HR5.out.of_block (b57.block _ HR5.out.lt)
  have HR7 : Hid (w7.rowIs w6.heap.size 5 len0 (fun i => .int .u8 ((inB l)[i]?.getD 0))) := hr7
  clear hr7
  go_wp2_with (go_at_call 9; refine (HEB.out _ _ _ HR57.out HR7.out).mono ?_; rintro e w8 ⟨rfl, hl8⟩; refine Hid.out ?_)
  refine Lib.hid ?_
  have B8 : Below w.heap.size w w8 := B7.trans (hl8.mono B7.size)
  have b58 : Below w5.heap.size w5 w8 := b57.trans (hl8.mono b57.size)
  have HR8 : Hid (w8.rowIs w3.heap.size 5 len0 (fun i => .int .u8 ((inB l)[i]?.getD 0))) := HR5.out.of_block (b58.block _ HR5.out.lt)
  have HQ58 : Hid (RwE w4.heap.size w8 g5 n F) := HQ5.out.below b58
  have HQ38 : Hid (RwE w2.heap.size w8 g3 n F) := HQ35.out.below b58
  have hs3 := B3.size
  obtain ⟨K, hK⟩ : ∃ K : Nat, 1 + len0 = K := ⟨_, rfl⟩
  have HME : Hid (Calls Tryd.prog 10 #[.slice (some ⟨w3.heap.size, 0, none⟩) len0 len0, .int .i64 1] w8 fun e w' => e = .returned (.int .i64 (K : Int)) ∧ MB w' w3.heap.size len0 1 ∧ w8.grownBy w' (some w3.heap.size)) := by
    have := markB_any w3.heap.size len0 len0 1 _ (tt.row_wb HR8.out) (by omega)
    rw [hK] at this
    exact this
  have hk9 : ¬ (K : Int) < 0 := by omega
  clear hK
  go_wp2_with (go_at_call 10; refine HME.out.mono ?_; rintro e w9 ⟨rfl, hm9, hg9⟩; refine Hid.out ?_)
  refine Lib.hid ?_
  have B9 : Below w.heap.size w w9 := bel_grownE B8 hg9 B8.size hs3
  have HQ59 : Hid (RwE w4.heap.size w9 g5 n F) := HQ58.out.grown hg9 (by omega)
  have HQ39 : Hid (RwE w2.heap.size w9 g3 n F) := HQ38.out.grown hg9 (by omega)
  clear hm9 hg9
  go_wp2_with (go_at_call 8; refine (HEQ.out _ _ _ _ _ _ _ HQ59.out HQ39.out).mono ?_; rintro e w10 ⟨rfl, hl10⟩; refine Hid.out ?_)
  refine Lib.hid ?_
  have B10 : Below w.heap.size w w10 := B9.trans (hl10.mono B9.size)
  have HQ510 : Hid (RwE w4.heap.size w10 g5 n F) := HQ59.out.below hl10
  have HQ310 : Hid (RwE w2.heap.size w10 g3 n F) := HQ39.out.below hl10
  obtain ⟨K2, hK2⟩ : ∃ K : Nat, 1 + 4 * n = K := ⟨_, rfl⟩
  have HMK : Hid (Calls Tryd.prog 11 #[.slice (some ⟨g5, 0, none⟩) n c5, .int .i64 1] w10 fun e w' => e = .returned (.int .i64 (K2 : Int)) ∧ EnR w' g5 0 n (mEs 1) ∧ w10.grownBy w' (some g5)) := markR_any _ _ _ _ _ _ _ HQ510.out hnb hK2
  have HHB : Hid (∀ W, EnR W g5 0 n (mEs 1) → Calls Tryd.prog 12 #[.slice (some ⟨g5, 0, none⟩) n c5, .int .i64 1] W fun e w' => e = .returned (.int .i64 (K2 : Int)) ∧ Below W.heap.size W w') := fun W hW => heldR_any _ _ _ _ _ hW hnb hK2
  have hk11 : ¬ (K2 : Int) < 0 := by omega
  have s45 : w.heap.size ≤ g5 := Nat.le_trans B4.size hg5
  clear hK2
  go_wp2_with (go_at_call 11; refine HMK.out.mono ?_; rintro e w11 ⟨rfl, hm11, hg11⟩; refine Hid.out ?_)
  refine Lib.hid ?_
  have B11 : Below w.heap.size w w11 := bel_grownE B10 hg11 B10.size s45
  have HQ311 : Hid (RwE w2.heap.size w11 g3 n F) := HQ310.out.grown hg11 (by omega)
  have HM11 : Hid (EnR w11 g5 0 n (mEs 1)) := hm11
  clear hm11 hg11
  go_wp2_with (go_at_call 12; refine (HHB.out _ HM11.out).mono ?_; rintro e w12 ⟨rfl, hl12⟩; refine Hid.out ?_)
  refine Lib.hid ?_
  have B12 : Below w.heap.size w w12 := B11.trans (hl12.mono B11.size)
  have HQ312 : Hid (RwE w2.heap.size w12 g3 n F) := HQ311.out.below hl12
  have HM12 : Hid (EnR w12 g5 0 n (mEs 1)) := HM11.out.below hl12
  go_wp2_with (go_at_call 6; refine (HTO.out _ B12).mono ?_; rintro e w13 ⟨rfl, hr13, hl13⟩; refine Hid.out ?_)
  refine Lib.hid ?_
  have B13 : Below w.heap.size w w13 := B12.trans (hl13.mono B12.size)
  go_wp2_with (go_at_call 7; refine (HIP.out _ _ B13 hr13.lt (HBY.out _ _ hr13)).mono ?_; rintro e w14 ⟨⟨v14, rfl, hv14⟩, hl14⟩; obtain ⟨g14, c14, rfl, hq14⟩ := rwE_of hv14; refine Hid.out ?_)
  refine Lib.hid ?_
  have B14 : Below w.heap.size w w14 := B13.trans (hl14.mono B13.size)
  have b1214 : Below w12.heap.size w12 w14 := hl13.trans (hl14.mono hl13.size)
  have HQ314 : Hid (RwE w2.heap.size w14 g3 n F) := HQ312.out.below b1214
  have HQ14 : Hid (RwE w13.heap.size w14 g14 n F) := hq14
  have HM14 : Hid (EnR w14 g5 0 n (mEs 1)) := HM12.out.below b1214
  clear hv14 hq14 hr13
  go_wp2_with (go_at_call 8; refine (HEQ.out _ _ _ _ _ _ _ HQ14.out HQ314.out).mono ?_; rintro e w15 ⟨rfl, hl15⟩; refine Hid.out ?_)
  refine Lib.hid ?_
  have B15 : Below w.heap.size w w15 := B14.trans (hl15.mono B14.size)
  have HM15 : Hid (EnR w15 g5 0 n (mEs 1)) := HM14.out.below hl15
  go_wp2_with (go_at_call 12; refine (HHB.out _ HM15.out).mono ?_; rintro e w16 ⟨rfl, hl16⟩)
  go_ret
  exact ⟨rfl, B15.trans (hl16.mono B15.size)⟩

end Go.Proofs.YtbpkekdapkkilaaDoor.up
