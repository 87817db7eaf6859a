import Derived.Test.YtjjndaiojilhiaaDoorNBK
import Derived.Test.YtjjndaiojilhiaaDoorRW
namespace Go.Proofs.YtjjndaiojilhiaaDoor.tt
open Go.ChangeShapes Go.WideShapes Go.ChangeAt Go.RowKit Go.Deep
set_option linter.unusedVariables false
set_option linter.unusedSimpArgs false

/-! ### The walk of FnExactBelow -/

set_option maxRecDepth 100000 in
set_option maxHeartbeats 4000000 in
theorem bel_law (hC : ∀ E, AtC E) (a0 : Option Addr) (len0 cap0 : Nat) (E0 : Nat → En) (q : ByteArray) (w : World) (hm : ML w) (hb : SrcE w a0 len0 E0) (hn0 : len0 ≤ maxLen) (hs0 : ∀ i, i < len0 → (E0 i).path.size ≤ maxLen ∧ (E0 i).data.size ≤ maxLen) :
    Calls Tryd.prog 4 #[.slice a0 len0 cap0, .string q] w fun e w' => e = .returned (.bool true) ∧ Below w.heap.size w w' := by
  by_cases hf : 1048576 < q.size
  · have hf' : (1048576 : Int) < (q.size : Int) := by omega
    go_enter Tryd.func4, Tryd.ntmps4
    go_wp2
    go_ret
    exact ⟨rfl, Below.refl _ _⟩
  have hf' : ¬ (1048576 : Int) < (q.size : Int) := by omega
  have hf1 : q.size ≤ 1048576 := by omega
  go_enter Tryd.func4, Tryd.ntmps4
  go_wp2_with (go_at_call 5; refine (szS_any _ _ _ E0 _ hb hn0 hs0).mono ?_; rintro e w1 ⟨⟨r, rfl, hr⟩, hl1⟩)
  · go_ret
    exact ⟨rfl, hl1⟩
  · obtain ⟨hr0, hn, hs⟩ := hr.resolve_left (by omega)
    clear hr
    have s1 := hl1.size
    have HSR : Hid (∀ W, Below w.heap.size w W → SrcE W a0 len0 E0) := fun W hW => hb.below hW
    obtain ⟨n, hnn⟩ : ∃ n, n = blN E0 len0 q.data.toList := ⟨_, rfl⟩
    have hnb : n ≤ 1048576 := by have := blN_le E0 len0 q.data.toList; omega
    obtain ⟨F, hF⟩ : ∃ F, F = blF E0 len0 q.data.toList := ⟨_, rfl⟩
    have HSP : Hid (∀ W b, EnR W b 0 len0 E0 → Calls Tryd.prog 12 #[.slice (some ⟨b, 0, none⟩) len0 len0, .string q] W fun e w' => (∃ v, e = .returned v ∧ RowE W.heap.size w' v n F) ∧ Below W.heap.size W w') := fun W b hE => by rw [hnn, hF]; exact sbel_any E0 b len0 len0 q W hE hs hn hf1 (Nat.le_refl _) (by unfold maxLen; omega)
    have HIP : Hid (∀ W b, Below w.heap.size w W → EnR W b 0 len0 E0 → Calls Tryd.prog 13 #[.slice (some ⟨b, 0, none⟩) len0 len0, .string q] W fun e w' => (∃ v, e = .returned v ∧ RowE W.heap.size w' v n F) ∧ Below W.heap.size W w') := fun W b hW hE => by rw [hnn, hF]; exact ibel_any E0 b 0 len0 len0 q hf1 W hE hs hn (hm.below hW) (hC E0)
    have HEQ : Hid (∀ (W : World) g g' c c' base base', RwE base W g n F → RwE base' W g' n F → Calls Tryd.prog 9 #[.slice (some ⟨g, 0, none⟩) n c, .slice (some ⟨g', 0, none⟩) n c'] W fun e w' => e = .returned (.bool true) ∧ Below W.heap.size W w') := fun W g g' c c' base base' h1 h2 => eqS_any _ _ _ _ _ F _ h1.ent h2.ent hnb
    clear hnn hF hb hm
    go_wp2_with (go_at_call 7; refine (toS_full _ _ _ E0 _ (HSR.out _ hl1) hn).mono ?_; rintro e w2 ⟨rfl, hr2, hl2⟩; refine Hid.out ?_)
    refine Lib.hid ?_
    have B2 : Below w.heap.size w w2 := hl1.trans (hl2.mono s1)
    go_wp2_with (go_at_call 12; refine (HSP.out _ _ (enr_row hr2)).mono ?_; rintro e w3 ⟨⟨v3, rfl, hv3⟩, hl3⟩; obtain ⟨g3, c3, rfl, hq3⟩ := rwE_of hv3; refine Hid.out ?_)
    refine Lib.hid ?_
    have B3 : Below w.heap.size w w3 := B2.trans (hl3.mono B2.size)
    have HQ3 : Hid (RwE w2.heap.size w3 g3 n F) := hq3
    have hg3 : g3 < w3.heap.size := hq3.lt
    clear hr2 hv3 hq3
    go_wp2_with (go_at_call 7; refine (toS_full _ _ _ E0 _ (HSR.out _ B3) hn).mono ?_; rintro e w4 ⟨rfl, hr4, hl4⟩; refine Hid.out ?_)
    refine Lib.hid ?_
    have B4 : Below w.heap.size w w4 := B3.trans (hl4.mono B3.size)
    have hlt4 : w3.heap.size < w4.heap.size := hr4.lt
    have HR4 : Hid (RwE w3.heap.size w4 w3.heap.size len0 E0) := ⟨Nat.le_refl _, ⟨_, _, Nat.le_refl _, hr4⟩, enr_row hr4⟩
    clear hr4
    go_wp2_with (go_at_call 13; refine (HIP.out _ _ B4 HR4.out.ent).mono ?_; rintro e w5 ⟨⟨v5, rfl, hv5⟩, hl5⟩; obtain ⟨g5, c5, rfl, hq5⟩ := rwE_of hv5; refine Hid.out ?_)
    refine Lib.hid ?_
    have B5 : Below w.heap.size w w5 := B4.trans (hl5.mono B4.size)
    have HQ5 : Hid (RwE w4.heap.size w5 g5 n F) := hq5
    have hg5 : w4.heap.size ≤ g5 := hq5.new
    have HQ35 : Hid (RwE w2.heap.size w5 g3 n F) := (HQ3.out.below hl4).below hl5
    have HR5 : Hid (RwE w3.heap.size w5 w3.heap.size len0 E0) := HR4.out.below hl5
    clear hv5 hq5
    go_wp2_with (go_at_call 9; refine (HEQ.out _ _ _ _ _ _ _ HQ5.out HQ35.out).mono ?_; rintro e w6 ⟨rfl, hl6⟩; refine Hid.out ?_)
    refine Lib.hid ?_
    have B6 : Below w.heap.size w w6 := B5.trans (hl6.mono B5.size)
    go_wp2_with (go_at_call 7; refine (toS_any _ _ _ E0 _ (HSR.out _ B6) hn).mono ?_; rintro e w7 ⟨rfl, hr7, hl7⟩; refine Hid.out ?_)
    refine Lib.hid ?_
    have B7 : Below w.heap.size w w7 := B6.trans (hl7.mono B6.size)
    go_wp2_with (go_at_call 9; refine (eqS_any _ _ _ _ _ E0 _ ((HR5.out.below hl6).below hl7).ent hr7 hn).mono ?_; rintro e w8 ⟨rfl, hl8⟩; refine Hid.out ?_)
    refine Lib.hid ?_
    have B8 : Below w.heap.size w w8 := B7.trans (hl8.mono B7.size)
    have b57 : Below w5.heap.size w5 w7 := hl6.trans (hl7.mono hl6.size)
    have b58 : Below w5.heap.size w5 w8 := b57.trans (hl8.mono b57.size)
    have HR8 : Hid (RwE w3.heap.size w8 w3.heap.size len0 E0) := HR5.out.below b58
    have HQ58 : Hid (RwE w4.heap.size w8 g5 n F) := HQ5.out.below b58
    have HQ38 : Hid (RwE w2.heap.size w8 g3 n F) := HQ35.out.below b58
    have hs3 := B3.size
    obtain ⟨K, hK⟩ : ∃ K : Nat, 1 + 4 * len0 = K := ⟨_, rfl⟩
    have HME : Hid (Calls Tryd.prog 10 #[.slice (some ⟨w3.heap.size, 0, none⟩) len0 len0, .int .i64 1] w8 fun e w' => e = .returned (.int .i64 (K : Int)) ∧ EnR w' w3.heap.size 0 len0 (mEs 1) ∧ w8.grownBy w' (some w3.heap.size)) := markR_any _ _ _ _ _ _ _ HR8.out hn hK
    have hk9 : ¬ (K : Int) < 0 := by omega
    clear hr7 hK
    go_wp2_with (go_at_call 10; refine HME.out.mono ?_; rintro e w9 ⟨rfl, hm9, hg9⟩; refine Hid.out ?_)
    refine Lib.hid ?_
    have B9 : Below w.heap.size w w9 := bel_grownE B8 hg9 B8.size hs3
    have HQ59 : Hid (RwE w4.heap.size w9 g5 n F) := HQ58.out.grown hg9 (by omega)
    have HQ39 : Hid (RwE w2.heap.size w9 g3 n F) := HQ38.out.grown hg9 (by omega)
    clear hm9 hg9
    go_wp2_with (go_at_call 9; refine (HEQ.out _ _ _ _ _ _ _ HQ59.out HQ39.out).mono ?_; rintro e w10 ⟨rfl, hl10⟩; refine Hid.out ?_)
    refine Lib.hid ?_
    have B10 : Below w.heap.size w w10 := B9.trans (hl10.mono B9.size)
    have HQ510 : Hid (RwE w4.heap.size w10 g5 n F) := HQ59.out.below hl10
    have HQ310 : Hid (RwE w2.heap.size w10 g3 n F) := HQ39.out.below hl10
    obtain ⟨K2, hK2⟩ : ∃ K : Nat, 1 + 4 * n = K := ⟨_, rfl⟩
    have HMK : Hid (Calls Tryd.prog 10 #[.slice (some ⟨g5, 0, none⟩) n c5, .int .i64 1] w10 fun e w' => e = .returned (.int .i64 (K2 : Int)) ∧ EnR w' g5 0 n (mEs 1) ∧ w10.grownBy w' (some g5)) := markR_any _ _ _ _ _ _ _ HQ510.out hnb hK2
    have HHB : Hid (∀ W, EnR W g5 0 n (mEs 1) → Calls Tryd.prog 11 #[.slice (some ⟨g5, 0, none⟩) n c5, .int .i64 1] W fun e w' => e = .returned (.int .i64 (K2 : Int)) ∧ Below W.heap.size W w') := fun W hW => heldR_any _ _ _ _ _ hW hnb hK2
    have hk11 : ¬ (K2 : Int) < 0 := by omega
    have s45 : w.heap.size ≤ g5 := Nat.le_trans B4.size hg5
    clear hK2
    go_wp2_with (go_at_call 10; refine HMK.out.mono ?_; rintro e w11 ⟨rfl, hm11, hg11⟩; refine Hid.out ?_)
    refine Lib.hid ?_
    have B11 : Below w.heap.size w w11 := bel_grownE B10 hg11 B10.size s45
    have HQ311 : Hid (RwE w2.heap.size w11 g3 n F) := HQ310.out.grown hg11 (by omega)
    have HM11 : Hid (EnR w11 g5 0 n (mEs 1)) := hm11
    clear hm11 hg11
    go_wp2_with (go_at_call 11; refine (HHB.out _ HM11.out).mono ?_; rintro e w12 ⟨rfl, hl12⟩; refine Hid.out ?_)
    refine Lib.hid ?_
    have B12 : Below w.heap.size w w12 := B11.trans (hl12.mono B11.size)
    have HQ312 : Hid (RwE w2.heap.size w12 g3 n F) := HQ311.out.below hl12
    have HM12 : Hid (EnR w12 g5 0 n (mEs 1)) := HM11.out.below hl12
    go_wp2_with (go_at_call 7; refine (toS_any _ _ _ E0 _ (HSR.out _ B12) hn).mono ?_; rintro e w13 ⟨rfl, hr13, hl13⟩; refine Hid.out ?_)
    refine Lib.hid ?_
    have B13 : Below w.heap.size w w13 := B12.trans (hl13.mono B12.size)
    go_wp2_with (go_at_call 13; refine (HIP.out _ _ B13 hr13).mono ?_; rintro e w14 ⟨⟨v14, rfl, hv14⟩, hl14⟩; obtain ⟨g14, c14, rfl, hq14⟩ := rwE_of hv14; refine Hid.out ?_)
    refine Lib.hid ?_
    have B14 : Below w.heap.size w w14 := B13.trans (hl14.mono B13.size)
    have b1214 : Below w12.heap.size w12 w14 := hl13.trans (hl14.mono hl13.size)
    have HQ314 : Hid (RwE w2.heap.size w14 g3 n F) := HQ312.out.below b1214
    have HQ14 : Hid (RwE w13.heap.size w14 g14 n F) := hq14
    have HM14 : Hid (EnR w14 g5 0 n (mEs 1)) := HM12.out.below b1214
    clear hv14 hq14 hr13
    go_wp2_with (go_at_call 9; refine (HEQ.out _ _ _ _ _ _ _ HQ14.out HQ314.out).mono ?_; rintro e w15 ⟨rfl, hl15⟩; refine Hid.out ?_)
    refine Lib.hid ?_
    have B15 : Below w.heap.size w w15 := B14.trans (hl15.mono B14.size)
    have HM15 : Hid (EnR w15 g5 0 n (mEs 1)) := HM14.out.below hl15
    go_wp2_with (go_at_call 11; refine (HHB.out _ HM15.out).mono ?_; rintro e w16 ⟨rfl, hl16⟩)
    go_ret
    exact ⟨rfl, B15.trans (hl16.mono B15.size)⟩

end Go.Proofs.YtjjndaiojilhiaaDoor.tt
