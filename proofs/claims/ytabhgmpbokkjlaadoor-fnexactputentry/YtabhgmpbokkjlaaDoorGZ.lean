import Derived.Test.YtabhgmpbokkjlaaDoorGJ
import Derived.Test.YtabhgmpbokkjlaaDoorGH
import Derived.Test.YtabhgmpbokkjlaaDoorRW
namespace Go.Proofs.YtabhgmpbokkjlaaDoor.tt
open Go.ChangeShapes Go.WideShapes Go.ChangeAt Go.RowKit Go.Deep
set_option linter.unusedVariables false
set_option linter.unusedSimpArgs false

/-! ### FnExactPutEntry's walk -/

set_option maxRecDepth 100000 in
set_option maxHeartbeats 1000000 in
theorem szS_le (a : Option Addr) (n cap : Nat) (E : Nat → En) (w : World) (hb : SrcE w a n E) (hn : n ≤ maxLen) (hs : ∀ i, i < n → (E i).path.size ≤ maxLen ∧ (E i).data.size ≤ maxLen) :
    Calls Tryd.prog 6 #[.slice a n cap, .int .i64 1048576] w fun e w' => (∃ r : Int, e = .returned (.int .i64 r) ∧ (r = -1 ∨ 0 ≤ r ∧ r ≤ 1048576 ∧ n ≤ 1048576 ∧ SmE n E)) ∧ Below w.heap.size w w' := by
  unfold maxLen at hn
  have HS : Hid (∀ i, i < n → (E i).path.size ≤ maxLen ∧ (E i).data.size ≤ maxLen) := hs
  clear hs
  by_cases hbig : 1048576 - (n : Int) < 0
  · go_enter Tryd.func6, Tryd.ntmps6
    go_wp2
    go_ret
    exact ⟨⟨-1, rfl, .inl rfl⟩, Below.refl _ _⟩
  · go_enter Tryd.func6, Tryd.ntmps6
    go_wp2
    go_loopw [1, 5] (fun x i wr => ∃ k : Nat, ∃ r : Int, k ≤ n ∧ i = .int .i64 (k : Int) ∧ x = .int .i64 r ∧ 0 ≤ r ∧ r ≤ 1048576 ∧ SmE k E ∧ Below w.heap.size w wr) (fun _ i _ => n - (intOf i).toNat)
    case atStart => exact ⟨0, 1048576 - (n : Int), Nat.zero_le _, rfl, rfl, by omega, by omega, fun i hi => by omega, Below.refl _ _⟩
    case round =>
      obtain ⟨k, r, hk, rfl, rfl, h0, hr, hall, hbel⟩ := hrel
      have HA : Hid (SmE k E) := hall
      have HBE : Hid (Below w.heap.size w wr) := hbel
      clear hall
      by_cases hlt : k < n
      · rcases hb with rfl | ⟨b, off, rfl, hc⟩
        · omega
        obtain ⟨g0, g1, g2, g3⟩ := (hc k hlt).below hbel
        have hki : (k : Int) < (n : Int) := by omega
        have hsk := HS.out k hlt
        have HSZ : Hid (∀ W, Calls Tryd.prog 7 #[.agg #[.string (E k).path, .int .i64 (E k).kind, .string (E k).data, .bool (E k).exec], .int .i64 r] W fun e w' => (∃ q : Int, e = .returned (.int .i64 q) ∧ (q = -1 ∨ 0 ≤ q ∧ q = r - ((E k).path.size : Int) - ((E k).data.size : Int))) ∧ Below W.heap.size W w') := fun W => sz1_any _ _ _ _ r hsk.1 hsk.2 ⟨h0, hr⟩ W
        have HST : Hid (∀ q : Int, 0 ≤ q → q = r - ((E k).path.size : Int) - ((E k).data.size : Int) → q ≤ 1048576 ∧ SmE (k + 1) E) := fun q hq e => ⟨by omega, fun i hi => by
          rcases Nat.lt_or_ge i k with h | h
          · exact HA.out i h
          · obtain rfl : i = k := by omega
            omega⟩
        generalize (E k).path = p at *
        generalize (E k).kind = kd at *
        generalize (E k).data = d at *
        generalize (E k).exec = x at *
        clear hbel hc hsk
        go_wp2_with (go_at_call 7; refine (HSZ.out _).mono ?_; rintro e w1 ⟨⟨q, rfl, hq⟩, hl1⟩)
        · go_ret
          exact ⟨⟨-1, rfl, .inl rfl⟩, HBE.out.trans (hl1.mono HBE.out.size)⟩
        · have hq0 : 0 ≤ q := by omega
          have hqe : q = r - (p.size : Int) - (d.size : Int) := by omega
          obtain ⟨hq1, hq2⟩ := HST.out q hq0 hqe
          go_roundw
          case rel => exact ⟨k + 1, q, by omega, by go_num, rfl, hq0, hq1, hq2, HBE.out.trans (hl1.mono HBE.out.size)⟩
          case measure => simp [intOf]; omega
      · have hki : ¬ (k : Int) < (n : Int) := by omega
        obtain rfl : k = n := by omega
        go_wp2
        go_ret
        exact ⟨⟨r, rfl, .inr ⟨h0, hr, by omega, HA.out⟩⟩, HBE.out⟩

set_option maxRecDepth 100000 in
set_option maxHeartbeats 8000000 in
theorem put_law (hC : ∀ E, AtC E) (a0 : Option Addr) (len0 cap0 : Nat) (E0 : Nat → En) (P d : ByteArray) (k : Int) (x : Bool) (w : World) (hm : ML w) (hb : SrcE w a0 len0 E0) (hn0 : len0 ≤ maxLen) (hs0 : ∀ i, i < len0 → (E0 i).path.size ≤ maxLen ∧ (E0 i).data.size ≤ maxLen) (hP : P.size ≤ maxLen) (hd : d.size ≤ maxLen) :
    Calls Tryd.prog 3 #[.slice a0 len0 cap0, .agg #[.string P, .int .i64 k, .string d, .bool x]] w fun e w' => e = .returned (.bool true) ∧ Below w.heap.size w w' := by
  obtain ⟨wa, hwa⟩ : ∃ W, W = w.alloc (.cells #[.string P, .int .i64 k, .string d, .bool x] 24) := ⟨_, rfl⟩
  obtain ⟨lb, hlb⟩ : ∃ lb, lb = w.heap.size := ⟨_, rfl⟩
  have HXa : Hid (BxE wa lb P d k x) := by rw [hwa, hlb]; exact bxE_new _ _ _ _ _ _
  have HBa : Hid (Below w.heap.size w wa) := by rw [hwa]; exact (Below.refl _ _).alloc (Nat.le_refl _) _
  have HX : Hid (∀ W, Below wa.heap.size wa W → BxE W lb P d k x) := fun W hW => HXa.out.below hW
  have HUP : Hid (∀ W, Below wa.heap.size wa W → Below w.heap.size w W) := fun W hW => HBa.out.trans (hW.mono HBa.out.size)
  have HSR : Hid (∀ W, Below wa.heap.size wa W → SrcE W a0 len0 E0) := fun W hW => hb.below (HUP.out W hW)
  have HML : Hid (∀ W, Below wa.heap.size wa W → ML W) := fun W hW => hm.below (HUP.out W hW)
  have HSZ : Hid (Calls Tryd.prog 6 #[.slice a0 len0 cap0, .int .i64 1048576] wa fun e w' => (∃ r : Int, e = .returned (.int .i64 r) ∧ (r = -1 ∨ 0 ≤ r ∧ r ≤ 1048576 ∧ len0 ≤ 1048576 ∧ SmE len0 E0)) ∧ Below wa.heap.size wa w') := szS_le _ _ _ E0 _ (HSR.out _ (Below.refl _ _)) hn0 hs0
  clear hb hm
  go_enter Tryd.func3, Tryd.ntmps3
  go_upto_region 1 with fail
  rw [← hwa, ← hlb]
  clear hwa hlb
  go_wp2_with (go_at_call 6; refine HSZ.out.mono ?_; rintro e w1 ⟨⟨r, rfl, hr⟩, hl1⟩; have HR : Hid (r = -1 ∨ 0 ≤ r ∧ r ≤ 1048576 ∧ len0 ≤ 1048576 ∧ SmE len0 E0) := hr; clear hr; obtain ⟨y0, y1, y2, y3⟩ := HX.out _ hl1; have HB1 : Hid (Below wa.heap.size wa w1) := hl1; refine Hid.out ?_)
  refine Lib.hid ?_
  by_cases hr0 : r < 0
  · clear y0 y1 y2 y3
    go_wp2
    go_ret
    exact ⟨rfl, HUP.out _ HB1.out⟩
  obtain ⟨hr1, hr2, hn, hs⟩ := HR.out.resolve_left (by omega)
  have HS1 : Hid (∀ W, Calls Tryd.prog 7 #[.agg #[.string P, .int .i64 k, .string d, .bool x], .int .i64 r] W fun e w' => (∃ q : Int, e = .returned (.int .i64 q) ∧ (q = -1 ∨ 0 ≤ q ∧ q = r - (P.size : Int) - (d.size : Int))) ∧ Below W.heap.size W w') := fun W => sz1_any P d k x r hP hd ⟨hr1, hr2⟩ W
  go_wp2_with (go_at_call 7; refine (HS1.out _).mono ?_; rintro e w2 ⟨⟨q, rfl, hq⟩, hl2⟩; have HQ : Hid (q = -1 ∨ 0 ≤ q ∧ q = r - (P.size : Int) - (d.size : Int)) := hq; clear hq; have HB2 : Hid (Below wa.heap.size wa w2) := HB1.out.trans (hl2.mono HB1.out.size); refine Hid.out ?_)
  refine Lib.hid ?_
  clear y0 y1 y2 y3 hl1 hl2
  by_cases hq0 : q < 0
  · go_wp2
    go_ret
    exact ⟨rfl, HUP.out _ HB2.out⟩
  obtain ⟨hq1, hq2⟩ := HQ.out.resolve_left (by omega)
  have hPs : P.size ≤ 1048576 := by omega
  have hds : d.size ≤ 1048576 := by omega
  obtain ⟨a, ha⟩ : ∃ a, treeB E0 len0 = true → Rk E0 len0 P.data.toList a := by
    by_cases ht : treeB E0 len0 = true
    · obtain ⟨a, ha⟩ := rk_ex (q := P.data.toList) len0 (treeB_is ht).2.asc
      exact ⟨a, fun _ => ha⟩
    · exact ⟨0, fun h => absurd h ht⟩
  obtain ⟨ok, hok⟩ : ∃ ok, puB E0 len0 ⟨P, k, d, x⟩ a = ok := ⟨_, rfl⟩
  obtain ⟨n, hnn⟩ : ∃ n, puN E0 len0 ⟨P, k, d, x⟩ a = n := ⟨_, rfl⟩
  obtain ⟨F, hF⟩ : ∃ F, puF E0 len0 ⟨P, k, d, x⟩ a = F := ⟨_, rfl⟩
  have hnb : n ≤ 1048577 := by have := puN_le E0 len0 ⟨P, k, d, x⟩ a; omega
  have hnb : n ≤ 1048576 := by
    rw [← hnn]
    unfold puN
    split
    · rename_i ht
      have := (treeB_is ht).1
      split
      · have := ptN_le E0 len0 ⟨P, k, d, x⟩ a; omega
      · omega
    · omega
  have HTO : Hid (∀ W, Calls Tryd.prog 10 #[.agg #[.string P, .int .i64 k, .string d, .bool x]] W fun r w' => r = .returned (.agg #[.string P, .int .i64 k, .string d, .bool x]) ∧ Below W.heap.size W w') := fun W => to1_any P d k x W
  have HTS : Hid (∀ W, Below wa.heap.size wa W → Calls Tryd.prog 9 #[.slice a0 len0 cap0] W fun e w' => e = .returned (.slice (some ⟨W.heap.size, 0, none⟩) len0 len0) ∧ w'.rowIs W.heap.size 31 (len0 * 4) (cellE E0) ∧ Below W.heap.size W w') := fun W hW => toS_full _ _ _ E0 _ (HSR.out W hW) hn
  have HSP : Hid (∀ W b, EnR W b 0 len0 E0 → Calls Tryd.prog 8 #[.slice (some ⟨b, 0, none⟩) len0 len0, .agg #[.string P, .int .i64 k, .string d, .bool x]] W fun r w' => (∃ v, r = .returned (.tuple #[v, .bool ok]) ∧ RowE W.heap.size w' v n F) ∧ Below W.heap.size W w') := fun W b hE => by
    have := sput_any E0 b len0 a P d k x W hE hs hn hPs hds ha
    rw [hok, hnn, hF] at this
    exact this
  have HIP : Hid (∀ W b, Below wa.heap.size wa W → EnR W b 0 len0 E0 → Calls Tryd.prog 11 #[.slice (some ⟨b, 0, none⟩) len0 len0, .agg #[.string P, .int .i64 k, .string d, .bool x]] W fun r w' => (∃ v, r = .returned (.tuple #[v, .bool ok]) ∧ RowE W.heap.size w' v n F) ∧ Below W.heap.size W w') := fun W b hW hE => by
    have := iput_any hC E0 b len0 a P d k x W hE hs hn hPs hds (HML.out W hW) ha
    rw [hok, hnn, hF] at this
    exact this
  have HEQ : Hid (∀ (W : World) g g' c c' base base', RwE base W g n F → RwE base' W g' n F → Calls Tryd.prog 12 #[.slice (some ⟨g, 0, none⟩) n c, .slice (some ⟨g', 0, none⟩) n c'] W fun e w' => e = .returned (.bool true) ∧ Below W.heap.size W w') := fun W g g' c c' base base' h1 h2 => eqS_any _ _ _ _ _ F _ h1.ent h2.ent hnb
  clear hok hnn hF ha hs hq1 hq2 hr1 hr2
  go_wp2_with fail
  have T2 : BxE w2 lb P d k x := HX.out _ HB2.out
  have HB2d : Hid (Below wa.heap.size wa w2.drew) := HB2.out.drew
  have T2d : BxE w2.drew lb P d k x := HX.out _ HB2.out.drew
  have HD23 : Hid (∀ W, Below w2.drew.heap.size w2.drew W → Below wa.heap.size wa W) := fun W hW => HB2d.out.trans (hW.mono HB2d.out.size)
  go_region_held3 (fun w' => w'.cell? ⟨lb, 0, none⟩ = some (.string P) ∧ w'.cell? ⟨lb, 1, none⟩ = some (.int .i64 k) ∧ w'.cell? ⟨lb, 2, none⟩ = some (.string d) ∧ w'.cell? ⟨lb, 3, none⟩ = some (.bool x))
    (first | exact T2d | exact T3 | exact T4 | exact T5 | go_keep)
    (first
      | ((go_at_call 9; refine (HTS.out _ HB2d.out).mono ?_; rintro e w3 ⟨rfl, hr3, hl3⟩; have hb3 : Below wa.heap.size wa w3 := HD23.out _ hl3; have T3 : BxE w3 lb P d k x := HX.out _ hb3; have HE3 : Hid (EnR w3 w2.drew.heap.size 0 len0 E0) := enr_row hr3; clear hr3))
      | ((go_at_call 10; refine (HTO.out _).mono ?_; rintro e w4 ⟨rfl, hl4⟩; have hb4 : Below wa.heap.size wa w4 := hb3.trans (hl4.mono hb3.size); have T4 : BxE w4 lb P d k x := HX.out _ hb4; have HE4 : Hid (EnR w4 w2.drew.heap.size 0 len0 E0) := HE3.out.below hl4))
      | ((go_at_call 8; refine (HSP.out _ _ HE4.out).mono ?_; rintro e w5 ⟨⟨v5, rfl, hv5⟩, hl5⟩; obtain ⟨g5, c5, rfl, hq5⟩ := rwE_of hv5; have hb5 : Below wa.heap.size wa w5 := hb4.trans (hl5.mono hb4.size); have T5 : BxE w5 lb P d k x := HX.out _ hb5)))
  have B5 : Below wa.heap.size wa w5 := hb5
  have HQ5 : Hid (RwE w4.heap.size w5 g5 n F) := hq5
  have hg5 : g5 < w5.heap.size := hq5.lt
  clear hv5 hq5 T2 T2d T3 T4 T5 hb3 hb4 hb5 hl3 hl4 hl5
  go_wp2_with (go_at_call 9; refine (HTS.out _ B5).mono ?_; rintro e w6 ⟨rfl, hr6, hl6⟩; have B6 : Below wa.heap.size wa w6 := B5.trans (hl6.mono B5.size); obtain ⟨y0, y1, y2, y3⟩ := HX.out _ B6; refine Hid.out ?_)
  refine Lib.hid ?_
  have hlt6 : w5.heap.size < w6.heap.size := hr6.lt
  have HR6 : Hid (RwE w5.heap.size w6 w5.heap.size len0 E0) := ⟨Nat.le_refl _, ⟨_, _, Nat.le_refl _, hr6⟩, enr_row hr6⟩
  have HQ56 : Hid (RwE w4.heap.size w6 g5 n F) := HQ5.out.below hl6
  clear hr6
  go_wp2_with (first
    | (go_at_call 10; refine (HTO.out _).mono ?_; rintro e w7 ⟨rfl, hl7⟩; have B7 : Below wa.heap.size wa w7 := B6.trans (hl7.mono B6.size); have HR7 : Hid (RwE w5.heap.size w7 w5.heap.size len0 E0) := HR6.out.below hl7)
    | (go_at_call 11; refine (HIP.out _ _ B7 HR7.out.ent).mono ?_; rintro e w8 ⟨⟨v8, rfl, hv8⟩, hl8⟩; obtain ⟨g8, c8, rfl, hq8⟩ := rwE_of hv8; refine Hid.out ?_))
  refine Lib.hid ?_
  have B8 : Below wa.heap.size wa w8 := B7.trans (hl8.mono B7.size)
  have b68 : Below w6.heap.size w6 w8 := hl7.trans (hl8.mono hl7.size)
  have HQ8 : Hid (RwE w7.heap.size w8 g8 n F) := hq8
  have hg8 : w7.heap.size ≤ g8 := hq8.new
  have hs67 : w6.heap.size ≤ w7.heap.size := hl7.size
  have HQ58 : Hid (RwE w4.heap.size w8 g5 n F) := HQ56.out.below b68
  have HR8 : Hid (RwE w5.heap.size w8 w5.heap.size len0 E0) := HR6.out.below b68
  clear hv8 hq8 y0 y1 y2 y3
  go_wp2_with (go_at_call 12; refine (HEQ.out _ _ _ _ _ _ _ HQ8.out HQ58.out).mono ?_; rintro e w9 ⟨rfl, hl9⟩; refine Hid.out ?_)
  refine Lib.hid ?_
  have B9 : Below wa.heap.size wa w9 := B8.trans (hl9.mono B8.size)
  go_wp2_with (go_at_call 9; refine (HTS.out _ B9).mono ?_; rintro e w10 ⟨rfl, hr10, hl10⟩; refine Hid.out ?_)
  refine Lib.hid ?_
  have B10 : Below wa.heap.size wa w10 := B9.trans (hl10.mono B9.size)
  go_wp2_with (go_at_call 12; refine (eqS_any _ _ _ _ _ E0 _ ((HR8.out.below hl9).below hl10).ent (enr_row hr10) hn).mono ?_; rintro e w11 ⟨rfl, hl11⟩; refine Hid.out ?_)
  refine Lib.hid ?_
  have B11 : Below wa.heap.size wa w11 := B10.trans (hl11.mono B10.size)
  have b810 : Below w8.heap.size w8 w10 := hl9.trans (hl10.mono hl9.size)
  have b811 : Below w8.heap.size w8 w11 := b810.trans (hl11.mono b810.size)
  have HR11 : Hid (RwE w5.heap.size w11 w5.heap.size len0 E0) := HR8.out.below b811
  have HQ811 : Hid (RwE w7.heap.size w11 g8 n F) := HQ8.out.below b811
  have HQ511 : Hid (RwE w4.heap.size w11 g5 n F) := HQ58.out.below b811
  have hs5 := B5.size
  obtain ⟨K, hK⟩ : ∃ K : Nat, 1 + 4 * len0 = K := ⟨_, rfl⟩
  have HME : Hid (Calls Tryd.prog 13 #[.slice (some ⟨w5.heap.size, 0, none⟩) len0 len0, .int .i64 1] w11 fun e w' => e = .returned (.int .i64 (K : Int)) ∧ EnR w' w5.heap.size 0 len0 (mEs 1) ∧ w11.grownBy w' (some w5.heap.size)) := markR_any _ _ _ _ _ _ _ HR11.out hn hK
  have hk12 : ¬ (K : Int) < 0 := by omega
  clear hr10 hK
  go_wp2_with (go_at_call 13; refine HME.out.mono ?_; rintro e w12 ⟨rfl, hm12, hg12⟩; refine Hid.out ?_)
  refine Lib.hid ?_
  have B12 : Below wa.heap.size wa w12 := bel_grownE B11 hg12 B11.size hs5
  have HQ812 : Hid (RwE w7.heap.size w12 g8 n F) := HQ811.out.grown hg12 (by omega)
  have HQ512 : Hid (RwE w4.heap.size w12 g5 n F) := HQ511.out.grown hg12 (by omega)
  clear hm12 hg12
  go_wp2_with (go_at_call 12; refine (HEQ.out _ _ _ _ _ _ _ HQ812.out HQ512.out).mono ?_; rintro e w13 ⟨rfl, hl13⟩; refine Hid.out ?_)
  refine Lib.hid ?_
  have B13 : Below wa.heap.size wa w13 := B12.trans (hl13.mono B12.size)
  have HQ813 : Hid (RwE w7.heap.size w13 g8 n F) := HQ812.out.below hl13
  have HQ513 : Hid (RwE w4.heap.size w13 g5 n F) := HQ512.out.below hl13
  obtain ⟨K2, hK2⟩ : ∃ K : Nat, 1 + 4 * n = K := ⟨_, rfl⟩
  have HMK : Hid (Calls Tryd.prog 13 #[.slice (some ⟨g8, 0, none⟩) n c8, .int .i64 1] w13 fun e w' => e = .returned (.int .i64 (K2 : Int)) ∧ EnR w' g8 0 n (mEs 1) ∧ w13.grownBy w' (some g8)) := markR_any _ _ _ _ _ _ _ HQ813.out hnb hK2
  have HHB : Hid (∀ W, EnR W g8 0 n (mEs 1) → Calls Tryd.prog 14 #[.slice (some ⟨g8, 0, none⟩) n c8, .int .i64 1] W fun e w' => e = .returned (.int .i64 (K2 : Int)) ∧ Below W.heap.size W w') := fun W hW => heldR_any _ _ _ _ _ hW hnb hK2
  have hk14 : ¬ (K2 : Int) < 0 := by omega
  have s78 : wa.heap.size ≤ g8 := Nat.le_trans B7.size hg8
  clear hK2
  go_wp2_with (go_at_call 13; refine HMK.out.mono ?_; rintro e w14 ⟨rfl, hm14, hg14⟩; refine Hid.out ?_)
  refine Lib.hid ?_
  have B14 : Below wa.heap.size wa w14 := bel_grownE B13 hg14 B13.size s78
  have HQ514 : Hid (RwE w4.heap.size w14 g5 n F) := HQ513.out.grown hg14 (by omega)
  have HM14 : Hid (EnR w14 g8 0 n (mEs 1)) := hm14
  clear hm14 hg14
  go_wp2_with (go_at_call 14; refine (HHB.out _ HM14.out).mono ?_; rintro e w15 ⟨rfl, hl15⟩; refine Hid.out ?_)
  refine Lib.hid ?_
  have B15 : Below wa.heap.size wa w15 := B14.trans (hl15.mono B14.size)
  have HQ515 : Hid (RwE w4.heap.size w15 g5 n F) := HQ514.out.below hl15
  have HM15 : Hid (EnR w15 g8 0 n (mEs 1)) := HM14.out.below hl15
  go_wp2_with fail
  have HB15d : Hid (Below wa.heap.size wa w15.drew) := B15.drew
  have U15d : BxE w15.drew lb P d k x := HX.out _ B15.drew
  have HD15 : Hid (∀ W, Below w15.drew.heap.size w15.drew W → Below wa.heap.size wa W) := fun W hW => HB15d.out.trans (hW.mono HB15d.out.size)
  go_region_held3 (fun w' => w'.cell? ⟨lb, 0, none⟩ = some (.string P) ∧ w'.cell? ⟨lb, 1, none⟩ = some (.int .i64 k) ∧ w'.cell? ⟨lb, 2, none⟩ = some (.string d) ∧ w'.cell? ⟨lb, 3, none⟩ = some (.bool x))
    (first | exact U15d | exact U16 | exact U17 | exact U18 | go_keep)
    (first
      | ((go_at_call 9; refine (HTS.out _ HB15d.out).mono ?_; rintro e w16 ⟨rfl, hr16, hl16⟩; have b16 : Below wa.heap.size wa w16 := HD15.out _ hl16; have U16 : BxE w16 lb P d k x := HX.out _ b16; have HE16 : Hid (EnR w16 w15.drew.heap.size 0 len0 E0) := enr_row hr16; clear hr16))
      | ((go_at_call 10; refine (HTO.out _).mono ?_; rintro e w17 ⟨rfl, hl17⟩; have b17 : Below wa.heap.size wa w17 := b16.trans (hl17.mono b16.size); have U17 : BxE w17 lb P d k x := HX.out _ b17; have HE17 : Hid (EnR w17 w15.drew.heap.size 0 len0 E0) := HE16.out.below hl17))
      | ((go_at_call 11; refine (HIP.out _ _ b17 HE17.out).mono ?_; rintro e w18 ⟨⟨v18, rfl, hv18⟩, hl18⟩; obtain ⟨g18, c18, rfl, hq18⟩ := rwE_of hv18; have b18 : Below wa.heap.size wa w18 := b17.trans (hl18.mono b17.size); have U18 : BxE w18 lb P d k x := HX.out _ b18)))
  have d16 : Below w15.heap.size w15 w16 := ⟨hl16.os, hl16.tape, hl16.output, hl16.size, hl16.block⟩
  have d17 : Below w15.heap.size w15 w17 := d16.trans (hl17.mono d16.size)
  have d18 : Below w15.heap.size w15 w18 := d17.trans (hl18.mono d17.size)
  have HQ518 : Hid (RwE w4.heap.size w18 g5 n F) := HQ515.out.below d18
  have HQ18 : Hid (RwE w17.heap.size w18 g18 n F) := hq18
  have HM18 : Hid (EnR w18 g8 0 n (mEs 1)) := HM15.out.below d18
  clear hv18 hq18 U15d U16 U17 U18
  go_wp2_with (go_at_call 12; refine (HEQ.out _ _ _ _ _ _ _ HQ18.out HQ518.out).mono ?_; rintro e w19 ⟨rfl, hl19⟩; refine Hid.out ?_)
  refine Lib.hid ?_
  have B19 : Below wa.heap.size wa w19 := b18.trans (hl19.mono b18.size)
  have HM19 : Hid (EnR w19 g8 0 n (mEs 1)) := HM18.out.below hl19
  go_wp2_with (go_at_call 14; refine (HHB.out _ HM19.out).mono ?_; rintro e w20 ⟨rfl, hl20⟩)
  go_ret
  exact ⟨rfl, HUP.out _ (B19.trans (hl20.mono B19.size))⟩

end Go.Proofs.YtabhgmpbokkjlaaDoor.tt
