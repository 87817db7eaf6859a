import Derived.Test.YtoaccaiddifliaaDoorSZ
import Derived.Test.YtoaccaiddifliaaDoorSY
import Derived.Test.YtoaccaiddifliaaDoorPN
namespace Go.Proofs.YtoaccaiddifliaaDoor.pf
open Go.ChangeShapes Go.WideShapes Go.ChangeAt Go.RowKit Go.Deep Go.Maps
set_option linter.unusedVariables false
set_option linter.unusedSimpArgs false

/-! ### Profiles: laws.FnExactSwitch's walk -/

theorem sw_small {ps : List Pr} (hw : wtP ps ≤ 1048576) : ps.length ≤ 1048576 ∧ ∀ x ∈ ps, x.gens.length ≤ 1048576 := ⟨by have := wt_len ps; omega, fun x hx => by have := wt_gens hx; omega⟩

set_option maxHeartbeats 8000000 in
set_option maxRecDepth 100000 in
theorem sw_law (a0 : Option Addr) (cap0 : Nat) (ps : List Pr) (q : ByteArray) (pa : ByteArray) (hpa : pa.size ≤ maxLen) (hq : q.size ≤ maxLen) (w : World) (hT : wd.TabB w) (hb : SrcP w a0 ps) (hs : SmP ps) :
    Calls Tryd.prog 3 #[.slice a0 ps.length cap0, .string q, .string pa] w fun e w' => e = .returned (.bool true) ∧ Below w.heap.size w w' := by
  by_cases hbig : 1048576 < q.size
  · have hbig' : (1048576 : Int) < (q.size : Int) := by omega
    clear hb hs hT
    go_enter Tryd.func3, Tryd.ntmps3
    go_wp2
    go_ret
    exact ⟨rfl, Below.refl _ _⟩
  have hbig' : ¬ (1048576 : Int) < (q.size : Int) := by omega
  have hq1 : q.size ≤ 1048576 := by omega
  by_cases hbig2 : 1048576 < pa.size
  · have hbig2' : (1048576 : Int) < (pa.size : Int) := by omega
    clear hb hs hT
    go_enter Tryd.func3, Tryd.ntmps3
    go_wp2
    go_ret
    exact ⟨rfl, Below.refl _ _⟩
  have hbig2' : ¬ (1048576 : Int) < (pa.size : Int) := by omega
  have hp1 : pa.size ≤ 1048576 := by omega
  have HSZ : Hid (Calls Tryd.prog 4 #[.slice a0 ps.length cap0, .int .i64 1048576] w fun e w' => (∃ r : Int, e = .returned (.int .i64 r) ∧ (r = -1 ∨ 0 ≤ r ∧ r = 1048576 - (wtP ps : Int))) ∧ Below w.heap.size w w') := szP_any a0 cap0 ps w hb hs
  have HTO : Hid (∀ W, Below w.heap.size w W → wtP ps ≤ 1048576 → Calls Tryd.prog 6 #[.slice a0 ps.length cap0] W fun e w' => e = .returned (.slice (some ⟨W.heap.size, 0, none⟩) ps.length ps.length) ∧ (∃ gs, OwP W.heap.size w'.heap.size w' W.heap.size gs ps) ∧ Below W.heap.size W w') := fun W h hw => toP_any a0 cap0 ps W (hb.below h) (sw_small hw).1 (sw_small hw).2
  have HT : Hid (wd.TabB w) := hT
  clear hb hs hT
  obtain ⟨n, hnn⟩ : ∃ n, ps.length = n := ⟨_, rfl⟩
  obtain ⟨ps', hps'⟩ : ∃ t, (swP ps q pa).1 = t := ⟨_, rfl⟩
  obtain ⟨ok, hok⟩ : ∃ t, (swP ps q pa).2 = t := ⟨_, rfl⟩
  obtain ⟨n', hnn'⟩ : ∃ n, ps'.length = n := ⟨_, rfl⟩
  have HNN' : Hid (ps'.length = n') := hnn'
  have HW' : Hid (wtP ps ≤ 1048576 → wtP ps' ≤ 1048576) := fun hw => by rw [← hps']; exact swP_wt hw
  have HSP : Hid (∀ lo hi b c gs W, OwP lo hi W b gs ps → wtP ps ≤ 1048576 → Calls Tryd.prog 5 #[.slice (some ⟨b, 0, none⟩) n c, .string q, .string pa] W fun e w' => (∃ v, e = .returned (.tuple #[v, .bool ok]) ∧ ResP W.heap.size w' v ps') ∧ Below W.heap.size W w') := fun lo hi b c gs W h hw => by rw [← hnn, ← hok, ← hps']; exact ssw_any _ _ _ _ _ ps q pa W h hw hq1 hp1
  have HIP : Hid (∀ b c W, SrcP W (some ⟨b, 0, none⟩) ps → wtP ps ≤ 1048576 → wd.TabB W → Calls Tryd.prog 7 #[.slice (some ⟨b, 0, none⟩) n c, .string q, .string pa] W fun e w' => (∃ v, e = .returned (.tuple #[v, .bool ok]) ∧ ResP W.heap.size w' v ps') ∧ Below W.heap.size W w') := fun b c W h hw ht => by rw [← hnn, ← hok, ← hps']; exact isw_any ps _ _ q pa W h hw ht hq1 hp1
  have HEQ : Hid (∀ (a a' : Option Addr) (c c' : Nat) W, SrcP W a ps → SrcP W a' ps → wtP ps ≤ 1048576 → Calls Tryd.prog 8 #[.slice a n c, .slice a' n c'] W fun e w' => e = .returned (.bool true) ∧ Below W.heap.size W w') := fun a a' c c' W h h' hw => by rw [← hnn]; exact eqP_any a a' c c' ps W h h' (sw_small hw).1 (sw_small hw).2
  have HEQ' : Hid (∀ (a a' : Option Addr) (c c' : Nat) W, SrcP W a ps' → SrcP W a' ps' → wtP ps' ≤ 1048576 → Calls Tryd.prog 8 #[.slice a n' c, .slice a' n' c'] W fun e w' => e = .returned (.bool true) ∧ Below W.heap.size W w') := fun a a' c c' W h h' hw => by rw [← hnn']; exact eqP_any a a' c c' ps' W h h' (sw_small hw).1 (sw_small hw).2
  obtain ⟨K, hK⟩ : ∃ K : Nat, kAt 1 ps ps.length = K := ⟨_, rfl⟩
  obtain ⟨K', hK'⟩ : ∃ K : Nat, kAt 1 ps' ps'.length = K := ⟨_, rfl⟩
  have HMK : Hid (∀ lo hi b c gs W, OwP lo hi W b gs ps → wtP ps ≤ 1048576 → Calls Tryd.prog 9 #[.slice (some ⟨b, 0, none⟩) n c, .int .i64 1] W fun e w' => e = .returned (.int .i64 (K : Int)) ∧ OwP lo hi w' b gs (mkP 1 ps) ∧ Mid lo hi W w') := fun lo hi b c gs W h hw => by
    have := markP_any lo hi b c 1 gs ps W h hw (by omega) (by omega)
    rw [hK, hnn] at this
    exact this
  have HMK' : Hid (∀ lo hi b c gs W, OwP lo hi W b gs ps' → wtP ps' ≤ 1048576 → Calls Tryd.prog 9 #[.slice (some ⟨b, 0, none⟩) n' c, .int .i64 1] W fun e w' => e = .returned (.int .i64 (K' : Int)) ∧ OwP lo hi w' b gs (mkP 1 ps') ∧ Mid lo hi W w') := fun lo hi b c gs W h hw => by
    have := markP_any lo hi b c 1 gs ps' W h hw (by omega) (by omega)
    rw [hK', hnn'] at this
    exact this
  have HHD : Hid (∀ a c W, SrcP W a (mkP 1 ps') → wtP ps' ≤ 1048576 → Calls Tryd.prog 10 #[.slice a n' c, .int .i64 1] W fun e w' => e = .returned (.int .i64 (K' : Int)) ∧ Below W.heap.size W w') := fun a c W h hw => by
    have := heldP_any a c 1 ps' W h hw (by omega) (by omega)
    rw [hK', hnn'] at this
    exact this
  rw [hnn] at HSZ HTO ⊢
  clear hnn hps' hok hnn' hK hK'
  go_enter Tryd.func3, Tryd.ntmps3
  go_wp2_with (go_at_call 4; refine HSZ.out.mono ?_; rintro e w1 ⟨⟨r, rfl, hr⟩, hl1⟩)
  · go_ret
    exact ⟨rfl, hl1⟩
  · have HW : Hid (wtP ps ≤ 1048576) := by
      have h := hr.resolve_left (by omega)
      show _ ≤ _
      omega
    have HWW : Hid (wtP ps' ≤ 1048576) := HW'.out HW.out
    clear hr
    go_wp2_with (go_at_call 6; refine (HTO.out _ hl1 HW.out).mono ?_; rintro e w2 ⟨rfl, ⟨gs2, ho2⟩, hl2⟩; refine Hid.out ?_)
    refine Lib.hid ?_
    have HO2 : Hid (OwP w1.heap.size w2.heap.size w2 w1.heap.size gs2 ps) := ho2
    have B2 : Below w.heap.size w w2 := hl1.trans (hl2.mono hl1.size)
    clear ho2 hl2
    go_wp2_with (go_at_call 5; refine (HSP.out _ _ _ _ _ _ HO2.out HW.out).mono ?_; rintro e w3 ⟨⟨v3, rfl, hv3⟩, hl3⟩; obtain ⟨b3, c3, gs3, hve3, ho3⟩ := hv3; rw [HNN'.out] at hve3; subst hve3; refine Hid.out ?_)
    refine Lib.hid ?_
    have HO3 : Hid (OwP w2.heap.size w3.heap.size w3 b3 gs3 ps') := ho3
    have B3 : Below w.heap.size w w3 := B2.trans (hl3.mono B2.size)
    clear ho3 hl3 HO2
    go_wp2_with (go_at_call 6; refine (HTO.out _ B3 HW.out).mono ?_; rintro e w4 ⟨rfl, ⟨gs4, ho4⟩, hl4⟩; refine Hid.out ?_)
    refine Lib.hid ?_
    have HO4 : Hid (OwP w3.heap.size w4.heap.size w4 w3.heap.size gs4 ps) := ho4
    have HP4 : Hid (OwP w2.heap.size w3.heap.size w4 b3 gs3 ps') := HO3.out.below hl4
    have B4 : Below w.heap.size w w4 := B3.trans (hl4.mono B3.size)
    have s34 : w3.heap.size ≤ w4.heap.size := hl4.size
    clear ho4 hl4
    go_wp2_with (go_at_call 7; refine (HIP.out _ _ _ HO4.out.src HW.out (HT.out.below B4)).mono ?_; rintro e w5 ⟨⟨v5, rfl, hv5⟩, hl5⟩; obtain ⟨b5, c5, gs5, hve5, ho5⟩ := hv5; rw [HNN'.out] at hve5; subst hve5; refine Hid.out ?_)
    refine Lib.hid ?_
    have HG5 : Hid (OwP w4.heap.size w5.heap.size w5 b5 gs5 ps') := ho5
    have HX5 : Hid (OwP w3.heap.size w4.heap.size w5 w3.heap.size gs4 ps) := HO4.out.below hl5
    have HP5 : Hid (OwP w2.heap.size w3.heap.size w5 b3 gs3 ps') := HP4.out.below hl5
    have B5 : Below w.heap.size w w5 := B4.trans (hl5.mono B4.size)
    have s45 : w4.heap.size ≤ w5.heap.size := hl5.size
    clear ho5 hl5 HP4
    go_wp2_with (go_at_call 8; refine (HEQ'.out _ _ _ _ _ HG5.out.src HP5.out.src HWW.out).mono ?_; rintro e w6 ⟨rfl, hl6⟩; refine Hid.out ?_)
    refine Lib.hid ?_
    have HG6 : Hid (OwP w4.heap.size w5.heap.size w6 b5 gs5 ps') := HG5.out.below hl6
    have HX6 : Hid (OwP w3.heap.size w4.heap.size w6 w3.heap.size gs4 ps) := HX5.out.below hl6
    have HP6 : Hid (OwP w2.heap.size w3.heap.size w6 b3 gs3 ps') := HP5.out.below hl6
    have B6 : Below w.heap.size w w6 := B5.trans (hl6.mono B5.size)
    clear hl6
    go_wp2_with (go_at_call 6; refine (HTO.out _ B6 HW.out).mono ?_; rintro e w7 ⟨rfl, ⟨gs7, ho7⟩, hl7⟩; refine Hid.out ?_)
    refine Lib.hid ?_
    have HY7 : Hid (SrcP w7 (some ⟨w6.heap.size, 0, none⟩) ps) := ho7.src
    have HG7 : Hid (OwP w4.heap.size w5.heap.size w7 b5 gs5 ps') := HG6.out.below hl7
    have HX7 : Hid (OwP w3.heap.size w4.heap.size w7 w3.heap.size gs4 ps) := HX6.out.below hl7
    have HP7 : Hid (OwP w2.heap.size w3.heap.size w7 b3 gs3 ps') := HP6.out.below hl7
    have B7 : Below w.heap.size w w7 := B6.trans (hl7.mono B6.size)
    clear ho7 hl7
    go_wp2_with (go_at_call 8; refine (HEQ.out _ _ _ _ _ HX7.out.src HY7.out HW.out).mono ?_; rintro e w8 ⟨rfl, hl8⟩; refine Hid.out ?_)
    refine Lib.hid ?_
    have HG8 : Hid (OwP w4.heap.size w5.heap.size w8 b5 gs5 ps') := HG7.out.below hl8
    have HX8 : Hid (OwP w3.heap.size w4.heap.size w8 w3.heap.size gs4 ps) := HX7.out.below hl8
    have HP8 : Hid (OwP w2.heap.size w3.heap.size w8 b3 gs3 ps') := HP7.out.below hl8
    have B8 : Below w.heap.size w w8 := B7.trans (hl8.mono B7.size)
    clear hl8
    go_wp2_with (go_at_call 9; refine (HMK.out _ _ _ _ _ _ HX8.out HW.out).mono ?_; rintro e w9 ⟨rfl, ho9, hm9⟩; refine Hid.out ?_)
    refine Lib.hid ?_
    have HG9 : Hid (OwP w4.heap.size w5.heap.size w9 b5 gs5 ps') := HG8.out.kept hm9.size (fun k h1 h2 => hm9.block k (Nat.lt_of_lt_of_le h2 HG8.out.hi_le) (.inr h1))
    have HP9 : Hid (OwP w2.heap.size w3.heap.size w9 b3 gs3 ps') := HP8.out.kept hm9.size (fun k h1 h2 => hm9.block k (Nat.lt_of_lt_of_le h2 HP8.out.hi_le) (.inl h2))
    have B9 : Below w.heap.size w w9 := B8.trans (hm9.toBelow B3.size B8.size)
    have hKn : ¬ (K : Int) < 0 := by omega
    have hKn' : ¬ (K' : Int) < 0 := by omega
    clear ho9 hm9
    go_wp2_with (go_at_call 8; refine (HEQ'.out _ _ _ _ _ HG9.out.src HP9.out.src HWW.out).mono ?_; rintro e w10 ⟨rfl, hl10⟩; refine Hid.out ?_)
    refine Lib.hid ?_
    have HG10 : Hid (OwP w4.heap.size w5.heap.size w10 b5 gs5 ps') := HG9.out.below hl10
    have HP10 : Hid (OwP w2.heap.size w3.heap.size w10 b3 gs3 ps') := HP9.out.below hl10
    have B10 : Below w.heap.size w w10 := B9.trans (hl10.mono B9.size)
    clear hl10
    go_wp2_with (go_at_call 9; refine (HMK'.out _ _ _ _ _ _ HG10.out HWW.out).mono ?_; rintro e w11 ⟨rfl, ho11, hm11⟩; refine Hid.out ?_)
    refine Lib.hid ?_
    have HG11 : Hid (OwP w4.heap.size w5.heap.size w11 b5 gs5 (mkP 1 ps')) := ho11
    have HP11 : Hid (OwP w2.heap.size w3.heap.size w11 b3 gs3 ps') := HP10.out.kept hm11.size (fun k h1 h2 => hm11.block k (Nat.lt_of_lt_of_le h2 HP10.out.hi_le) (.inl (Nat.lt_of_lt_of_le h2 s34)))
    have B11 : Below w.heap.size w w11 := B10.trans (hm11.toBelow B4.size B10.size)
    clear ho11 hm11
    go_wp2_with (go_at_call 10; refine (HHD.out _ _ _ HG11.out.src HWW.out).mono ?_; rintro e w12 ⟨rfl, hl12⟩; refine Hid.out ?_)
    refine Lib.hid ?_
    have HG12 : Hid (OwP w4.heap.size w5.heap.size w12 b5 gs5 (mkP 1 ps')) := HG11.out.below hl12
    have HP12 : Hid (OwP w2.heap.size w3.heap.size w12 b3 gs3 ps') := HP11.out.below hl12
    have B12 : Below w.heap.size w w12 := B11.trans (hl12.mono B11.size)
    clear hl12
    go_wp2_with (go_at_call 6; refine (HTO.out _ B12 HW.out).mono ?_; rintro e w13 ⟨rfl, ⟨gs13, ho13⟩, hl13⟩; refine Hid.out ?_)
    refine Lib.hid ?_
    have HO13 : Hid (OwP w12.heap.size w13.heap.size w13 w12.heap.size gs13 ps) := ho13
    have HG13 : Hid (OwP w4.heap.size w5.heap.size w13 b5 gs5 (mkP 1 ps')) := HG12.out.below hl13
    have HP13 : Hid (OwP w2.heap.size w3.heap.size w13 b3 gs3 ps') := HP12.out.below hl13
    have B13 : Below w.heap.size w w13 := B12.trans (hl13.mono B12.size)
    clear ho13 hl13
    go_wp2_with (go_at_call 7; refine (HIP.out _ _ _ HO13.out.src HW.out (HT.out.below B13)).mono ?_; rintro e w14 ⟨⟨v14, rfl, hv14⟩, hl14⟩; obtain ⟨b14, c14, gs14, hve14, ho14⟩ := hv14; rw [HNN'.out] at hve14; subst hve14; refine Hid.out ?_)
    refine Lib.hid ?_
    have HH14 : Hid (SrcP w14 (some ⟨b14, 0, none⟩) ps') := ho14.src
    have HG14 : Hid (OwP w4.heap.size w5.heap.size w14 b5 gs5 (mkP 1 ps')) := HG13.out.below hl14
    have HP14 : Hid (OwP w2.heap.size w3.heap.size w14 b3 gs3 ps') := HP13.out.below hl14
    have B14 : Below w.heap.size w w14 := B13.trans (hl14.mono B13.size)
    clear ho14 hl14
    go_wp2_with (go_at_call 8; refine (HEQ'.out _ _ _ _ _ HH14.out HP14.out.src HWW.out).mono ?_; rintro e w15 ⟨rfl, hl15⟩; refine Hid.out ?_)
    refine Lib.hid ?_
    have HG15 : Hid (OwP w4.heap.size w5.heap.size w15 b5 gs5 (mkP 1 ps')) := HG14.out.below hl15
    have B15 : Below w.heap.size w w15 := B14.trans (hl15.mono B14.size)
    clear hl15
    go_wp2_with (go_at_call 10; refine (HHD.out _ _ _ HG15.out.src HWW.out).mono ?_; rintro e w16 ⟨rfl, hl16⟩)
    go_ret
    exact ⟨rfl, B15.trans (hl16.mono B15.size)⟩

end Go.Proofs.YtoaccaiddifliaaDoor.pf
