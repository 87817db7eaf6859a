import Derived.Test.YtifgaaemdojmpaaGreatDoorG25
import Derived.Deep.LoopGhost
import Derived.Deep.QuietTactic
import Derived.BigQuiet
import Derived.Test.YtifgaaemdojmpaaGreatDoorG01
import Derived.LaidLaws
import Derived.ChangeArms
import Derived.ChangeSame
import Derived.Test.YtifgaaemdojmpaaGreatDoorG13
import Derived.Test.YtifgaaemdojmpaaGreatDoorG04
import Derived.Deep.Slices
import Derived.Test.YtifgaaemdojmpaaGreatDoorRows
namespace Go.Proofs.YtifgaaemdojmpaaGreatDoor.pr
open Go.ChangeShapes Go.WideShapes Go.ChangeAt Go.RowKit Go.Deep
open ex (Tr Ex okAll frees asc strL StrR xAt xAt_some Tabs)
set_option linter.unusedVariables false
set_option linter.unusedSimpArgs false

/-! ### FnFreeBound: the law -/

set_option maxRecDepth 100000 in
set_option maxHeartbeats 16000000 in
theorem fb_law (a : Option Addr) (n cap : Nat) (w : World) (hb : dr.CodeB w a n) (hlt : ∀ x, a = some x → 0 < n → x.block < w.heap.size) (T : Tabs w) :
    Calls Tryz.prog 3 #[.slice a n cap] w fun e w' => e = .returned (.bool true) ∧ Below w.heap.size w w' := by
  by_cases hn : n ≤ 1048576
  rotate_left
  · have hn' : (1048576 : Int) < (n : Int) := by omega
    have hd' : decide (1048576 < (n : Int)) = true := by simpa using hn'
    go_enter Tryz.func3, Tryz.ntmps3
    go_wp2_with (go_at_call 4; refine (big_any _ _ _ _).mono ?_; rintro e w' ⟨rfl, hw⟩; have hw2 := hw.symm; subst hw2; clear hw; rw [hd'])
    go_ret
    exact ⟨rfl, Below.refl _ _⟩
  have hn' : ¬ (1048576 : Int) < (n : Int) := by omega
  have hd' : decide (1048576 < (n : Int)) = false := by simpa using hn'
  have HCB : Hid (∀ W, Below w.heap.size w W → dr.CodeB W a n) := fun W h => by
    rcases hb with h0 | ⟨b, off, e, hc⟩
    · exact .inl h0
    · refine .inr ⟨b, off, e, fun i hi => ?_⟩
      obtain ⟨x, hx, hxc⟩ := hc i hi
      exact ⟨x, hx, (h.cell (p := ⟨b, off + i, none⟩) (World.block_lt_of_cell? _ _ hxc)).trans hxc⟩
  have HDW : Hid (∀ W, Below w.heap.size w W → Calls Tryz.prog 6 #[.slice a n cap] W fun e w' => ∃ (g cp : Nat) (L : List Ex), e = .returned (.slice (some ⟨g, 0, none⟩) L.length cp) ∧ Ow W.heap.size w' g cp L ∧ Okn 3001 L ∧ Below W.heap.size W w') := fun W h =>
    drawFree_any a n cap W (HCB.out W h) hn (fun x e h0 => Nat.lt_of_lt_of_le (hlt x e h0) h.size)
  have HT0 := Lib.hid T
  have HB0 := Lib.hid (Below.refl w.heap.size w)
  clear hb hlt T HCB
  go_enter Tryz.func3, Tryz.ntmps3
  go_wp2_with (go_at_call 4; refine (big_any _ _ _ _).mono ?_; rintro e w' ⟨rfl, hw⟩; have hw2 := hw.symm; subst hw2; clear hw; rw [hd']; refine Hid.out ?_)
  refine Lib.hid ?_
  clear hn hn' hd'
  obtain ⟨w1, hw1⟩ : ∃ W, W = w.alloc (.cells #[.int .i64 3, .string ⟨#[113]⟩, .int .i64 0, .int .i64 0] 27) := ⟨_, rfl⟩
  have hb1 : Below w.heap.size w w1 := by rw [hw1]; exact (Below.refl _ _).alloc (Nat.le_refl _) _
  have ho1 : Ow w.heap.size w1 w.heap.size 1 qL := by rw [hw1]; exact Ow.one w ⟨3, ⟨#[113]⟩, 0, 0⟩
  have HBY1 := Lib.hid hb1
  have HW1 := Lib.hid hw1
  have HT_2 := Lib.hid (HT0.out.below HBY1.out)
  have HB_2 := Lib.hid (HB0.out.trans (HBY1.out.mono HB0.out.size))
  skip
  have HQ1 := Lib.hid (ifree_ow ho1 okn_q (by decide) HT_2.out)
  clear ho1 hb1 hw1
  go_wp2_with (go_at_call 5; rw [← HW1.out]; refine (HQ1.out).mono ?_; rintro e w3 ⟨g3, c3, rfl, hc3, hb3⟩; refine Hid.out ?_)
  refine Lib.hid ?_
  have HBX3 := Lib.hid hb3
  have HT_4 := Lib.hid (HT_2.out.below HBX3.out)
  have HB_4 := Lib.hid (HB_2.out.trans (HBX3.out.mono HB_2.out.size))
  clear HT_2 HB_2
  clear hc3 hb3 HBX3 HQ1
  rw [frL_q]
  go_wp2_with (go_at_call 6; refine (HDW.out w3 HB_4.out).mono ?_; rintro e we ⟨ge, ce, L, rfl, hoe, hke, hbe⟩; refine Hid.out ?_)
  refine Lib.hid ?_
  have HBE := Lib.hid hbe
  have HT_5 := Lib.hid (HT_4.out.below HBE.out)
  have HB_5 := Lib.hid (HB_4.out.trans (HBE.out.mono HB_4.out.size))
  clear HT_4 HB_4
  have HO0 := Lib.hid hoe
  have HK := Lib.hid hke
  have HLN : Hid (L.length ≤ 3001) := hke.1
  clear hoe hke hbe HBE HDW
  go_wp2_with (go_at_call 5; refine (ifree_ow HO0.out HK.out (by decide) HT_5.out).mono ?_; rintro e w6 ⟨g6, c6, rfl, hc6, hb6⟩; refine Hid.out ?_)
  refine Lib.hid ?_
  have HBX6 := Lib.hid hb6
  have HT_7 := Lib.hid (HT_5.out.below HBX6.out)
  have HO_7 := Lib.hid (HO0.out.below HBX6.out)
  have HB_7 := Lib.hid (HB_5.out.trans (HBX6.out.mono HB_5.out.size))
  clear HT_5 HO0 HB_5
  have HCF_6 := Lib.hid hc6
  clear hc6 hb6 HBX6
  have HOK0 := Lib.hid (ok_ow HO_7.out HK.out (by decide))
  cases hok : okL L with
  | false =>
    have HOK8 := Lib.hid (ok_ow HO_7.out HK.out (by decide))
    rw [hok] at HOK8
    go_wp2_with (go_at_call 7; refine (HOK8.out).mono ?_; rintro e w8 ⟨rfl, hb8⟩; refine Hid.out ?_)
    refine Lib.hid ?_
    have HBX8 := Lib.hid hb8
    have HT_9 := Lib.hid (HT_7.out.below HBX8.out)
    have HO_9 := Lib.hid (HO_7.out.below HBX8.out)
    have HCF_9 := Lib.hid (HCF_6.out.below HBX8.out)
    have HB_9 := Lib.hid (HB_7.out.trans (HBX8.out.mono HB_7.out.size))
    clear HT_7 HO_7 HCF_6 HB_7
    clear hb8 HBX8 HOK8
    have hf0 : frL L = [] := frees_no hok
    rw [hf0]
    have HF := HB_9
    go_wp2_with fail
    go_ret
    exact ⟨rfl, HF.out⟩
  | true =>
    have HOK8 := Lib.hid (ok_ow HO_7.out HK.out (by decide))
    rw [hok] at HOK8
    go_wp2_with (go_at_call 7; refine (HOK8.out).mono ?_; rintro e w8 ⟨rfl, hb8⟩; refine Hid.out ?_)
    refine Lib.hid ?_
    have HBX8 := Lib.hid hb8
    have HT_9 := Lib.hid (HT_7.out.below HBX8.out)
    have HO_9 := Lib.hid (HO_7.out.below HBX8.out)
    have HCF_9 := Lib.hid (HCF_6.out.below HBX8.out)
    have HB_9 := Lib.hid (HB_7.out.trans (HBX8.out.mono HB_7.out.size))
    clear HT_7 HO_7 HCF_6 HB_7
    clear hb8 HBX8 HOK8
    clear HOK0
    have HOKL := Lib.hid hok
    clear hok
    by_cases h2000 : 2000 < L.length
    · have h2 : (2000 : Int) < (L.length : Int) := by omega
      obtain ⟨F, hF⟩ : ∃ F, (frL L).length = F := ⟨_, rfl⟩
      rw [hF]
      cases F with
      | zero =>
        have HF := HB_9
        go_wp2_with fail
        go_ret
        exact ⟨rfl, HF.out⟩
      | succ F =>
        have hz9 : ¬ ((F + 1 : Nat) : Int) = 0 := by omega
        have HF := HB_9
        go_wp2_with fail
        go_ret
        exact ⟨rfl, HF.out⟩
    · have h2 : ¬ (2000 : Int) < (L.length : Int) := by omega
      have hwl : IntKind.i64.wrap ((L.length : Int) + 1) = (L.length : Int) + 1 := by rw [IntKind.wrap_i64]; have h9 := HLN.out; omega
      obtain ⟨w10, hw10⟩ : ∃ W, W = w8.alloc (.cells #[.int .i64 13, .string ⟨#[97]⟩, .int .i64 0, .int .i64 (L.length : Int)] 27) := ⟨_, rfl⟩
      have hb10 : Below w8.heap.size w8 w10 := by rw [hw10]; exact (Below.refl _ _).alloc (Nat.le_refl _) _
      have hp10 : Ow w8.heap.size w10 w8.heap.size 1 [⟨13, aT, 0, (L.length : Int)⟩] := by rw [hw10]; exact Ow.one w8 ⟨13, aT, 0, (L.length : Int)⟩
      obtain ⟨gr10, cr10, wr10, hr10, ho10, hbr10⟩ := fresh_app HO_9.out hp10 rfl hb10 (show [⟨13, aT, 0, (L.length : Int)⟩] ++ L = funL L from rfl) (by have h9 := HLN.out; simp; omega)
      have HW10 := Lib.hid hw10
      have HR10 := Lib.hid hr10
      have HBR10 := Lib.hid hbr10
      have HOR10 := Lib.hid ho10
      clear hw10 hr10 hbr10 ho10 hb10 hp10
      go_wp2_with (at_builtin; rw [← HW10.out]; refine wpList_plain rfl fun K hK => ?_; refine wp_appE _ _ rfl rfl rfl HR10.out ?_; refine hK _ _ ?_; refine Hid.out ?_)
      refine Lib.hid ?_
      have HT_11 := Lib.hid (HT_9.out.below HBR10.out)
      have HO_11 := Lib.hid (HO_9.out.below HBR10.out)
      have HCF_11 := Lib.hid (HCF_9.out.below HBR10.out)
      have HB_11 := Lib.hid (HB_9.out.trans (HBR10.out.mono HB_9.out.size))
      clear HT_9 HO_9 HCF_9 HB_9
      clear HW10 HR10 HBR10
      obtain ⟨w12, hw12⟩ : ∃ W, W = wr10.alloc (.cells #[.int .i64 5, .string ⟨#[]⟩, .int .i64 0, .int .i64 ((L.length : Int) + 1), .int .i64 6, .string ⟨#[97]⟩, .int .i64 0, .int .i64 (L.length : Int)] 27) := ⟨_, rfl⟩
      have hb12 : Below wr10.heap.size wr10 w12 := by rw [hw12]; exact (Below.refl _ _).alloc (Nat.le_refl _) _
      have hp12 : Ow wr10.heap.size w12 wr10.heap.size 2 [⟨5, noT, 0, (L.length : Int) + 1⟩, ⟨6, aT, 0, (L.length : Int)⟩] := by rw [hw12]; exact Ow.two wr10 ⟨5, noT, 0, (L.length : Int) + 1⟩ ⟨6, aT, 0, (L.length : Int)⟩
      obtain ⟨gr12, cr12, wr12, hr12, ho12, hbr12⟩ := fresh_app HO_11.out hp12 rfl hb12 (show [⟨5, noT, 0, (L.length : Int) + 1⟩, ⟨6, aT, 0, (L.length : Int)⟩] ++ L = setL L from rfl) (by have h9 := HLN.out; simp; omega)
      have HW12 := Lib.hid hw12
      have HR12 := Lib.hid hr12
      have HBR12 := Lib.hid hbr12
      have HOR12 := Lib.hid ho12
      clear hw12 hr12 hbr12 ho12 hb12 hp12
      go_wp2_with (at_builtin; rw [← HW12.out]; refine wpList_plain rfl fun K hK => ?_; refine wp_appE _ _ rfl rfl rfl HR12.out ?_; refine hK _ _ ?_; refine Hid.out ?_)
      refine Lib.hid ?_
      have HT_13 := Lib.hid (HT_11.out.below HBR12.out)
      have HO_13 := Lib.hid (HO_11.out.below HBR12.out)
      have HCF_13 := Lib.hid (HCF_11.out.below HBR12.out)
      have HOF_13 := Lib.hid (HOR10.out.below HBR12.out)
      have HB_13 := Lib.hid (HB_11.out.trans (HBR12.out.mono HB_11.out.size))
      clear HT_11 HO_11 HCF_11 HOR10 HB_11
      clear HW12 HR12 HBR12
      clear hwl
      go_wp2_with (go_at_call 5; refine (ifree_ow HOF_13.out (okn_fun HK.out) (by decide) HT_13.out).mono ?_; rintro e w14 ⟨g14, c14, rfl, hc14, hb14⟩; refine Hid.out ?_)
      refine Lib.hid ?_
      have HBX14 := Lib.hid hb14
      have HT_15 := Lib.hid (HT_13.out.below HBX14.out)
      have HO_15 := Lib.hid (HO_13.out.below HBX14.out)
      have HCF_15 := Lib.hid (HCF_13.out.below HBX14.out)
      have HOF_15 := Lib.hid (HOF_13.out.below HBX14.out)
      have HOG_15 := Lib.hid (HOR12.out.below HBX14.out)
      have HB_15 := Lib.hid (HB_13.out.trans (HBX14.out.mono HB_13.out.size))
      clear HT_13 HO_13 HCF_13 HOF_13 HOR12 HB_13
      have HCI_14 := Lib.hid hc14
      clear hc14 hb14 HBX14
      go_wp2_with (go_at_call 5; refine (ifree_ow HOG_15.out (okn_set2 HK.out) (by decide) HT_15.out).mono ?_; rintro e w16 ⟨g16, c16, rfl, hc16, hb16⟩; refine Hid.out ?_)
      refine Lib.hid ?_
      have HBX16 := Lib.hid hb16
      have HT_17 := Lib.hid (HT_15.out.below HBX16.out)
      have HO_17 := Lib.hid (HO_15.out.below HBX16.out)
      have HCF_17 := Lib.hid (HCF_15.out.below HBX16.out)
      have HOF_17 := Lib.hid (HOF_15.out.below HBX16.out)
      have HOG_17 := Lib.hid (HOG_15.out.below HBX16.out)
      have HCI_17 := Lib.hid (HCI_14.out.below HBX16.out)
      have HB_17 := Lib.hid (HB_15.out.trans (HBX16.out.mono HB_15.out.size))
      clear HT_15 HO_15 HCF_15 HOF_15 HOG_15 HCI_14 HB_15
      have HCO_16 := Lib.hid hc16
      clear hc16 hb16 HBX16
      cases hof : okL (funL L) with
      | false =>
        have HOK18 := Lib.hid (ok_ow HOF_17.out (okn_fun HK.out) (by decide))
        rw [hof] at HOK18
        go_wp2_with (go_at_call 7; refine (HOK18.out).mono ?_; rintro e w18 ⟨rfl, hb18⟩; refine Hid.out ?_)
        refine Lib.hid ?_
        have HBX18 := Lib.hid hb18
        have HT_19 := Lib.hid (HT_17.out.below HBX18.out)
        have HO_19 := Lib.hid (HO_17.out.below HBX18.out)
        have HCF_19 := Lib.hid (HCF_17.out.below HBX18.out)
        have HOF_19 := Lib.hid (HOF_17.out.below HBX18.out)
        have HOG_19 := Lib.hid (HOG_17.out.below HBX18.out)
        have HCI_19 := Lib.hid (HCI_17.out.below HBX18.out)
        have HCO_19 := Lib.hid (HCO_16.out.below HBX18.out)
        have HB_19 := Lib.hid (HB_17.out.trans (HBX18.out.mono HB_17.out.size))
        clear HT_17 HO_17 HCF_17 HOF_17 HOG_17 HCI_17 HCO_16 HB_17
        clear hb18 HBX18 HOK18
        obtain ⟨w20, hw20⟩ : ∃ W, W = w18.alloc (.cells #[.int .i64 3, .string ⟨#[113]⟩, .int .i64 0, .int .i64 0] 27) := ⟨_, rfl⟩
        have hb20 : Below w18.heap.size w18 w20 := by rw [hw20]; exact (Below.refl _ _).alloc (Nat.le_refl _) _
        have ho20 : Ow w18.heap.size w20 w18.heap.size 1 qL := by rw [hw20]; exact Ow.one w18 ⟨3, ⟨#[113]⟩, 0, 0⟩
        have HBY20 := Lib.hid hb20
        have HW20 := Lib.hid hw20
        have HT_21 := Lib.hid (HT_19.out.below HBY20.out)
        have HO_21 := Lib.hid (HO_19.out.below HBY20.out)
        have HCF_21 := Lib.hid (HCF_19.out.below HBY20.out)
        have HOF_21 := Lib.hid (HOF_19.out.below HBY20.out)
        have HOG_21 := Lib.hid (HOG_19.out.below HBY20.out)
        have HCI_21 := Lib.hid (HCI_19.out.below HBY20.out)
        have HCO_21 := Lib.hid (HCO_19.out.below HBY20.out)
        have HB_21 := Lib.hid (HB_19.out.trans (HBY20.out.mono HB_19.out.size))
        clear HT_19 HO_19 HCF_19 HOF_19 HOG_19 HCI_19 HCO_19 HB_19
        have HQ20 := Lib.hid (ifree_ow ho20 okn_q (by decide) HT_21.out)
        clear ho20 hb20 hw20
        go_wp2_with (go_at_call 5; rw [← HW20.out]; refine (HQ20.out).mono ?_; rintro e w22 ⟨g22, c22, rfl, hc22, hb22⟩; refine Hid.out ?_)
        refine Lib.hid ?_
        have HBX22 := Lib.hid hb22
        have HT_23 := Lib.hid (HT_21.out.below HBX22.out)
        have HO_23 := Lib.hid (HO_21.out.below HBX22.out)
        have HCF_23 := Lib.hid (HCF_21.out.below HBX22.out)
        have HOF_23 := Lib.hid (HOF_21.out.below HBX22.out)
        have HOG_23 := Lib.hid (HOG_21.out.below HBX22.out)
        have HCI_23 := Lib.hid (HCI_21.out.below HBX22.out)
        have HCO_23 := Lib.hid (HCO_21.out.below HBX22.out)
        have HB_23 := Lib.hid (HB_21.out.trans (HBX22.out.mono HB_21.out.size))
        clear HT_21 HO_21 HCF_21 HOF_21 HOG_21 HCI_21 HCO_21 HB_21
        clear hc22 hb22 HBX22 HQ20
        rw [frL_q]
        have HF := HB_23
        go_wp2_with fail
        go_ret
        exact ⟨rfl, HF.out⟩
      | true =>
        have HOK18 := Lib.hid (ok_ow HOF_17.out (okn_fun HK.out) (by decide))
        rw [hof] at HOK18
        go_wp2_with (go_at_call 7; refine (HOK18.out).mono ?_; rintro e w18 ⟨rfl, hb18⟩; refine Hid.out ?_)
        refine Lib.hid ?_
        have HBX18 := Lib.hid hb18
        have HT_19 := Lib.hid (HT_17.out.below HBX18.out)
        have HO_19 := Lib.hid (HO_17.out.below HBX18.out)
        have HCF_19 := Lib.hid (HCF_17.out.below HBX18.out)
        have HOF_19 := Lib.hid (HOF_17.out.below HBX18.out)
        have HOG_19 := Lib.hid (HOG_17.out.below HBX18.out)
        have HCI_19 := Lib.hid (HCI_17.out.below HBX18.out)
        have HCO_19 := Lib.hid (HCO_16.out.below HBX18.out)
        have HB_19 := Lib.hid (HB_17.out.trans (HBX18.out.mono HB_17.out.size))
        clear HT_17 HO_17 HCF_17 HOF_17 HOG_17 HCI_17 HCO_16 HB_17
        clear hb18 HBX18 HOK18
        have HOFL := Lib.hid hof
        clear hof
        cases hog : okL (setL L) with
        | false =>
          have HOK20 := Lib.hid (ok_ow HOG_19.out (okn_set2 HK.out) (by decide))
          rw [hog] at HOK20
          go_wp2_with (go_at_call 7; refine (HOK20.out).mono ?_; rintro e w20 ⟨rfl, hb20⟩; refine Hid.out ?_)
          refine Lib.hid ?_
          have HBX20 := Lib.hid hb20
          have HT_21 := Lib.hid (HT_19.out.below HBX20.out)
          have HO_21 := Lib.hid (HO_19.out.below HBX20.out)
          have HCF_21 := Lib.hid (HCF_19.out.below HBX20.out)
          have HOF_21 := Lib.hid (HOF_19.out.below HBX20.out)
          have HOG_21 := Lib.hid (HOG_19.out.below HBX20.out)
          have HCI_21 := Lib.hid (HCI_19.out.below HBX20.out)
          have HCO_21 := Lib.hid (HCO_19.out.below HBX20.out)
          have HB_21 := Lib.hid (HB_19.out.trans (HBX20.out.mono HB_19.out.size))
          clear HT_19 HO_19 HCF_19 HOF_19 HOG_19 HCI_19 HCO_19 HB_19
          clear hb20 HBX20 HOK20
          obtain ⟨w22, hw22⟩ : ∃ W, W = w20.alloc (.cells #[.int .i64 3, .string ⟨#[113]⟩, .int .i64 0, .int .i64 0] 27) := ⟨_, rfl⟩
          have hb22 : Below w20.heap.size w20 w22 := by rw [hw22]; exact (Below.refl _ _).alloc (Nat.le_refl _) _
          have ho22 : Ow w20.heap.size w22 w20.heap.size 1 qL := by rw [hw22]; exact Ow.one w20 ⟨3, ⟨#[113]⟩, 0, 0⟩
          have HBY22 := Lib.hid hb22
          have HW22 := Lib.hid hw22
          have HT_23 := Lib.hid (HT_21.out.below HBY22.out)
          have HO_23 := Lib.hid (HO_21.out.below HBY22.out)
          have HCF_23 := Lib.hid (HCF_21.out.below HBY22.out)
          have HOF_23 := Lib.hid (HOF_21.out.below HBY22.out)
          have HOG_23 := Lib.hid (HOG_21.out.below HBY22.out)
          have HCI_23 := Lib.hid (HCI_21.out.below HBY22.out)
          have HCO_23 := Lib.hid (HCO_21.out.below HBY22.out)
          have HB_23 := Lib.hid (HB_21.out.trans (HBY22.out.mono HB_21.out.size))
          clear HT_21 HO_21 HCF_21 HOF_21 HOG_21 HCI_21 HCO_21 HB_21
          have HQ22 := Lib.hid (ifree_ow ho22 okn_q (by decide) HT_23.out)
          clear ho22 hb22 hw22
          go_wp2_with (go_at_call 5; rw [← HW22.out]; refine (HQ22.out).mono ?_; rintro e w24 ⟨g24, c24, rfl, hc24, hb24⟩; refine Hid.out ?_)
          refine Lib.hid ?_
          have HBX24 := Lib.hid hb24
          have HT_25 := Lib.hid (HT_23.out.below HBX24.out)
          have HO_25 := Lib.hid (HO_23.out.below HBX24.out)
          have HCF_25 := Lib.hid (HCF_23.out.below HBX24.out)
          have HOF_25 := Lib.hid (HOF_23.out.below HBX24.out)
          have HOG_25 := Lib.hid (HOG_23.out.below HBX24.out)
          have HCI_25 := Lib.hid (HCI_23.out.below HBX24.out)
          have HCO_25 := Lib.hid (HCO_23.out.below HBX24.out)
          have HB_25 := Lib.hid (HB_23.out.trans (HBX24.out.mono HB_23.out.size))
          clear HT_23 HO_23 HCF_23 HOF_23 HOG_23 HCI_23 HCO_23 HB_23
          clear hc24 hb24 HBX24 HQ22
          rw [frL_q]
          have HF := HB_25
          go_wp2_with fail
          go_ret
          exact ⟨rfl, HF.out⟩
        | true =>
          have HOK20 := Lib.hid (ok_ow HOG_19.out (okn_set2 HK.out) (by decide))
          rw [hog] at HOK20
          go_wp2_with (go_at_call 7; refine (HOK20.out).mono ?_; rintro e w20 ⟨rfl, hb20⟩; refine Hid.out ?_)
          refine Lib.hid ?_
          have HBX20 := Lib.hid hb20
          have HT_21 := Lib.hid (HT_19.out.below HBX20.out)
          have HO_21 := Lib.hid (HO_19.out.below HBX20.out)
          have HCF_21 := Lib.hid (HCF_19.out.below HBX20.out)
          have HOF_21 := Lib.hid (HOF_19.out.below HBX20.out)
          have HOG_21 := Lib.hid (HOG_19.out.below HBX20.out)
          have HCI_21 := Lib.hid (HCI_19.out.below HBX20.out)
          have HCO_21 := Lib.hid (HCO_19.out.below HBX20.out)
          have HB_21 := Lib.hid (HB_19.out.trans (HBX20.out.mono HB_19.out.size))
          clear HT_19 HO_19 HCF_19 HOF_19 HOG_19 HCI_19 HCO_19 HB_19
          clear hb20 HBX20 HOK20
          have HOGL := Lib.hid hog
          clear hog
          go_wp2_with (go_at_call 8; refine (sfree_ow HO_21.out HK.out (by decide)).mono ?_; rintro e w22 ⟨asl, cs, rfl, hb22⟩; refine Hid.out ?_)
          refine Lib.hid ?_
          have HBX22 := Lib.hid hb22
          have HT_23 := Lib.hid (HT_21.out.below HBX22.out)
          have HO_23 := Lib.hid (HO_21.out.below HBX22.out)
          have HCF_23 := Lib.hid (HCF_21.out.below HBX22.out)
          have HOF_23 := Lib.hid (HOF_21.out.below HBX22.out)
          have HOG_23 := Lib.hid (HOG_21.out.below HBX22.out)
          have HCI_23 := Lib.hid (HCI_21.out.below HBX22.out)
          have HCO_23 := Lib.hid (HCO_21.out.below HBX22.out)
          have HB_23 := Lib.hid (HB_21.out.trans (HBX22.out.mono HB_21.out.size))
          clear HT_21 HO_21 HCF_21 HOF_21 HOG_21 HCI_21 HCO_21 HB_21
          clear hb22 HBX22
          have HSET : Hid (frL (setL L) = frL L) := set_law HOKL.out HOGL.out
          have HFUN : Hid (∀ x, x ∈ frL (funL L) ↔ x ∈ frL L ∧ x ≠ nA) := fun_law HOKL.out HOFL.out
          have HFLN : Hid ((frL (funL L)).length ≤ (frL L).length) := fun_len HOKL.out HOFL.out
          have HASC : Hid (asc (frL L)) := frees_asc _ _
          have HFEW : Hid ((frL L).length ≤ 24000) := frees_few _ _
          have HCO9 := Lib.hid (show Cl w22 g16 (frL L) from by have h9 := HCO_23.out; rw [HSET.out] at h9; exact h9)
          rw [HSET.out]
          clear HCO_23 HSET HOKL HOFL HOGL
          obtain ⟨F, hF⟩ : ∃ F, frL L = F := ⟨_, rfl⟩
          obtain ⟨I, hI⟩ : ∃ I, frL (funL L) = I := ⟨_, rfl⟩
          have HCF9 : Hid (Cl w22 g6 F) := by rw [← hF]; exact HCF_23
          have HCI9 : Hid (Cl w22 g14 I) := by rw [← hI]; exact HCI_23
          rw [hF] at HFUN HFLN HASC HFEW HCO9
          rw [hI] at HFUN HFLN
          rw [hF, hI]
          clear hF hI HCF_23 HCI_23
          obtain ⟨m, hm⟩ : ∃ m, F.length = m := ⟨_, rfl⟩
          obtain ⟨mi, hmi⟩ : ∃ mi, I.length = mi := ⟨_, rfl⟩
          have hfl : mi ≤ m := by have h9 := HFLN.out; omega
          have hfl' : (mi : Int) ≤ (m : Int) := by omega
          have hfew : m ≤ 24000 := by have h9 := HFEW.out; omega
          have HM := Lib.hid hm
          have HMI := Lib.hid hmi
          rw [hm, hmi]
          clear hm hmi
          go_wp2_with fail
          go_loopg [9] (m + 1) (fun q v wr => ∃ i : Nat, i ≤ m ∧ v = .int .i64 (i : Int) ∧ m + 1 - i ≤ q ∧ Below w22.heap.size w22 wr)
          case atStart => exact ⟨0, Nat.zero_le _, rfl, Nat.le_refl _, Below.refl _ _⟩
          case round =>
            obtain ⟨i, him, rfl, hq, hbq⟩ := hrel
            have HBQ := Lib.hid hbq
            have HQQ := Lib.hid hq
            clear hbq hq
            have HFIN : Hid (Below w.heap.size w wr) := HB_23.out.trans (HBQ.out.mono HB_23.out.size)
            by_cases hi : i < m
            · have hi' : (i : Int) < (m : Int) := by omega
              have h0 : (0 : Int) ≤ (i : Int) := by omega
              obtain ⟨x, hx⟩ : ∃ x, F[i]? = some x := ⟨_, List.getElem?_eq_getElem (by rw [HM.out]; exact hi)⟩
              have hxf : x ∈ F := List.mem_of_getElem? hx
              have hcx : wr.cell? ⟨g6, i, none⟩ = some (strL x) := (HCF9.out.below HBQ.out) i x hx
              rw [strL] at hcx
              obtain ⟨X, hX⟩ : ∃ X : ByteArray, (⟨x.toArray⟩ : ByteArray) = X := ⟨_, rfl⟩
              have hXl : X.data.toList = x := by rw [← hX]
              have HCIq := Lib.hid (HCI9.out.below HBQ.out)
              have HCOq := Lib.hid (HCO9.out.below HBQ.out)
              have HHI : Hid (∀ k, Calls Tryz.prog 9 #[.slice (some ⟨g14, 0, none⟩) mi c14, .string X] (wr.drewN k) fun e w' => e = .returned (.bool (decide (x ≠ nA))) ∧ w' = wr.drewN k) := fun k => by
                have h9 := lhas_any I g14 c14 X (wr.drewN k) (by rw [HMI.out]; omega) (fun i x hx => HCIq.out i x hx)
                rw [hXl, HMI.out, show decide (x ∈ I) = decide (x ≠ nA) from by rw [decide_eq_decide, HFUN.out x]; exact ⟨fun h => h.2, fun h => ⟨hxf, h⟩⟩] at h9
                exact h9
              have HHO : Hid (∀ k, Calls Tryz.prog 9 #[.slice (some ⟨g16, 0, none⟩) m c16, .string X] (wr.drewN k) fun e w' => e = .returned (.bool true) ∧ w' = wr.drewN k) := fun k => by
                have h9 := lhas_any F g16 c16 X (wr.drewN k) (by rw [HM.out]; omega) (fun i x hx => HCOq.out i x hx)
                rw [hXl, HM.out, decide_eq_true hxf] at h9
                exact h9
              rw [hX] at hcx
              have HXX := Lib.hid hX
              have HXF := Lib.hid hx
              clear hx hxf HCIq HCOq hX
              have HMS : Hid (m + 1 - (i + 1) < gk) := by have h1 := HQQ.out; show _ < _; omega
              have hpre : ∀ j y, i = j + 1 → F[j]? = some y → Op.bytesLess y x = true := fun j y e hy => (ex.bl y x).2 (asc_at HASC.out (show j < i by omega) hy HXF.out)
              by_cases hxa : x = nA
              · have hXa : X = ⟨#[97]⟩ := by rw [← HXX.out, hxa]; rfl
                subst hXa
                rw [show decide (x ≠ nA) = false from by simp [hxa]] at HHI
                cases i with
                | zero =>
                  clear hxa hXl hpre
                  go_upto_region 20 with fail
                  go_quiet (first | (go_at_call_of 9 (Value.slice (some ⟨g14, 0, none⟩) mi c14); exact Calls.quiet_of_same (HHI.out _)) | (go_at_call 9; exact Calls.quiet_of_same (HHO.out _)))
                  go_wp2
                  go_roundg (m + 1 - (0 + 1))
                  case measure => exact HMS.out
                  case rel => exact ⟨0 + 1, by omega, by first | rfl | simp, Nat.le_refl _, Go.below_drewN HBQ.out _⟩
                | succ j =>
                  obtain ⟨y, hy⟩ : ∃ y, F[j]? = some y := ⟨_, List.getElem?_eq_getElem (by rw [HM.out]; omega)⟩
                  have hcy : wr.cell? ⟨g6, j, none⟩ = some (strL y) := (HCF9.out.below HBQ.out) j y hy
                  rw [strL] at hcy
                  have hbl := hpre j y rfl hy
                  obtain ⟨Y, hY⟩ : ∃ Y : ByteArray, (⟨y.toArray⟩ : ByteArray) = Y := ⟨_, rfl⟩
                  rw [hY] at hcy
                  have hbl2 : Op.bytesLess Y.toList [97] = true := by rw [hxa] at hbl; rw [← hY, ByteArray.toList_eq]; exact hbl
                  have hw2 : IntKind.i64.wrap (j : Int) = (j : Int) := by rw [IntKind.wrap_i64]; omega
                  have hj0 : (0 : Int) ≤ (j : Int) := by omega
                  have hjm : (j : Int) < (m : Int) := by omega
                  clear hxa hXl hpre hbl hY hy
                  go_upto_region 20 with fail
                  go_quiet (first | (go_at_call_of 9 (Value.slice (some ⟨g14, 0, none⟩) mi c14); exact Calls.quiet_of_same (HHI.out _)) | (go_at_call 9; exact Calls.quiet_of_same (HHO.out _)))
                  go_wp2
                  go_roundg (m + 1 - (j + 1 + 1))
                  case measure => exact HMS.out
                  case rel => exact ⟨j + 1 + 1, by omega, by first | rfl | simp, Nat.le_refl _, Go.below_drewN HBQ.out _⟩
              · rw [show decide (x ≠ nA) = true from by simp [hxa]] at HHI
                have hne : (X.toList == [97]) = false := by
                  rw [← HXX.out, ByteArray.toList_eq]
                  have h9 : ¬ x = [97] := hxa
                  simpa using h9
                cases i with
                | zero =>
                  clear hxa hXl hpre
                  go_upto_region 20 with fail
                  go_quiet (first | (go_at_call_of 9 (Value.slice (some ⟨g14, 0, none⟩) mi c14); exact Calls.quiet_of_same (HHI.out _)) | (go_at_call 9; exact Calls.quiet_of_same (HHO.out _)))
                  go_wp2
                  go_roundg (m + 1 - (0 + 1))
                  case measure => exact HMS.out
                  case rel => exact ⟨0 + 1, by omega, by first | rfl | simp, Nat.le_refl _, Go.below_drewN HBQ.out _⟩
                | succ j =>
                  obtain ⟨y, hy⟩ : ∃ y, F[j]? = some y := ⟨_, List.getElem?_eq_getElem (by rw [HM.out]; omega)⟩
                  have hcy : wr.cell? ⟨g6, j, none⟩ = some (strL y) := (HCF9.out.below HBQ.out) j y hy
                  rw [strL] at hcy
                  have hbl := hpre j y rfl hy
                  obtain ⟨Y, hY⟩ : ∃ Y : ByteArray, (⟨y.toArray⟩ : ByteArray) = Y := ⟨_, rfl⟩
                  rw [hY] at hcy
                  have hbl2 : Op.bytesLess Y.toList X.toList = true := by rw [← hY, ← HXX.out, ByteArray.toList_eq, ByteArray.toList_eq]; exact hbl
                  have hw2 : IntKind.i64.wrap (j : Int) = (j : Int) := by rw [IntKind.wrap_i64]; omega
                  have hj0 : (0 : Int) ≤ (j : Int) := by omega
                  have hjm : (j : Int) < (m : Int) := by omega
                  clear hxa hXl hpre hbl hY hy
                  go_upto_region 20 with fail
                  go_quiet (first | (go_at_call_of 9 (Value.slice (some ⟨g14, 0, none⟩) mi c14); exact Calls.quiet_of_same (HHI.out _)) | (go_at_call 9; exact Calls.quiet_of_same (HHO.out _)))
                  go_wp2
                  go_roundg (m + 1 - (j + 1 + 1))
                  case measure => exact HMS.out
                  case rel => exact ⟨j + 1 + 1, by omega, by first | rfl | simp, Nat.le_refl _, Go.below_drewN HBQ.out _⟩
            · have hi' : ¬ (i : Int) < (m : Int) := by omega
              go_wp2
              go_ret
              exact ⟨rfl, HFIN.out⟩
end Go.Proofs.YtifgaaemdojmpaaGreatDoor.pr

namespace Go.Proofs.YtifgaaemdojmpaaGreatDoor.es
open Go.ChangeShapes Go.WideShapes Go.ChangeAt Go.RowKit Go.Deep
set_option linter.unusedVariables false

theorem cellsE : Tryz.prog.cellsOf 194 = 2 := by kernel_rfl
theorem cellsT : Tryz.prog.cellsOf 195 = 8 := by kernel_rfl
theorem cells5 : Tryz.prog.cellsOf 5 = 1 := by kernel_rfl

theorem pair_cells {H : Type} {enc : TypeId × Value → H} {w : World} {base : Nat} {sp : Nat → Bool} {held : Bool} {fuel : Nat} {c0 c1 : Value} {x : DataW H × List MemPlace} {a b : Int}
    (h : DataW.trod enc Tryz.prog w base sp held fuel 194 [c0, c1] = some x) (hx : x.1 = .agg [.lit (.int .u8 a), .lit (.int .u8 b)]) : c0 = .int .u8 a ∧ c1 = .int .u8 b := by
  obtain ⟨y0, y1, n, rfl, hl, h0, h1⟩ := trod_struct2 Tryz.underlying194 h
  simp only [cells5] at h0 h1
  obtain ⟨z0, e0, rfl, _⟩ := DataW.trod_int Tryz.underlying5 h0
  obtain ⟨z1, e1, rfl, _⟩ := DataW.trod_int Tryz.underlying5 h1
  simp at e0 e1 hx
  exact ⟨by rw [e0, hx.1], by rw [e1, hx.2]⟩

set_option maxRecDepth 100000 in
theorem esc_cells {H : Type} {enc : TypeId × Value → H} {w : World} {base : Nat} {sp : Nat → Bool} {held : Bool} {fuel : Nat} {cs : List Value} {p : List MemPlace}
    (h : DataW.trod enc Tryz.prog w base sp held fuel 195 cs = some (.agg [.agg [.lit (.int .u8 110), .lit (.int .u8 10)], .agg [.lit (.int .u8 116), .lit (.int .u8 9)], .agg [.lit (.int .u8 34), .lit (.int .u8 34)], .agg [.lit (.int .u8 92), .lit (.int .u8 92)]], p)) : cs = ESC.toList := by
  obtain ⟨xs, m, rfl, hx, hl, hxl, he⟩ := DataW.trod_array Tryz.underlying195 h
  rw [cellsT] at hl
  match xs, hxl with
  | [x0, x1, x2, x3], _ =>
    match cs, hl with
    | [c0, c1, c2, c3, c4, c5, c6, c7], _ =>
      simp only [cellsE] at he
      have g0 := he 0 (by omega)
      have g1 := he 1 (by omega)
      have g2 := he 2 (by omega)
      have g3 := he 3 (by omega)
      simp at g0 g1 g2 g3 hx
      obtain ⟨⟨a0, a1, a2, a3⟩, _⟩ := hx
      obtain ⟨rfl, rfl⟩ := pair_cells g0 a0.symm
      obtain ⟨rfl, rfl⟩ := pair_cells g1 a1.symm
      obtain ⟨rfl, rfl⟩ := pair_cells g2 a2.symm
      obtain ⟨rfl, rfl⟩ := pair_cells g3 a3.symm
      rfl

theorem gEsc : Tryz.prog.globalNamed "loop.example/g00023/impl.escapes" = some 2 := by kernel_rfl
theorem gEscType : (Tryz.prog.globals[2]?).map (·.type) = some 195 := by kernel_rfl

theorem esc_of {W : World} {ps : List MemPlace} {rest : List (String × DataW Unit)}
    (h : DataW.LaidVars Tryz.prog W (("loop.example/g00023/impl.escapes", .agg [.agg [.lit (.int .u8 110), .lit (.int .u8 10)], .agg [.lit (.int .u8 116), .lit (.int .u8 9)], .agg [.lit (.int .u8 34), .lit (.int .u8 34)], .agg [.lit (.int .u8 92), .lit (.int .u8 92)]]) :: rest) ps) : EscB W := by
  obtain ⟨g', t', cs, fuel, p, q, hg', ht', hvar, hd, _, _⟩ := h
  obtain rfl := Option.some.inj (gEsc.symm.trans hg')
  obtain rfl := Option.some.inj (gEscType.symm.trans ht')
  have hcs : cs = ESC := by
    have := esc_cells hd
    exact Array.toList_inj.1 this
  subst hcs
  unfold World.var? at hvar
  rw [gEsc] at hvar
  simp only [Option.bind_some] at hvar
  split at hvar
  · rename_i c t fr hb
    rw [Option.some.injEq] at hvar
    subst hvar
    exact ⟨t, fr, hb⟩
  · cases hvar

end Go.Proofs.YtifgaaemdojmpaaGreatDoor.es

namespace Go.Proofs.YtifgaaemdojmpaaGreatDoor.ex
open Go.ChangeShapes Go.WideShapes Go.ChangeAt Go.RowKit Go.Deep
set_option linter.unusedVariables false
set_option linter.unusedSimpArgs false


theorem cells2 : Tryz.prog.cellsOf 2 = 1 := by kernel_rfl


theorem cells3 : Tryz.prog.cellsOf 3 = 1 := by kernel_rfl


theorem cells9 : Tryz.prog.cellsOf 9 = 1 := by kernel_rfl


theorem cellsSh : Tryz.prog.cellsOf 95 = 5 := by kernel_rfl


theorem cellsShs : Tryz.prog.cellsOf 96 = 21 * 5 := by kernel_rfl


theorem cellsBt : Tryz.prog.cellsOf 188 = 2 := by kernel_rfl


theorem cellsBts : Tryz.prog.cellsOf 189 = 15 * 2 := by kernel_rfl


/-! ### A list of nodes that came in -/

instance : Inhabited Ex := ⟨⟨0, ⟨#[]⟩, 0, 0⟩⟩

/-! ### The tables -/

theorem chunks {α : Type} (m : Nat) : ∀ (l : List (List α)) (cs : List α), cs.length = l.length * m → (∀ i (h : i < l.length), (cs.drop (i * m)).take m = l[i]) → cs = l.flatten
  | [], cs, hl, _ => by simpa using hl
  | x :: r, cs, hl, h => by
    have h0 := h 0 (by simp)
    simp at h0
    have hlm : m ≤ cs.length := by rw [hl, List.length_cons, Nat.add_mul]; omega
    have ih := chunks m r (cs.drop m) (by rw [List.length_drop, hl, List.length_cons, Nat.add_mul]; omega) (fun i hi => by
      have := h (i + 1) (by simpa using hi)
      rw [Nat.add_mul, Nat.one_mul] at this
      rw [List.drop_drop, Nat.add_comm m]
      simpa using this)
    rw [List.flatten_cons, ← ih, ← h0, List.take_append_drop]

theorem rows_cells {H : Type} {enc : TypeId × Value → H} {P : Program} {w : World} {base : Nat} {sp : Nat → Bool} {held : Bool} {fuel : Nat} {cs : List Value} {p : List MemPlace} {n m : Nat} {t e : TypeId}
    (ht : P.underlying t = some (.array n e)) (hc : P.cellsOf e = m) (hn : P.cellsOf t = n * m) {l : List (List Value × DataW H)}
    (hel : ∀ q ∈ l, ∀ (fuel : Nat) (cs : List Value) (x : DataW H × List MemPlace), DataW.trod enc P w base sp held fuel e cs = some x → x.1 = q.2 → cs = q.1)
    (h : DataW.trod enc P w base sp held fuel t cs = some (.agg (l.map (·.2)), p)) : cs = (l.map (·.1)).flatten := by
  obtain ⟨xs, k, rfl, hx, hl, hxl, hi⟩ := DataW.trod_array ht h
  have hx1 : l.map (·.2) = xs.map (·.1) := by
    have := congrArg Prod.fst hx
    simpa using this
  have hll : l.length = n := by
    have := congrArg List.length hx1
    simp at this
    omega
  refine chunks m _ cs (by rw [hl, hn, List.length_map, hll]) (fun i h1 => ?_)
  have hil : i < l.length := by simpa using h1
  have g := hi i (by omega)
  rw [hc, List.getElem?_eq_getElem (by omega)] at g
  have e3 : (l.map (·.2))[i]? = (xs.map (·.1))[i]? := by rw [hx1]
  rw [List.getElem?_map, List.getElem?_map, List.getElem?_eq_getElem hil, List.getElem?_eq_getElem (by omega)] at e3
  simp only [Option.map_some, Option.some.injEq] at e3
  rw [List.getElem_map]
  exact hel _ (List.getElem_mem hil) _ _ _ g e3.symm

def SHL : List (List Int) := [[0, 0, 0, 0, 0], [0, 0, 0, 0, 9007199254740992], [0, 0, 0, 1, 0], [0, 0, 0, 2, 0], [0, 0, 3000, 0, 0], [6, 0, 0, 0, 1], [0, 1, 1, 2, 0], [0, 0, 0, 2, 0], [6, 1, 1, 0, 0], [0, 2, 2, 0, 0], [0, 2, 2, 0, 0], [0, 2, 2, 0, 0], [0, 3, 3, 0, 0], [0, 1, 1, 2, 0], [15, 1, 1, 0, 1], [0, 0, 1, 2, 0], [0, 1, 2, 2, 0], [0, 1, 1, 2, 0], [0, 2, 2, 3, 0], [0, 1, 1, 0, 0], [0, 1, 1, 0, 0]]
def BTL : List (List UInt8 × Int) := [([45, 62], 2), ([124, 124], 3), ([38, 38], 4), ([61, 61], 5), ([33, 61], 5), ([60], 6), ([60, 61], 6), ([62], 6), ([62, 61], 6), ([47, 47], 7), ([43], 9), ([45], 9), ([42], 10), ([47], 10), ([43, 43], 11)]

set_option maxRecDepth 100000 in
theorem shape_cells {H : Type} {enc : TypeId × Value → H} {w : World} {base : Nat} {sp : Nat → Bool} {held : Bool} {fuel : Nat} {cs : List Value} {x : DataW H × List MemPlace} {a b c d e : Int}
    (h : DataW.trod enc Tryz.prog w base sp held fuel 95 cs = some x) (hx : x.1 = .agg [.lit (.int .i64 a), .lit (.int .i64 b), .lit (.int .i64 c), .lit (.int .i64 d), .lit (.int .i64 e)]) : cs = [.int .i64 a, .int .i64 b, .int .i64 c, .int .i64 d, .int .i64 e] := by
  obtain ⟨xs, n, _, rfl, hl, hlen, hf⟩ := DataW.trod_struct Tryz.underlying95 h
  rw [cellsSh] at hl
  match xs, hlen, cs, hl with
  | [y0, y1, y2, y3, y4], _, [c0, c1, c2, c3, c4], _ =>
    have g0 := hf 0 _ rfl
    have g1 := hf 1 _ rfl
    have g2 := hf 2 _ rfl
    have g3 := hf 3 _ rfl
    have g4 := hf 4 _ rfl
    simp [cells2, cells3] at g0 g1 g2 g3 g4
    obtain ⟨z0, e0, rfl, _⟩ := DataW.trod_int Tryz.underlying2 g0
    obtain ⟨z1, e1, rfl, _⟩ := DataW.trod_int Tryz.underlying3 g1
    obtain ⟨z2, e2, rfl, _⟩ := DataW.trod_int Tryz.underlying3 g2
    obtain ⟨z3, e3, rfl, _⟩ := DataW.trod_int Tryz.underlying3 g3
    obtain ⟨z4, e4, rfl, _⟩ := DataW.trod_int Tryz.underlying2 g4
    simp at e0 e1 e2 e3 e4 hx
    obtain ⟨rfl, rfl, rfl, rfl, rfl⟩ := hx
    rw [e0, e1, e2, e3, e4]

set_option maxRecDepth 100000 in
theorem bet_cells {H : Type} {enc : TypeId × Value → H} {w : World} {base : Nat} {sp : Nat → Bool} {held : Bool} {fuel : Nat} {cs : List Value} {x : DataW H × List MemPlace} {a : List UInt8} {b : Int}
    (h : DataW.trod enc Tryz.prog w base sp held fuel 188 cs = some x) (hx : x.1 = .agg [.lit (.string a), .lit (.int .i64 b)]) : cs = [.string ⟨a.toArray⟩, .int .i64 b] := by
  obtain ⟨xs, n, _, rfl, hl, hlen, hf⟩ := DataW.trod_struct Tryz.underlying188 h
  rw [cellsBt] at hl
  match xs, hlen, cs, hl with
  | [y0, y1], _, [c0, c1], _ =>
    have g0 := hf 0 _ rfl
    have g1 := hf 1 _ rfl
    simp [cells9, cells3] at g0 g1
    obtain ⟨z0, e0, rfl, _⟩ := DataW.trod_string Tryz.underlying9 g0
    obtain ⟨z1, e1, rfl, _⟩ := DataW.trod_int Tryz.underlying3 g1
    simp at e0 e1 hx
    obtain ⟨rfl, rfl⟩ := hx
    rw [e0, e1]

def shD {H : Type} (r : List Int) : DataW H := .agg (r.map fun i => .lit (.int .i64 i))
def shC (r : List Int) : List Value := r.map fun i => .int .i64 i
def btD {H : Type} (r : List UInt8 × Int) : DataW H := .agg [.lit (.string r.1), .lit (.int .i64 r.2)]
def btC (r : List UInt8 × Int) : List Value := [.string ⟨r.1.toArray⟩, .int .i64 r.2]

theorem laid_head {P : Program} {W : World} {nm : String} {g : Nat} {t : TypeId} {d : DataW Unit} {rest : List (String × DataW Unit)} {ps : List MemPlace} (hg : P.globalNamed nm = some g) (ht : (P.globals[g]?).map (·.type) = some t)
    (h : DataW.LaidVars P W ((nm, d) :: rest) ps) : (∃ (cs : Array Value) (fuel : Nat) (p : List MemPlace) (t' : TypeId) (fr : Nat × Nat), W.heap[g]? = some (.cells cs t' fr) ∧ DataW.trod (fun _ => ()) P W 0 (fun _ => true) false fuel t cs.toList = some (d, p)) ∧ ∃ q, DataW.LaidVars P W rest q := by
  obtain ⟨g', t', cs, fuel, p, q, hg', ht', hvar, hd, hr, _⟩ := h
  obtain rfl := Option.some.inj (hg.symm.trans hg')
  obtain rfl := Option.some.inj (ht.symm.trans ht')
  refine ⟨?_, q, hr⟩
  unfold World.var? at hvar
  rw [hg] at hvar
  simp only [Option.bind_some] at hvar
  split at hvar
  · rename_i c t fr hb
    rw [Option.some.injEq] at hvar
    subst hvar
    exact ⟨_, fuel, p, _, _, hb, hd⟩
  · cases hvar

theorem gShp : Tryz.prog.globalNamed "loop.example/g00023/impl.shapes" = some 0 := by kernel_rfl
theorem gShpType : (Tryz.prog.globals[0]?).map (·.type) = some 96 := by kernel_rfl
theorem gBet : Tryz.prog.globalNamed "loop.example/g00023/impl.signsBetween" = some 1 := by kernel_rfl
theorem gBetType : (Tryz.prog.globals[1]?).map (·.type) = some 189 := by kernel_rfl

theorem shl_len : ∀ r ∈ SHL, r.length = 5 := by decide

theorem shp_of {W : World} {ps : List MemPlace} {rest : List (String × DataW Unit)}
    (h : DataW.LaidVars Tryz.prog W (("loop.example/g00023/impl.shapes", .agg (SHL.map shD)) :: rest) ps) : ShpB W ∧ ∃ q, DataW.LaidVars Tryz.prog W rest q := by
  obtain ⟨⟨cs, fuel, p, t', fr, hb, hd⟩, hr⟩ := laid_head gShp gShpType h
  refine ⟨?_, hr⟩
  have e : (SHL.map shD : List (DataW Unit)) = (SHL.map fun r => (shC r, (shD r : DataW Unit))).map (·.2) := by simp
  rw [e] at hd
  have hc := rows_cells Tryz.underlying96 cellsSh cellsShs (fun q hq fuel cs x hx hx1 => ?_) hd
  · have hcs : cs = SHP := Array.toList_inj.1 (hc.trans rfl)
    rw [hcs] at hb
    exact ⟨t', fr, hb⟩
  · obtain ⟨r, hr', rfl⟩ := List.mem_map.1 hq
    have h5 := shl_len r hr'
    match r, h5 with
    | [a, b, c, d, e], _ => exact shape_cells hx hx1

theorem bet_of {W : World} {ps : List MemPlace} {rest : List (String × DataW Unit)}
    (h : DataW.LaidVars Tryz.prog W (("loop.example/g00023/impl.signsBetween", .agg (BTL.map btD)) :: rest) ps) : BetB W ∧ ∃ q, DataW.LaidVars Tryz.prog W rest q := by
  obtain ⟨⟨cs, fuel, p, t', fr, hb, hd⟩, hr⟩ := laid_head gBet gBetType h
  refine ⟨?_, hr⟩
  have e : (BTL.map btD : List (DataW Unit)) = (BTL.map fun r => (btC r, (btD r : DataW Unit))).map (·.2) := by simp
  rw [e] at hd
  have hc := rows_cells Tryz.underlying189 cellsBt cellsBts (fun q hq fuel cs x hx hx1 => ?_) hd
  · have hcs : cs = BET := Array.toList_inj.1 (hc.trans rfl)
    rw [hcs] at hb
    exact ⟨t', fr, hb⟩
  · obtain ⟨r, hr', rfl⟩ := List.mem_map.1 hq
    exact bet_cells hx hx1

end Go.Proofs.YtifgaaemdojmpaaGreatDoor.ex

namespace Go.Proofs.YtifgaaemdojmpaaGreatDoor.st
open Go.ChangeShapes Go.WideShapes Go.ChangeAt Go.RowKit Go.Deep
set_option linter.unusedVariables false

def atS (l : List ByteArray) (i : Nat) : ByteArray := l[i]?.getD ByteArray.empty

/-- The first 'n' texts behind a slice's address are 'l'. -/
def Ss (w : World) (a : Option Addr) (n : Nat) (l : List ByteArray) : Prop :=
  n = 0 ∨ ∃ b off, a = some ⟨b, off, none⟩ ∧ ∀ i, i < n → w.cell? ⟨b, off + i, none⟩ = some (.string (atS l i))

theorem info9 : (Tryz.prog.info? 9).map (fun i => (i.zero, i.size, i.bytes)) = some (some (.string ⟨#[]⟩), 1, 16) := by kernel_rfl

theorem row_step {w : World} {b n k : Nat} {l : List ByteArray} (h : w.rowIs b 9 n (fun j => .string (if j < k then atS l j else ⟨#[]⟩))) :
    (w.setCell ⟨b, k, none⟩ (.string (atS l k))).rowIs b 9 n (fun j => .string (if j < k + 1 then atS l j else ⟨#[]⟩)) :=
  (h.set k _).congr fun i hi => by
    by_cases h : i = k
    · simp [h]
    · have e : (i < k + 1) ↔ (i < k) := by omega
      simp [h, e]

theorem Ss.row {w : World} {b n : Nat} {l : List ByteArray} (h : w.rowIs b 9 n (fun i => .string (atS l i))) : Ss w (some ⟨b, 0, none⟩) n l :=
  .inr ⟨b, 0, rfl, fun i hi => by have := h.cell hi; simpa using this⟩

theorem Ss.below {w w' : World} {a : Option Addr} {n : Nat} {l : List ByteArray} (h : Ss w a n l) (hb : Below w.heap.size w w') : Ss w' a n l := by
  rcases h with h | ⟨b, off, e, hc⟩
  · exact .inl h
  · exact .inr ⟨b, off, e, fun i hi => (hb.cell (World.block_lt_of_cell? _ _ (hc i hi))).trans (hc i hi)⟩

end Go.Proofs.YtifgaaemdojmpaaGreatDoor.st

namespace Go.Proofs.YtifgaaemdojmpaaGreatDoor.ex
open Go.ChangeShapes Go.WideShapes Go.ChangeAt Go.RowKit Go.Deep

theorem laid_skipF {P : Program} {W : World} {x : String × DataW Unit} {rest : List (String × DataW Unit)} {ps : List MemPlace} (h : DataW.LaidVars P W (x :: rest) ps) : ∃ q, DataW.LaidVars P W rest q := by
  obtain ⟨g, t, cs, fuel, p, q, _, _, _, _, hr, _⟩ := h
  exact ⟨q, hr⟩

end Go.Proofs.YtifgaaemdojmpaaGreatDoor.ex
