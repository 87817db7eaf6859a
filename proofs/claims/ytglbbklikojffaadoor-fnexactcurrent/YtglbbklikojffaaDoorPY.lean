import Derived.Test.YtglbbklikojffaaDoorPC
import Derived.Test.YtglbbklikojffaaDoorPN
import Derived.Test.YtglbbklikojffaaDoorPO
namespace Go.Proofs.YtglbbklikojffaaDoor.pf
open Go.ChangeShapes Go.WideShapes Go.ChangeAt Go.RowKit Go.Deep Go.Maps
set_option linter.unusedVariables false
set_option linter.unusedSimpArgs false

/-! ### Profiles: FnExactCurrent's walk -/

theorem wt_small2 {ps : List Pr} (hw : wtP ps ≤ 1048576) : ps.length ≤ 1048576 ∧ ∀ x ∈ ps, x.gens.length ≤ 1048576 := ⟨by have := wt_len ps; omega, fun x hx => by have := wt_gens hx; omega⟩

set_option maxHeartbeats 2000000 in
set_option maxRecDepth 100000 in
theorem cur_law (a0 : Option Addr) (cap0 : Nat) (ps : List Pr) (q : ByteArray) (hq : q.size ≤ maxLen) (w : World) (hT : wd.TabB w) (hb : SrcP w a0 ps) (hs : SmP ps) :
    Calls Tryd.prog 7 #[.slice a0 ps.length cap0, .string q] w fun e w' => e = .returned (.bool true) ∧ Below w.heap.size w w' := by
  by_cases hbig : 1048576 < q.size
  · have hbig' : (1048576 : Int) < (q.size : Int) := by omega
    go_enter Tryd.func7, Tryd.ntmps7
    go_wp2
    go_ret
    exact ⟨rfl, Below.refl _ _⟩
  have hbig' : ¬ (1048576 : Int) < (q.size : Int) := by omega
  have HSZ : Hid (Calls Tryd.prog 9 #[.slice a0 ps.length cap0, .int .i64 1048576] w fun e w' => (∃ r : Int, e = .returned (.int .i64 r) ∧ (r = -1 ∨ 0 ≤ r ∧ r = 1048576 - (wtP ps : Int))) ∧ Below w.heap.size w w') := szP_any a0 cap0 ps w hb hs
  have HTO : Hid (∀ W, Below w.heap.size w W → wtP ps ≤ 1048576 → Calls Tryd.prog 11 #[.slice a0 ps.length cap0] W fun e w' => e = .returned (.slice (some ⟨W.heap.size, 0, none⟩) ps.length ps.length) ∧ (∃ gs, OwP W.heap.size w'.heap.size w' W.heap.size gs ps) ∧ Below W.heap.size W w') := fun W h hw => toP_any a0 cap0 ps W (hb.below h) (wt_small2 hw).1 (wt_small2 hw).2
  have HT : Hid (wd.TabB w) := hT
  clear hb hs hT
  obtain ⟨n, hnn⟩ : ∃ n, ps.length = n := ⟨_, rfl⟩
  have HSP : Hid (∀ (a : Option Addr) (c : Nat) W, SrcP W a ps → wtP ps ≤ 1048576 → Calls Tryd.prog 22 #[.slice a n c, .string q] W fun e w' => e = .returned (.string (curP ps q.data.toList)) ∧ Below W.heap.size W w') := fun a c W h hw => by rw [← hnn]; exact scur_any ps a c q W h hw
  have HIP : Hid (∀ (a : Option Addr) (c : Nat) W, SrcP W a ps → wtP ps ≤ 1048576 → wd.TabB W → Calls Tryd.prog 23 #[.slice a n c, .string q] W fun e w' => e = .returned (.string (curP ps q.data.toList)) ∧ Below W.heap.size W w') := fun a c W h hw ht => by rw [← hnn]; exact icur_any ps a c q W h hw ht
  have HEQ : Hid (∀ (a a' : Option Addr) (c c' : Nat) W, SrcP W a ps → SrcP W a' ps → wtP ps ≤ 1048576 → Calls Tryd.prog 13 #[.slice a n c, .slice a' n c'] W fun e w' => e = .returned (.bool true) ∧ Below W.heap.size W w') := fun a a' c c' W h h' hw => by rw [← hnn]; exact eqP_any a a' c c' ps W h h' (wt_small2 hw).1 (wt_small2 hw).2
  rw [hnn] at HSZ HTO ⊢
  clear hnn
  obtain ⟨V, hV⟩ : ∃ V, curP ps q.data.toList = V := ⟨_, rfl⟩
  rw [hV] at HSP HIP
  clear hV
  go_enter Tryd.func7, Tryd.ntmps7
  go_wp2_with (go_at_call 9; refine HSZ.out.mono ?_; rintro e w1 ⟨⟨r, rfl, hr⟩, hl1⟩)
  · go_ret
    exact ⟨rfl, hl1⟩
  · have HW : Hid (wtP ps ≤ 1048576) := by
      have h := hr.resolve_left (by omega)
      show _ ≤ _
      omega
    clear hr
    have s1 := hl1.size
    go_wp2_with (go_at_call 11; refine (HTO.out _ hl1 HW.out).mono ?_; rintro e w2 ⟨rfl, ⟨gs2, ho2⟩, hl2⟩; refine Hid.out ?_)
    refine Lib.hid ?_
    have HS2 : Hid (SrcP w2 (some ⟨w1.heap.size, 0, none⟩) ps) := ho2.src
    clear ho2
    go_wp2_with (go_at_call 22; refine (HSP.out _ _ _ HS2.out HW.out).mono ?_; rintro e w3 ⟨rfl, hl3⟩; refine Hid.out ?_)
    refine Lib.hid ?_
    have B3 : Below w.heap.size w w3 := (hl1.trans (hl2.mono hl1.size)).trans (hl3.mono (Nat.le_trans hl1.size hl2.size))
    clear HS2
    go_wp2_with (go_at_call 11; refine (HTO.out _ B3 HW.out).mono ?_; rintro e w4 ⟨rfl, ⟨gs4, ho4⟩, hl4⟩; refine Hid.out ?_)
    refine Lib.hid ?_
    have HS4 : Hid (SrcP w4 (some ⟨w3.heap.size, 0, none⟩) ps) := ho4.src
    have B4 : Below w.heap.size w w4 := B3.trans (hl4.mono B3.size)
    clear ho4
    go_wp2_with (go_at_call 23; refine (HIP.out _ _ _ HS4.out HW.out (HT.out.below B4)).mono ?_; rintro e w5 ⟨rfl, hl5⟩; refine Hid.out ?_)
    refine Lib.hid ?_
    have HS5 : Hid (SrcP w5 (some ⟨w3.heap.size, 0, none⟩) ps) := HS4.out.below hl5
    have B5 : Below w.heap.size w w5 := B4.trans (hl5.mono B4.size)
    clear HS4
    go_wp2_with (go_at_call 11; refine (HTO.out _ B5 HW.out).mono ?_; rintro e w6 ⟨rfl, ⟨gs6, ho6⟩, hl6⟩; refine Hid.out ?_)
    refine Lib.hid ?_
    have HS6 : Hid (SrcP w6 (some ⟨w5.heap.size, 0, none⟩) ps) := ho6.src
    have HX6 : Hid (SrcP w6 (some ⟨w3.heap.size, 0, none⟩) ps) := HS5.out.below hl6
    have B6 : Below w.heap.size w w6 := B5.trans (hl6.mono B5.size)
    clear ho6
    go_wp2_with (go_at_call 13; refine (HEQ.out _ _ _ _ _ HX6.out HS6.out HW.out).mono ?_; rintro e w7 ⟨rfl, hl7⟩)
    go_ret
    exact ⟨rfl, B6.trans (hl7.mono B6.size)⟩

end Go.Proofs.YtglbbklikojffaaDoor.pf
