import Derived.Test.YtnfdoaglfmndmaaUX
import Derived.Test.YtnfdoaglfmndmaaUR
import Derived.Test.YtnfdoaglfmndmaaYB
import Derived.Test.YtnfdoaglfmndmaaYC
namespace Go.Proofs.Ytnfdoaglfmndmaa.un
open Go.ChangeShapes Go.WideShapes Go.ChangeAt Go.RowKit Go.Deep Go.Maps
set_option linter.unusedVariables false
set_option linter.unusedSimpArgs false

/-! ### Units: FnExactUnitsOk's walk -/

set_option maxHeartbeats 2000000 in
set_option maxRecDepth 100000 in
theorem ok_law (a0 : Option Addr) (cap0 : Nat) (ps : List ty.Un) (w : World) (hb : ty.SrcUn none w a0 ps) (hs : ty.SmUn ps) :
    Calls Try.prog 3 #[.slice a0 ps.length cap0] w fun e w' => e = .returned (.bool true) ∧ Below w.heap.size w w' := by
  have HSZ : Hid (Calls Try.prog 5 #[.slice a0 ps.length cap0, .int .i64 1048576] w fun e w' => (∃ r : Int, e = .returned (.int .i64 r) ∧ (r = -1 ∨ 0 ≤ r ∧ r = 1048576 - (ty.wtUn ps : Int))) ∧ Below w.heap.size w w') := ty.szUn_any a0 cap0 ps 1048576 w hb hs ⟨by omega, by omega⟩
  have HTO : Hid (∀ W, Below w.heap.size w W → ty.wtUn ps ≤ 1048576 → Calls Try.prog 7 #[.slice a0 ps.length cap0] W fun e w' => e = .returned (.slice (some ⟨W.heap.size, 0, none⟩) ps.length ps.length) ∧ ty.SrcUn (some W.heap.size) w' (some ⟨W.heap.size, 0, none⟩) ps ∧ Below W.heap.size W w') := fun W h hw => ty.toUn_any a0 cap0 ps W (hb.below h) hw
  clear hb hs
  obtain ⟨n, hnn⟩ : ∃ n, ps.length = n := ⟨_, rfl⟩
  have HSP : Hid (∀ (a : Option Addr) (c : Nat) W, ty.SrcUn none W a ps → ty.wtUn ps ≤ 1048576 → Calls Try.prog 6 #[.slice a n c] W fun e w' => e = .returned (.bool (usB ps)) ∧ Below W.heap.size W w') := fun a c W h hw => by rw [← hnn]; exact sunits_any a c ps W h hw
  have HIP : Hid (∀ (a : Option Addr) (c : Nat) W, ty.SrcUn none W a ps → ty.wtUn ps ≤ 1048576 → Calls Try.prog 8 #[.slice a n c] W fun e w' => e = .returned (.bool (usB ps)) ∧ Below W.heap.size W w') := fun a c W h hw => by rw [← hnn]; exact iunits_any a c ps W h hw
  have HEQ : Hid (∀ (a a' : Option Addr) (c c' : Nat) W, ty.SrcUn none W a ps → ty.SrcUn none W a' ps → ty.wtUn ps ≤ 1048576 → Calls Try.prog 9 #[.slice a n c, .slice a' n c'] W fun e w' => e = .returned (.bool true) ∧ Below W.heap.size W w') := fun a a' c c' W h h' hw => by rw [← hnn]; exact ty.eqUn_any a a' c c' ps W h h' hw
  rw [hnn] at HSZ HTO ⊢
  clear hnn
  obtain ⟨V, hV⟩ : ∃ V, usB ps = V := ⟨_, rfl⟩
  rw [hV] at HSP HIP
  clear hV
  go_enter Try.func3, Try.ntmps3
  go_wp2_with (go_at_call 5; refine HSZ.out.mono ?_; rintro e w1 ⟨⟨r, rfl, hr⟩, hl1⟩)
  · go_ret
    exact ⟨rfl, hl1⟩
  · have HW : Hid (ty.wtUn ps ≤ 1048576) := by
      have h := hr.resolve_left (by omega)
      show _ ≤ _
      omega
    clear hr
    have s1 := hl1.size
    go_wp2_with (go_at_call 7; refine (HTO.out _ hl1 HW.out).mono ?_; rintro e w2 ⟨rfl, ho2, hl2⟩; refine Hid.out ?_)
    refine Lib.hid ?_
    have HS2 : Hid (ty.SrcUn none w2 (some ⟨w1.heap.size, 0, none⟩) ps) := ho2.any
    clear ho2
    go_wp2_with (go_at_call 6; refine (HSP.out _ _ _ HS2.out HW.out).mono ?_; rintro e w3 ⟨rfl, hl3⟩; refine Hid.out ?_)
    refine Lib.hid ?_
    have B3 : Below w.heap.size w w3 := (hl1.trans (hl2.mono hl1.size)).trans (hl3.mono (Nat.le_trans hl1.size hl2.size))
    clear HS2
    go_wp2_with (go_at_call 7; refine (HTO.out _ B3 HW.out).mono ?_; rintro e w4 ⟨rfl, ho4, hl4⟩; refine Hid.out ?_)
    refine Lib.hid ?_
    have HS4 : Hid (ty.SrcUn none w4 (some ⟨w3.heap.size, 0, none⟩) ps) := ho4.any
    have B4 : Below w.heap.size w w4 := B3.trans (hl4.mono B3.size)
    clear ho4
    go_wp2_with (go_at_call 8; refine (HIP.out _ _ _ HS4.out HW.out).mono ?_; rintro e w5 ⟨rfl, hl5⟩; refine Hid.out ?_)
    refine Lib.hid ?_
    have HS5 : Hid (ty.SrcUn none w5 (some ⟨w3.heap.size, 0, none⟩) ps) := HS4.out.below hl5
    have B5 : Below w.heap.size w w5 := B4.trans (hl5.mono B4.size)
    clear HS4
    go_wp2_with (go_at_call 7; refine (HTO.out _ B5 HW.out).mono ?_; rintro e w6 ⟨rfl, ho6, hl6⟩; refine Hid.out ?_)
    refine Lib.hid ?_
    have HS6 : Hid (ty.SrcUn none w6 (some ⟨w5.heap.size, 0, none⟩) ps) := ho6.any
    have HX6 : Hid (ty.SrcUn none w6 (some ⟨w3.heap.size, 0, none⟩) ps) := HS5.out.below hl6
    have B6 : Below w.heap.size w w6 := B5.trans (hl6.mono B5.size)
    clear ho6
    go_wp2_with (go_at_call 9; refine (HEQ.out _ _ _ _ _ HX6.out HS6.out HW.out).mono ?_; rintro e w7 ⟨rfl, hl7⟩)
    go_ret
    exact ⟨rfl, B6.trans (hl7.mono B6.size)⟩

end Go.Proofs.Ytnfdoaglfmndmaa.un
