import Derived.Test.YtibkcfkbljjgnaaDoorOX
import Derived.Test.YtibkcfkbljjgnaaDoorOR
import Derived.Test.YtibkcfkbljjgnaaDoorYB
import Derived.Test.YtibkcfkbljjgnaaDoorYC
namespace Go.Proofs.YtibkcfkbljjgnaaDoor.op
open Go.ChangeShapes Go.WideShapes Go.ChangeAt Go.RowKit Go.Deep Go.Maps
set_option linter.unusedVariables false
set_option linter.unusedSimpArgs false

/-! ### Modules: FnExactModulesOk's walk -/

set_option maxHeartbeats 2000000 in
set_option maxRecDepth 100000 in
theorem ok_law (a0 : Option Addr) (cap0 : Nat) (ps : List ty.Md) (w : World) (hT : ML w) (hb : ty.SrcMd none w a0 ps) (hs : ty.SmMd ps) :
    Calls Tryd.prog 4 #[.slice a0 ps.length cap0] w fun e w' => e = .returned (.bool true) ∧ Below w.heap.size w w' := by
  have HSZ : Hid (Calls Tryd.prog 7 #[.slice a0 ps.length cap0, .int .i64 1048576] w fun e w' => (∃ r : Int, e = .returned (.int .i64 r) ∧ (r = -1 ∨ 0 ≤ r ∧ r = 1048576 - (ty.wtMd ps : Int))) ∧ Below w.heap.size w w') := ty.szMd_any a0 cap0 ps 1048576 w hb hs ⟨by omega, by omega⟩
  have HTO : Hid (∀ W, Below w.heap.size w W → ty.wtMd ps ≤ 1048576 → Calls Tryd.prog 9 #[.slice a0 ps.length cap0] W fun e w' => e = .returned (.slice (some ⟨W.heap.size, 0, none⟩) ps.length ps.length) ∧ ty.SrcMd (some W.heap.size) w' (some ⟨W.heap.size, 0, none⟩) ps ∧ Below W.heap.size W w') := fun W h hw => ty.toMd_any a0 cap0 ps W (hb.below h) hw
  have HT : Hid (ML w) := hT
  clear hb hs hT
  obtain ⟨n, hnn⟩ : ∃ n, ps.length = n := ⟨_, rfl⟩
  have HSP : Hid (∀ (a : Option Addr) (c : Nat) W, ty.SrcMd none W a ps → ty.wtMd ps ≤ 1048576 → Calls Tryd.prog 8 #[.slice a n c] W fun e w' => e = .returned (.bool (msB ps)) ∧ Below W.heap.size W w') := fun a c W h hw => by rw [← hnn]; exact smods_any a c ps W h hw
  have HIP : Hid (∀ (a : Option Addr) (c : Nat) W, ty.SrcMd none W a ps → ty.wtMd ps ≤ 1048576 → ML W → Calls Tryd.prog 10 #[.slice a n c] W fun e w' => e = .returned (.bool (msB ps)) ∧ Below W.heap.size W w') := fun a c W h hw ht => by rw [← hnn]; exact imods_any a c ps W h hw ht
  have HEQ : Hid (∀ (a a' : Option Addr) (c c' : Nat) W, ty.SrcMd none W a ps → ty.SrcMd none W a' ps → ty.wtMd ps ≤ 1048576 → Calls Tryd.prog 11 #[.slice a n c, .slice a' n c'] W fun e w' => e = .returned (.bool true) ∧ Below W.heap.size W w') := fun a a' c c' W h h' hw => by rw [← hnn]; exact ty.eqMd_any a a' c c' ps W h h' hw
  rw [hnn] at HSZ HTO ⊢
  clear hnn
  obtain ⟨V, hV⟩ : ∃ V, msB ps = V := ⟨_, rfl⟩
  rw [hV] at HSP HIP
  clear hV
  go_enter Tryd.func4, Tryd.ntmps4
  go_wp2_with (go_at_call 7; refine HSZ.out.mono ?_; rintro e w1 ⟨⟨r, rfl, hr⟩, hl1⟩)
  · go_ret
    exact ⟨rfl, hl1⟩
  · have HW : Hid (ty.wtMd ps ≤ 1048576) := by
      have h := hr.resolve_left (by omega)
      show _ ≤ _
      omega
    clear hr
    have s1 := hl1.size
    go_wp2_with (go_at_call 9; refine (HTO.out _ hl1 HW.out).mono ?_; rintro e w2 ⟨rfl, ho2, hl2⟩; refine Hid.out ?_)
    refine Lib.hid ?_
    have HS2 : Hid (ty.SrcMd none w2 (some ⟨w1.heap.size, 0, none⟩) ps) := ho2.any
    clear ho2
    go_wp2_with (go_at_call 8; refine (HSP.out _ _ _ HS2.out HW.out).mono ?_; rintro e w3 ⟨rfl, hl3⟩; refine Hid.out ?_)
    refine Lib.hid ?_
    have B3 : Below w.heap.size w w3 := (hl1.trans (hl2.mono hl1.size)).trans (hl3.mono (Nat.le_trans hl1.size hl2.size))
    clear HS2
    go_wp2_with (go_at_call 9; refine (HTO.out _ B3 HW.out).mono ?_; rintro e w4 ⟨rfl, ho4, hl4⟩; refine Hid.out ?_)
    refine Lib.hid ?_
    have HS4 : Hid (ty.SrcMd none w4 (some ⟨w3.heap.size, 0, none⟩) ps) := ho4.any
    have B4 : Below w.heap.size w w4 := B3.trans (hl4.mono B3.size)
    clear ho4
    go_wp2_with (go_at_call 10; refine (HIP.out _ _ _ HS4.out HW.out (HT.out.below B4)).mono ?_; rintro e w5 ⟨rfl, hl5⟩; refine Hid.out ?_)
    refine Lib.hid ?_
    have HS5 : Hid (ty.SrcMd none w5 (some ⟨w3.heap.size, 0, none⟩) ps) := HS4.out.below hl5
    have B5 : Below w.heap.size w w5 := B4.trans (hl5.mono B4.size)
    clear HS4
    go_wp2_with (go_at_call 9; refine (HTO.out _ B5 HW.out).mono ?_; rintro e w6 ⟨rfl, ho6, hl6⟩; refine Hid.out ?_)
    refine Lib.hid ?_
    have HS6 : Hid (ty.SrcMd none w6 (some ⟨w5.heap.size, 0, none⟩) ps) := ho6.any
    have HX6 : Hid (ty.SrcMd none w6 (some ⟨w3.heap.size, 0, none⟩) ps) := HS5.out.below hl6
    have B6 : Below w.heap.size w w6 := B5.trans (hl6.mono B5.size)
    clear ho6
    go_wp2_with (go_at_call 11; refine (HEQ.out _ _ _ _ _ HX6.out HS6.out HW.out).mono ?_; rintro e w7 ⟨rfl, hl7⟩)
    go_ret
    exact ⟨rfl, B6.trans (hl7.mono B6.size)⟩

end Go.Proofs.YtibkcfkbljjgnaaDoor.op
