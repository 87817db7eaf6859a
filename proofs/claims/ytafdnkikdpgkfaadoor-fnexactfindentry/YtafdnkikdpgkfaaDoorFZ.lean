import Derived.Test.YtafdnkikdpgkfaaDoorFA
import Derived.Test.YtafdnkikdpgkfaaDoorTN
namespace Go.Proofs.YtafdnkikdpgkfaaDoor.tt
open Go.ChangeShapes Go.WideShapes Go.ChangeAt Go.RowKit Go.Deep Go.Maps
set_option linter.unusedVariables false
set_option linter.unusedSimpArgs false

/-! ### Trees of files: FnExactFindEntry's walk -/

set_option maxRecDepth 100000 in
theorem find_law (hC : ∀ E, AtC E) (a0 : Option Addr) (len0 cap0 : Nat) (E0 : Nat → En) (q : ByteArray) (hq : q.size ≤ maxLen) (w : World) (hm : ML w) (hb : SrcE w a0 len0 E0) (hn0 : len0 ≤ maxLen) (hs0 : ∀ i, i < len0 → (E0 i).path.size ≤ maxLen ∧ (E0 i).data.size ≤ maxLen) :
    Calls Tryd.prog 3 #[.slice a0 len0 cap0, .string q] w fun e w' => e = .returned (.bool true) ∧ Below w.heap.size w w' := by
  by_cases hbig : 1048576 < q.size
  · have hbig' : (1048576 : Int) < (q.size : Int) := by omega
    go_enter Tryd.func3, Tryd.ntmps3
    go_wp2
    go_ret
    exact ⟨rfl, Below.refl _ _⟩
  have hbig' : ¬ (1048576 : Int) < (q.size : Int) := by omega
  have hq1 : q.size ≤ 1048576 := by omega
  go_enter Tryd.func3, Tryd.ntmps3
  go_wp2_with (go_at_call 6; refine (szS_any _ _ _ E0 _ hb hn0 hs0).mono ?_; rintro e w1 ⟨⟨r, rfl, hr⟩, hl1⟩)
  · go_ret
    exact ⟨rfl, hl1⟩
  · obtain ⟨hr0, hn, hs⟩ := hr.resolve_left (by omega)
    have hb1 := hb.below hl1
    have s1 := hl1.size
    go_wp2_with (go_at_call 8; refine (toS_any _ _ _ E0 _ hb1 hn).mono ?_; rintro e w2 ⟨rfl, hr2, hl2⟩)
    have s2 := hl2.size
    go_wp2_with (go_at_call 7; refine (sfe_any E0 _ _ _ _ _ hr2 hs hn (Nat.le_refl _) (by unfold maxLen; omega)).mono ?_; rintro e w3 ⟨rfl, hl3⟩)
    have B3 : Below w1.heap.size w1 w3 := hl2.trans (hl3.mono hl2.size)
    have hb3 := hb1.below B3
    go_wp2_with (go_at_call 8; refine (toS_any _ _ _ E0 _ hb3 hn).mono ?_; rintro e w4 ⟨rfl, hr4, hl4⟩)
    have s4 := hl4.size
    have B4 : Below w1.heap.size w1 w4 := B3.trans (hl4.mono B3.size)
    have hm4 : ML w4 := hm.below (hl1.trans (B4.mono s1))
    go_wp2_with (go_at_call 9; refine (ife_any E0 _ _ _ _ _ hq1 _ hr4 hs hn hm4 (hC E0)).mono ?_; rintro e w5 ⟨rfl, hl5⟩)
    have B5 : Below w1.heap.size w1 w5 := B4.trans (hl5.mono B4.size)
    have hb5 := hb1.below B5
    go_wp2_with (go_at_call 8; refine (toS_any _ _ _ E0 _ hb5 hn).mono ?_; rintro e w6 ⟨rfl, hr6, hl6⟩)
    have hX6 := (hr4.below hl5).below hl6
    go_wp2_with (go_at_call 10; refine (eqS_any _ _ _ _ _ E0 _ hX6 hr6 hn).mono ?_; rintro e w7 ⟨rfl, hl7⟩)
    go_ret
    exact ⟨rfl, hl1.trans (((B5.trans (hl6.mono B5.size)).trans (hl7.mono (Nat.le_trans B5.size hl6.size))).mono s1)⟩

end Go.Proofs.YtafdnkikdpgkfaaDoor.tt
