import Derived.Test.YthklplfpnciodaaGreatDoorXK
import Derived.Lib.LaidTab
namespace Go.Proofs.YthklplfpnciodaaGreatDoor.ex
open Go.ChangeShapes Go.WideShapes Go.ChangeAt Go.RowKit Go.Deep Go.Maps
set_option linter.unusedVariables false
set_option linter.unusedSimpArgs false

set_option maxRecDepth 100000 in
set_option maxHeartbeats 1000000 in
theorem sall_any (E : Nat → Ex) (b n cap : Nat) (hn : n ≤ 1048576) (hc : n ≤ cap ∧ cap ≤ 1099511627776) (ht : ∀ i, i < n → (E i).text.size ≤ 1048576) (w : World) (hX : XsB w b n E) :
    Calls Tryz.prog 14 #[.slice (some ⟨b, 0, none⟩) n cap] w fun e w' => e = .returned (.bool (okAll E n)) ∧ Below w.heap.size w w' := by
  by_cases h0 : n = 0
  · subst h0
    have HO : Hid (okAll E 0 = false) := all_out E (by omega)
    go_enter Tryz.func14, Tryz.ntmps14
    go_wp2_with fail
    go_ret
    exact ⟨ret_bool HO.out.symm, Below.refl _ _⟩
  have h0' : (0 : Int) < (n : Int) := by omega
  have h0n : 0 < n := by omega
  by_cases h1 : n ≤ 3000
  · have h1' : (n : Int) ≤ 3000 := by omega
    obtain ⟨g0, _, _, _⟩ := hX 0 (by omega)
    rw [Nat.zero_mul] at g0
    cases hx : exprK (E 0).kind with
    | false =>
      have HO : Hid (okAll E n = false) := by show _ = _; simp [okAll, hx]
      go_enter Tryz.func14, Tryz.ntmps14
      go_wp2_with (go_at_call 25; refine (exprK_any _ _).mono ?_; rw [hx]; rintro e w' ⟨rfl, rfl⟩)
      go_ret
      exact ⟨ret_bool HO.out.symm, Below.refl _ _⟩
    | true =>
      have HO : Hid (okAll E n = ok E 61 0 n) := by show _ = _; simp [okAll, hx, h0n, h1]
      have hk : okKind (E 0).kind = true := by
        simp only [exprK, decide_eq_true_eq] at hx
        simp only [okKind, decide_eq_true_eq]
        omega
      have HN : Hid (Calls Tryz.prog 26 #[.slice (some ⟨b, 0, none⟩) n cap, .int .i64 0] w fun e w' => e = .returned (.bool (ok E 61 0 n)) ∧ Below w.heap.size w w') := by
        have := sok_any E b n h1 ht 61 (Nat.le_refl _) 0 n cap w hX hk (by omega) (by omega) hc.1 hc.2
        show Calls _ _ _ _ _
        simpa using this
      go_enter Tryz.func14, Tryz.ntmps14
      go_wp2_with (first
        | (go_at_call 25; refine (exprK_any _ _).mono ?_; rw [hx]; rintro e w' ⟨rfl, rfl⟩)
        | (go_at_call 26; refine HN.out.mono ?_; rintro e w1 ⟨rfl, hl1⟩))
      go_ret
      exact ⟨ret_bool HO.out.symm, hl1⟩
  · have h1' : ¬ (n : Int) ≤ 3000 := by omega
    have HO : Hid (okAll E n = false) := all_out E (by omega)
    go_enter Tryz.func14, Tryz.ntmps14
    go_wp2_with fail
    go_ret
    exact ⟨ret_bool HO.out.symm, Below.refl _ _⟩

end Go.Proofs.YthklplfpnciodaaGreatDoor.ex
