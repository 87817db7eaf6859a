import Derived.Test.YthklplfpnciodaaGreatDoorFQ
import Derived.Test.YthklplfpnciodaaGreatDoorXF
import Derived.Test.YthklplfpnciodaaGreatDoorIT
namespace Go.Proofs.YthklplfpnciodaaGreatDoor.ex
open Go.ChangeShapes Go.WideShapes Go.ChangeAt Go.RowKit Go.Deep Go.Maps Go.Sort Go.Shelf
set_option linter.unusedVariables false
set_option linter.unusedSimpArgs false

/-- What both sides answer. -/
def frees (E : Nat → Ex) (n : Nat) : List (List UInt8) := if okAll E n = true then List.foldl fadd [] (freesT 61 (treeP E 61 0) []) else []

theorem free_all {E : Nat → Ex} {b n : Nat} (hn : n ≤ 3000) : ∀ r, FrS E b n r
  | 0 => fun p len cap w vb vo B O hok => by cases hok
  | r + 1 => free_succ hn (free_all hn r)

theorem two_rows (w : World) : StrR ((w.alloc (.cells #[] 9)).alloc (.cells #[] 9)) (.slice (some ⟨w.heap.size, 0, none⟩) 0 0) [] ∧ StrR ((w.alloc (.cells #[] 9)).alloc (.cells #[] 9)) (.slice (some ⟨w.heap.size + 1, 0, none⟩) 0 0) [] := by
  refine ⟨(StrR.zero w).below ((Below.refl _ _).alloc (Nat.le_refl _) _), ?_⟩
  have := StrR.zero (w.alloc (.cells #[] 9))
  rwa [show (w.alloc (.cells #[] 9)).heap.size = w.heap.size + 1 by simp] at this

set_option maxRecDepth 100000 in
set_option maxHeartbeats 1000000 in
theorem sfree_any (E : Nat → Ex) (b n cap : Nat) (hn : n ≤ 1048576) (hc : n ≤ cap ∧ cap ≤ 1099511627776) (ht : ∀ i, i < n → (E i).text.size ≤ 1048576) (w : World) (hX : XsB w b n E) :
    Calls Tryz.prog 5 #[.slice (some ⟨b, 0, none⟩) n cap] w fun e w' => ∃ v, e = .returned v ∧ StrR w' v (frees E n) ∧ Below w.heap.size w w' := by
  have HO : Hid (Calls Tryz.prog 14 #[.slice (some ⟨b, 0, none⟩) n cap] w fun e w' => e = .returned (.bool (okAll E n)) ∧ Below w.heap.size w w') := sall_any E b n cap hn hc ht w hX
  by_cases hok : okAll E n = true
  · have hok0 := hok
    simp only [okAll, Bool.and_eq_true, decide_eq_true_eq] at hok0
    obtain ⟨⟨hn0, hn1⟩, hk, hok1⟩ := hok0
    have HT : Hid (∀ (w1 : World) (vb vo : Value), XsB w1 b n E → StrR w1 vb [] → StrR w1 vo [] → Calls Tryz.prog 15 #[.slice (some ⟨b, 0, none⟩) n cap, vb, vo] w1 fun e w' => ∃ v', e = .returned v' ∧ StrR w' v' (frees E n) ∧ Below w1.heap.size w1 w') := fun w1 vb vo h1 h2 h3 => by
      have := free_all (E := E) (b := b) hn1 61 0 n cap w1 vb vo [] [] hok1 h1 hn0 (by omega) hc.1 hc.2 h2 h3 (by simp) (by simp)
      rw [Nat.zero_mul] at this
      rw [frees, if_pos hok]
      refine this.mono ?_
      rintro e w' ⟨v', e1, e2, _, e3⟩
      exact ⟨v', e1, e2, e3⟩
    rw [hok] at HO
    have HX : Hid (XsB w b n E) := hX
    clear hok hk hok1 hX ht
    go_enter Tryz.func5, Tryz.ntmps5
    go_wp2_with (first
      | (go_at_call 14; refine HO.out.mono ?_; rintro e w1 ⟨rfl, hb1⟩)
      | (go_at_call 15; refine (HT.out _ _ _ ((HX.out.below hb1).below (two_b w1 _ _)) (two_rows w1).1 (two_rows w1).2).mono ?_; rintro e w2 ⟨v2, rfl, hr2, hb2⟩))
    go_ret
    exact ⟨_, rfl, hr2, hb1.trans (((two_b w1 _ _).trans (hb2.mono (by simp; omega))).mono hb1.size)⟩
  · have hok' : okAll E n = false := by simpa using hok
    have HE : Hid (frees E n = []) := by show _ = _; rw [frees, if_neg hok]
    rw [hok'] at HO
    clear hok hok' hX ht
    go_enter Tryz.func5, Tryz.ntmps5
    go_wp2_with (go_at_call 14; refine HO.out.mono ?_; rintro e w1 ⟨rfl, hb1⟩)
    go_ret
    exact ⟨_, rfl, by rw [HE.out]; exact StrR.zero w1, hb1.trans (((Below.refl _ _).alloc (Nat.le_refl _) _).mono hb1.size)⟩

end Go.Proofs.YthklplfpnciodaaGreatDoor.ex
