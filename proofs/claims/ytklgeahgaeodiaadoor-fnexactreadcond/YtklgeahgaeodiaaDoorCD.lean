import Derived.Test.YtklgeahgaeodiaaDoorCB
import Derived.Test.YtklgeahgaeodiaaDoorCC
namespace Go.Proofs.YtklgeahgaeodiaaDoor.cd
open Go.ChangeShapes Go.WideShapes Go.ChangeAt Go.RowKit Go.Deep
set_option linter.unusedVariables false
set_option linter.unusedSimpArgs false

/-- What condTree answers. -/
def TIs (E : Nat → Cn) (B n : Nat) (e : Ending) (w' : World) : Prop := (okAll E n = false ∧ e = .returned (.pointer none)) ∨ (okAll E n = true ∧ ∃ g, e = .returned (.pointer (some ⟨g, 0, none⟩)) ∧ Nd w' (Btw B w'.heap.size) 61 (.pointer (some ⟨g, 0, none⟩)) (treeP E 61 0))

theorem okAll_no {E : Nat → Cn} {n : Nat} (h : n = 0 ∨ 300 < n) : okAll E n = false := by
  unfold okAll
  rw [decide_eq_false (by omega)]; rfl
theorem okAll_eq {E : Nat → Cn} {n : Nat} (h : 0 < n) (h2 : n ≤ 300) : okAll E n = ok E 61 0 n := by
  unfold okAll
  rw [decide_eq_true ⟨h, h2⟩]; rfl

set_option maxRecDepth 100000 in
set_option maxHeartbeats 1000000 in
theorem condTree_any (E : Nat → Cn) (b n cap : Nat) (hcap : n ≤ cap ∧ cap ≤ 9223372036854775807) (hn : n ≤ 1048576) (hs : ∀ i, i < n → (E i).name.size ≤ 1048576) (w : World) (hX : XsB w b n E) :
    Calls Tryd.prog 24 #[.slice (some ⟨b, 0, none⟩) n cap] w fun e w' => TIs E w.heap.size n e w' ∧ Below w.heap.size w w' := by
  by_cases h0 : n = 0
  · subst h0
    go_enter Tryd.func24, Tryd.ntmps24
    go_wp2
    go_ret
    exact ⟨.inl ⟨okAll_no (.inl rfl), rfl⟩, Below.refl _ _⟩
  by_cases h3 : 300 < n
  · have h0' : ¬ (n : Int) = 0 := by omega
    have h3' : (300 : Int) < (n : Int) := by omega
    go_enter Tryd.func24, Tryd.ntmps24
    go_wp2
    go_ret
    exact ⟨.inl ⟨okAll_no (.inr h3), rfl⟩, Below.refl _ _⟩
  have h0' : ¬ (n : Int) = 0 := by omega
  have h3' : ¬ (300 : Int) < (n : Int) := by omega
  have HO : Hid (okAll E n = ok E 61 0 n) := okAll_eq (by omega) (by omega)
  have HN0 := node_any E b n (by omega) hs 61 0 rfl 0 n cap w hX (by omega) (by omega) hcap.1 hcap.2
  rw [Nat.zero_mul] at HN0
  have HN : Hid (Calls Tryd.prog 34 #[.slice (some ⟨b, 0, none⟩) n cap, .int .i64 0] w fun e w' => NIs E w.heap.size 61 0 n e w' ∧ Below w.heap.size w w') := HN0
  clear HN0
  clear hX
  go_enter Tryd.func24, Tryd.ntmps24
  go_wp2_with (go_at_call 34; refine HN.out.mono ?_; rintro e w1 ⟨⟨hk, rfl⟩ | ⟨hk, v, rfl, hnd⟩, hl1⟩)
  · go_ret
    exact ⟨.inl ⟨by rw [HO.out]; exact hk, rfl⟩, hl1⟩
  · obtain ⟨g, rfl⟩ := hnd.ptr
    go_ret
    exact ⟨.inr ⟨by rw [HO.out]; exact hk, g, rfl, hnd⟩, hl1⟩

set_option maxRecDepth 100000 in
theorem iok_any (E : Nat → Cn) (b n cap : Nat) (hcap : n ≤ cap ∧ cap ≤ 9223372036854775807) (hn : n ≤ 1048576) (hs : ∀ i, i < n → (E i).name.size ≤ 1048576) (w : World) (hX : XsB w b n E) :
    Calls Tryd.prog 15 #[.slice (some ⟨b, 0, none⟩) n cap] w fun e w' => e = .returned (.bool (okAll E n)) ∧ Below w.heap.size w w' := by
  go_enter Tryd.func15, Tryd.ntmps15
  go_wp2_with (go_at_call 24; refine (condTree_any E b n cap hcap hn hs _ hX).mono ?_; rintro e w1 ⟨⟨hk, rfl⟩ | ⟨hk, g, rfl, hnd⟩, hl1⟩)
  · go_ret
    exact ⟨ret_bool hk.symm, hl1⟩
  · go_ret
    exact ⟨ret_bool hk.symm, hl1⟩

set_option maxRecDepth 100000 in
set_option maxHeartbeats 1000000 in
theorem sok_any (E : Nat → Cn) (b n cap : Nat) (hcap : n ≤ cap ∧ cap ≤ 9223372036854775807) (hn : n ≤ 1048576) (hs : ∀ i, i < n → (E i).name.size ≤ 1048576) (w : World) (hX : XsB w b n E) :
    Calls Tryd.prog 11 #[.slice (some ⟨b, 0, none⟩) n cap] w fun e w' => e = .returned (.bool (okAll E n)) ∧ w' = w := by
  by_cases h3 : 300 < n
  · have h3' : ¬ (n : Int) ≤ 300 := by omega
    go_enter Tryd.func11, Tryd.ntmps11
    go_wp2
    go_ret
    exact ⟨ret_bool (okAll_no (.inr h3)).symm, rfl⟩
  have h3' : (n : Int) ≤ 300 := by omega
  have HL : Hid (∀ W, W = w → Calls Tryd.prog 19 #[.slice (some ⟨b, 0, none⟩) n cap, .int .i64 0] W fun e w' => e = .returned (.bool (okAll E n)) ∧ w' = W) := fun W hW => by
    subst hW
    by_cases h0 : n = 0
    · subst h0
      rw [okAll_no (.inl rfl)]
      go_enter Tryd.func19, Tryd.ntmps19
      go_wp2
      go_ret
      exact ⟨rfl, rfl⟩
    · have := l7Ok_any E b n (by omega) hs 61 0 rfl 0 n cap W hX (by omega) (by omega) hcap.1 hcap.2
      rw [okAll_eq (by omega) (by omega)]
      simpa using this
  clear hX
  go_enter Tryd.func11, Tryd.ntmps11
  go_wp2_with (go_at_call 19; refine (HL.out _ rfl).mono ?_; rintro e w1 ⟨rfl, hw⟩; obtain rfl := hw.symm; clear hw)
  go_ret
  exact ⟨rfl, rfl⟩

end Go.Proofs.YtklgeahgaeodiaaDoor.cd
