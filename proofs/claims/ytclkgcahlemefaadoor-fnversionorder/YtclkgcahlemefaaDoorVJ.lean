import Derived.Test.YtclkgcahlemefaaDoorVI
namespace Go.Proofs.YtclkgcahlemefaaDoor.vr
open Go.ChangeShapes Go.WideShapes Go.ChangeAt Go.RowKit Go.Deep Go.Shelf
set_option linter.unusedVariables false
set_option linter.unusedSimpArgs false

theorem versionOf_no {s : ByteArray} (hs : s.size ≤ 1048576) (h : ver s.data.toList = none) (w : World) :
    Calls Tryd.prog 12 #[.string s] w fun e w' => e = .returned (.tuple #[.slice none 0 0, .bool false]) ∧ Below w.heap.size w w' := by
  refine (versionOf_any s hs w).mono ?_
  rintro e w' ⟨⟨_, rfl⟩ | ⟨ps, v, h1, _⟩, hl⟩
  · exact ⟨rfl, hl⟩
  · rw [h] at h1; cases h1
theorem versionOf_yes {s : ByteArray} {ps : List Pt} (hs : s.size ≤ 1048576) (h : ver s.data.toList = some ps) (w : World) :
    Calls Tryd.prog 12 #[.string s] w fun e w' => ∃ a cap, e = .returned (.tuple #[.slice a ps.length cap, .bool true]) ∧ RowI w' (.slice a ps.length cap) ps ∧ Below w.heap.size w w' := by
  refine (versionOf_any s hs w).mono ?_
  rintro e w' ⟨⟨h1, rfl⟩ | ⟨qs, v, h1, rfl, ho⟩, hl⟩
  · rw [h] at h1; cases h1
  · rw [h] at h1
    cases h1
    have hr := ho.row
    obtain ⟨a, cap, rfl, _⟩ := ho.row
    exact ⟨a, cap, rfl, hr, hl⟩

theorem parts_no {s : ByteArray} (hs : s.size ≤ 1048576) (h : ver s.data.toList = none) (w : World) :
    Calls Tryd.prog 14 #[.string s] w fun e w' => (∃ v, e = .returned (.tuple #[v, .bool false])) ∧ Below w.heap.size w w' := by
  refine (parts_any s hs w).mono ?_
  rintro e w' ⟨⟨_, he⟩ | ⟨ps, v, h1, _⟩, hl⟩
  · exact ⟨he, hl⟩
  · rw [h] at h1; cases h1
theorem parts_yes {s : ByteArray} {ps : List Pt} (hs : s.size ≤ 1048576) (h : ver s.data.toList = some ps) (w : World) :
    Calls Tryd.prog 14 #[.string s] w fun e w' => ∃ a cap, e = .returned (.tuple #[.slice a ps.length cap, .bool true]) ∧ RowP w' (.slice a ps.length cap) ps ∧ Below w.heap.size w w' := by
  refine (parts_any s hs w).mono ?_
  rintro e w' ⟨⟨h1, _⟩ | ⟨qs, v, h1, rfl, ho⟩, hl⟩
  · rw [h] at h1; cases h1
  · rw [h] at h1
    cases h1
    have hr := ho.row
    obtain ⟨a, cap, rfl, _⟩ := ho.row
    exact ⟨a, cap, rfl, hr, hl⟩

theorem cmpV_no {a b : List UInt8} (h : ver a = none ∨ ver b = none) : cmpV a b = 2 := by
  unfold cmpV
  rcases h with h | h
  · rw [h]
  · cases ha : ver a <;> rw [h]
theorem cmpV_yes {a b : List UInt8} {p q : List Pt} (h : ver a = some p) (h2 : ver b = some q) : cmpV a b = cmpP p q := by unfold cmpV; rw [h, h2]

set_option maxHeartbeats 1000000 in
set_option maxRecDepth 100000 in
theorem icmp_any (s t : ByteArray) (hs : s.size ≤ 1048576) (ht : t.size ≤ 1048576) (w : World) :
    Calls Tryd.prog 6 #[.string s, .string t] w fun e w' => e = .returned (.int .i64 (cmpV s.data.toList t.data.toList)) ∧ Below w.heap.size w w' := by
  have F1 : Hid True := trivial
  cases hv : ver s.data.toList with
  | none =>
    have HV : Hid (cmpV s.data.toList t.data.toList = 2) := cmpV_no (.inl hv)
    have H1 : Hid (∀ W, Calls Tryd.prog 12 #[.string s] W fun e w' => e = .returned (.tuple #[.slice none 0 0, .bool false]) ∧ Below W.heap.size W w') := fun W => versionOf_no hs hv W
    have H2 : Hid (∀ W, Calls Tryd.prog 12 #[.string t] W fun e w' => ∃ a n c b, e = .returned (.tuple #[.slice a n c, .bool b]) ∧ Below W.heap.size W w') := fun W => (versionOf_any t ht W).mono (by
      rintro e w' ⟨⟨_, rfl⟩ | ⟨ps, v, h1, rfl, ho⟩, hl⟩
      · exact ⟨_, _, _, _, rfl, hl⟩
      · obtain ⟨a, cap, rfl, _⟩ := ho.row; exact ⟨_, _, _, _, rfl, hl⟩)
    clear hv
    go_enter Tryd.func6, Tryd.ntmps6
    go_wp2_with (first
      | (go_at_call 12; have := F1.out; refine (H1.out _).mono ?_; rintro e w1 ⟨rfl, hl1⟩; clear F1)
      | (go_at_call 12; refine (H2.out _).mono ?_; rintro e w2 ⟨a2, n2, c2, b2, rfl, hl2⟩))
    go_ret
    exact ⟨ret_int HV.out.symm, hl1.trans (hl2.mono hl1.size)⟩
  | some ps =>
    have H1 : Hid (∀ W, Calls Tryd.prog 12 #[.string s] W fun e w' => ∃ a cap, e = .returned (.tuple #[.slice a ps.length cap, .bool true]) ∧ RowI w' (.slice a ps.length cap) ps ∧ Below W.heap.size W w') := fun W => versionOf_yes hs hv W
    cases hu : ver t.data.toList with
    | none =>
      have HV : Hid (cmpV s.data.toList t.data.toList = 2) := cmpV_no (.inr hu)
      have H2 : Hid (∀ W, Calls Tryd.prog 12 #[.string t] W fun e w' => e = .returned (.tuple #[.slice none 0 0, .bool false]) ∧ Below W.heap.size W w') := fun W => versionOf_no ht hu W
      clear hv hu
      go_enter Tryd.func6, Tryd.ntmps6
      go_wp2_with (first
        | (go_at_call 12; have := F1.out; refine (H1.out _).mono ?_; rintro e w1 ⟨a1, c1, rfl, hr1, hl1⟩; clear F1)
        | (go_at_call 12; refine (H2.out _).mono ?_; rintro e w2 ⟨rfl, hl2⟩))
      go_ret
      exact ⟨ret_int HV.out.symm, hl1.trans (hl2.mono hl1.size)⟩
    | some qs =>
      have HV : Hid (cmpV s.data.toList t.data.toList = cmpP ps qs) := cmpV_yes hv hu
      have n1 := ver_len hv
      have n2 := ver_len hu
      have H2 : Hid (∀ W, Calls Tryd.prog 12 #[.string t] W fun e w' => ∃ a cap, e = .returned (.tuple #[.slice a qs.length cap, .bool true]) ∧ RowI w' (.slice a qs.length cap) qs ∧ Below W.heap.size W w') := fun W => versionOf_yes ht hu W
      clear hv hu
      go_enter Tryd.func6, Tryd.ntmps6
      go_wp2_with (first
        | (go_at_call 12; have := F1.out; refine (H1.out _).mono ?_; rintro e w1 ⟨a1, c1, rfl, hr1, hl1⟩; clear F1)
        | (go_at_call 12; refine (H2.out _).mono ?_; rintro e w2 ⟨a2, c2, rfl, hr2, hl2⟩)
        | (go_at_call 13; refine (vcompare_any ps qs _ _ _ (RowC.below hr1 hl2) hr2 (Nat.le_trans n1 (by decide)) (Nat.le_trans n2 (by decide))).mono ?_; rintro e w3 ⟨rfl, hl3⟩))
      go_ret
      have b2 := hl1.trans (hl2.mono hl1.size)
      exact ⟨ret_int HV.out.symm, b2.trans (hl3.mono b2.size)⟩

end Go.Proofs.YtclkgcahlemefaaDoor.vr
