import Derived.Test.YtnicjhapalgpdaaGreatDoorVI
namespace Go.Proofs.YtnicjhapalgpdaaGreatDoor.vr
open Go.ChangeShapes Go.WideShapes Go.ChangeAt Go.RowKit Go.Deep Go.Shelf
set_option linter.unusedVariables false
set_option linter.unusedSimpArgs false

theorem versionOf_no {s : ByteArray} (hs : s.size ≤ 1048576) (h : ver s.data.toList = none) (w : World) :
    Calls Tryz.prog 21 #[.string s] w fun e w' => e = .returned (.tuple #[.slice none 0 0, .bool false]) ∧ Below w.heap.size w w' := by
  refine (versionOf_any s hs w).mono ?_
  rintro e w' ⟨⟨_, rfl⟩ | ⟨ps, v, h1, _⟩, hl⟩
  · exact ⟨rfl, hl⟩
  · rw [h] at h1; cases h1
theorem versionOf_yes {s : ByteArray} {ps : List Pt} (hs : s.size ≤ 1048576) (h : ver s.data.toList = some ps) (w : World) :
    Calls Tryz.prog 21 #[.string s] w fun e w' => ∃ a cap, e = .returned (.tuple #[.slice a ps.length cap, .bool true]) ∧ RowI w' (.slice a ps.length cap) ps ∧ Below w.heap.size w w' := by
  refine (versionOf_any s hs w).mono ?_
  rintro e w' ⟨⟨h1, rfl⟩ | ⟨qs, v, h1, rfl, ho⟩, hl⟩
  · rw [h] at h1; cases h1
  · rw [h] at h1
    cases h1
    have hr := ho.row
    obtain ⟨a, cap, rfl, _⟩ := ho.row
    exact ⟨a, cap, rfl, hr, hl⟩

theorem parts_no {s : ByteArray} (hs : s.size ≤ 1048576) (h : ver s.data.toList = none) (w : World) :
    Calls Tryz.prog 19 #[.string s] w fun e w' => (∃ v, e = .returned (.tuple #[v, .bool false])) ∧ Below w.heap.size w w' := by
  refine (parts_any s hs w).mono ?_
  rintro e w' ⟨⟨_, he⟩ | ⟨ps, v, h1, _⟩, hl⟩
  · exact ⟨he, hl⟩
  · rw [h] at h1; cases h1
theorem parts_yes {s : ByteArray} {ps : List Pt} (hs : s.size ≤ 1048576) (h : ver s.data.toList = some ps) (w : World) :
    Calls Tryz.prog 19 #[.string s] w fun e w' => ∃ a cap, e = .returned (.tuple #[.slice a ps.length cap, .bool true]) ∧ RowP w' (.slice a ps.length cap) ps ∧ Below w.heap.size w w' := by
  refine (parts_any s hs w).mono ?_
  rintro e w' ⟨⟨h1, _⟩ | ⟨qs, v, h1, rfl, ho⟩, hl⟩
  · rw [h] at h1; cases h1
  · rw [h] at h1
    cases h1
    have hr := ho.row
    obtain ⟨a, cap, rfl, _⟩ := ho.row
    exact ⟨a, cap, rfl, hr, hl⟩

theorem cmpV_no {a b : List UInt8} (h : ver a = none ∨ ver b = none) : cmpV a b = 2 := by
  unfold cmpV
  rcases h with h | h
  · rw [h]
  · cases ha : ver a <;> rw [h]
theorem cmpV_yes {a b : List UInt8} {p q : List Pt} (h : ver a = some p) (h2 : ver b = some q) : cmpV a b = cmpP p q := by unfold cmpV; rw [h, h2]

set_option maxHeartbeats 1000000 in
set_option maxRecDepth 100000 in
theorem scmp_any (s t : ByteArray) (hs : s.size ≤ 1048576) (ht : t.size ≤ 1048576) (w : World) :
    Calls Tryz.prog 10 #[.string s, .string t] w fun e w' => e = .returned (.int .i64 (cmpV s.data.toList t.data.toList)) ∧ Below w.heap.size w w' := by
  have F1 : Hid True := trivial
  cases hv : ver s.data.toList with
  | none =>
    have HV : Hid (cmpV s.data.toList t.data.toList = 2) := cmpV_no (.inl hv)
    have H1 : Hid (∀ W, Calls Tryz.prog 19 #[.string s] W fun e w' => (∃ v, e = .returned (.tuple #[v, .bool false])) ∧ Below W.heap.size W w') := fun W => parts_no hs hv W
    have H2 : Hid (∀ W, Calls Tryz.prog 19 #[.string t] W fun e w' => ∃ v b, e = .returned (.tuple #[v, .bool b]) ∧ Below W.heap.size W w') := fun W => (parts_any t ht W).mono (by
      rintro e w' ⟨⟨_, v, rfl⟩ | ⟨ps, v, h1, rfl, ho⟩, hl⟩
      · exact ⟨_, _, rfl, hl⟩
      · exact ⟨_, _, rfl, hl⟩)
    clear hv
    go_enter Tryz.func10, Tryz.ntmps10
    go_wp2_with (first
      | (go_at_call 19; have := F1.out; refine (H1.out _).mono ?_; rintro e w1 ⟨⟨v1, rfl⟩, hl1⟩; clear F1)
      | (go_at_call 19; refine (H2.out _).mono ?_; rintro e w2 ⟨v2, b2, rfl, hl2⟩))
    go_ret
    exact ⟨ret_int HV.out.symm, hl1.trans (hl2.mono hl1.size)⟩
  | some ps =>
    have H1 : Hid (∀ W, Calls Tryz.prog 19 #[.string s] W fun e w' => ∃ a cap, e = .returned (.tuple #[.slice a ps.length cap, .bool true]) ∧ RowP w' (.slice a ps.length cap) ps ∧ Below W.heap.size W w') := fun W => parts_yes hs hv W
    cases hu : ver t.data.toList with
    | none =>
      have HV : Hid (cmpV s.data.toList t.data.toList = 2) := cmpV_no (.inr hu)
      have H2 : Hid (∀ W, Calls Tryz.prog 19 #[.string t] W fun e w' => (∃ v, e = .returned (.tuple #[v, .bool false])) ∧ Below W.heap.size W w') := fun W => parts_no ht hu W
      clear hv hu
      go_enter Tryz.func10, Tryz.ntmps10
      go_wp2_with (first
        | (go_at_call 19; have := F1.out; refine (H1.out _).mono ?_; rintro e w1 ⟨a1, c1, rfl, hr1, hl1⟩; clear F1)
        | (go_at_call 19; refine (H2.out _).mono ?_; rintro e w2 ⟨⟨v2, rfl⟩, hl2⟩))
      go_ret
      exact ⟨ret_int HV.out.symm, hl1.trans (hl2.mono hl1.size)⟩
    | some qs =>
      have HV : Hid (cmpV s.data.toList t.data.toList = cmpP ps qs) := cmpV_yes hv hu
      have n1 := ver_len hv
      have n2 := ver_len hu
      have f1 : Hid (Full ps) := ver_full hv
      have f2 : Hid (Full qs) := ver_full hu
      have H2 : Hid (∀ W, Calls Tryz.prog 19 #[.string t] W fun e w' => ∃ a cap, e = .returned (.tuple #[.slice a qs.length cap, .bool true]) ∧ RowP w' (.slice a qs.length cap) qs ∧ Below W.heap.size W w') := fun W => parts_yes ht hu W
      clear hv hu
      go_enter Tryz.func10, Tryz.ntmps10
      go_wp2_with (first
        | (go_at_call 19; have := F1.out; refine (H1.out _).mono ?_; rintro e w1 ⟨a1, c1, rfl, hr1, hl1⟩; clear F1)
        | (go_at_call 19; refine (H2.out _).mono ?_; rintro e w2 ⟨a2, c2, rfl, hr2, hl2⟩)
        | (go_at_call 20; refine (scompare_any ps qs _ _ _ (RowC.below hr1 hl2) hr2 f1.out f2.out (Nat.le_trans n1 (by decide)) (Nat.le_trans n2 (by decide))).mono ?_; rintro e w3 ⟨rfl, q3, rfl⟩))
      go_ret
      have b2 := hl1.trans (hl2.mono hl1.size)
      exact ⟨ret_int HV.out.symm, Go.below_drewN b2 q3⟩

end Go.Proofs.YtnicjhapalgpdaaGreatDoor.vr
