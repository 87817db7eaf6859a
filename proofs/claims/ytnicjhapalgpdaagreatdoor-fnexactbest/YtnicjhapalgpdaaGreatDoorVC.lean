import Derived.Test.YtnicjhapalgpdaaGreatDoorVB
namespace Go.Proofs.YtnicjhapalgpdaaGreatDoor.vr
open Go.ChangeShapes Go.WideShapes Go.ChangeAt Go.RowKit Go.Deep Go.Shelf
set_option linter.unusedVariables false
set_option linter.unusedSimpArgs false

theorem fpV_form (o : Option (Option Pt × Nat)) : ∃ (x y : Int) (z : ByteArray) (k : Nat), fpV o = .tuple #[.agg #[.int .i64 x, .int .i64 y, .string z], .int .i64 (k : Int)] := by
  match o with
  | none => exact ⟨0, 0, ⟨#[]⟩, 0, rfl⟩
  | some (none, k) => exact ⟨0, 0, ⟨#[]⟩, k, rfl⟩
  | some (some (.num n), k) => exact ⟨1, n, ⟨#[]⟩, k, rfl⟩
  | some (some (.word l), k) => exact ⟨-1, 0, ⟨l.toArray⟩, k, rfl⟩

theorem fp_word {s : ByteArray} (h0 : 0 < s.size) (hd : dig s[0] = false) (h2 : ltr s[0] = true) : fp s.data.toList = some (some (Pt.word (s.data.toList.takeWhile ltr)), (s.data.toList.takeWhile ltr).length) := by
  have hl0 : s.data.toList = s[0] :: s.data.toList.drop 1 := dropS h0
  generalize s.data.toList = l at hl0 ⊢
  rw [hl0]
  simp only [fp, hd, h2, if_true, if_false, Bool.false_eq_true]
theorem fp_sep {s : ByteArray} (h0 : 0 < s.size) (hd : dig s[0] = false) (h2 : ltr s[0] = false) (h3 : s[0].toNat = 46 ∨ s[0].toNat = 45) : fp s.data.toList = some (none, 1) := by
  have hl0 : s.data.toList = s[0] :: s.data.toList.drop 1 := dropS h0
  generalize s.data.toList = l at hl0 ⊢
  rw [hl0]
  simp only [fp, hd, h2, h3, if_true, if_false, Bool.false_eq_true]
theorem fp_bad {s : ByteArray} (h0 : 0 < s.size) (hd : dig s[0] = false) (h2 : ltr s[0] = false) (h3 : ¬ (s[0].toNat = 46 ∨ s[0].toNat = 45)) : fp s.data.toList = none := by
  have hl0 : s.data.toList = s[0] :: s.data.toList.drop 1 := dropS h0
  generalize s.data.toList = l at hl0 ⊢
  rw [hl0]
  simp only [fp, hd, h2, h3, if_false, Bool.false_eq_true]

set_option maxHeartbeats 1000000 in
set_option maxRecDepth 100000 in
theorem firstPart_any (s : ByteArray) (h0 : 0 < s.size) (hs : s.size ≤ 1000000) (w : World) :
    Calls Tryz.prog 35 #[.string s] w fun e w' => e = .returned (fpV (fp s.data.toList)) ∧ Below w.heap.size w w' := by
  have hb255 : (s[0].toNat : Int) ≤ 255 := by have := s[0].toNat_lt; omega
  cases hd : dig s[0] with
  | true =>
    obtain ⟨x, y, z, k, hV⟩ := fpV_form (fp s.data.toList)
    have HN : Hid (∀ W, Calls Tryz.prog 44 #[.string s] W fun e w' => e = .returned (.tuple #[.agg #[.int .i64 x, .int .i64 y, .string z], .int .i64 (k : Int)]) ∧ Below W.heap.size W w') := fun W => by have := numberOf_any s h0 hs hd W; rwa [hV] at this
    have HV : Hid (fpV (fp s.data.toList) = .tuple #[.agg #[.int .i64 x, .int .i64 y, .string z], .int .i64 (k : Int)]) := hV
    clear hV
    go_enter Tryz.func35, Tryz.ntmps35
    go_wp2_with (first
      | (go_at_call 34; refine (isDigit_any _ _).mono ?_; rintro e w' ⟨rfl, rfl⟩)
      | (go_at_call 44; refine (HN.out _).mono ?_; rintro e w1 ⟨rfl, hl1⟩; obtain ⟨hc, hfz⟩ := bcell hl1))
    have hso := some3 hl1
    exact ret_two3 Tryz.results35 rfl rfl (three_set (hso 0 (by omega)) (hso 1 (by omega)) (hso 2 (by omega))) ⟨congrArg Ending.returned HV.out.symm, below3 (bel_lit hl1) (Nat.le_refl _)⟩
  | false =>
    cases h2 : ltr s[0] with
    | true =>
      have htl : (s.data.toList.takeWhile ltr).length ≤ s.size := by rw [← lenS]; exact tw_le _ _
      obtain ⟨K, hK⟩ : ∃ K, (s.data.toList.takeWhile ltr).length = K := ⟨_, rfl⟩
      have HR : Hid (∀ W, Calls Tryz.prog 46 #[.string s, .func (.func 45) #[] #[]] W fun e w' => e = .returned (.int .i64 (K : Int)) ∧ w' = W) := fun W => by have := rowSize_ltr s hs W; rwa [hK] at this
      have HV : Hid (fpV (fp s.data.toList) = .tuple #[.agg #[.int .i64 (-1), .int .i64 0, .string (s.extract 0 K)], .int .i64 (K : Int)]) := by
        show _ = _
        rw [fp_word h0 hd h2, ext0 (by omega), ← hK, tw_take]; rfl
      rw [hK] at htl
      clear hK
      go_enter Tryz.func35, Tryz.ntmps35
      go_wp2_with (first
        | (go_at_call 34; refine (isDigit_any _ _).mono ?_; rintro e w' ⟨rfl, rfl⟩)
        | (go_at_call 45; refine (isLetter_any _ _).mono ?_; rintro e w' ⟨rfl, rfl⟩)
        | (go_at_call 46; refine (HR.out _).mono ?_; rintro e w' ⟨rfl, rfl⟩))
      exact ret_two3 Tryz.results35 rfl rfl (three_lit _ _ _ _ _) ⟨congrArg Ending.returned HV.out.symm, (Below.refl _ _).alloc (Nat.le_refl _) _⟩
    | false =>
      by_cases h3 : s[0].toNat = 46 ∨ s[0].toNat = 45
      · have HV : Hid (fpV (fp s.data.toList) = .tuple #[.agg #[.int .i64 0, .int .i64 0, .string ⟨#[]⟩], .int .i64 1]) := by show _ = _; rw [fp_sep h0 hd h2 h3]; rfl
        go_enter Tryz.func35, Tryz.ntmps35
        go_wp2_with (first
          | (go_at_call 34; refine (isDigit_any _ _).mono ?_; rintro e w' ⟨rfl, rfl⟩)
          | (go_at_call 45; refine (isLetter_any _ _).mono ?_; rintro e w' ⟨rfl, rfl⟩))
        all_goals first
          | exact ret_two3 Tryz.results35 rfl rfl (three_lit _ _ _ _ _) ⟨congrArg Ending.returned HV.out.symm, (Below.refl _ _).alloc (Nat.le_refl _) _⟩
          | (exfalso; simp only [beq_eq_false_iff_ne, ne_eq] at *; omega)
      · have HV : Hid (fpV (fp s.data.toList) = .tuple #[.agg #[.int .i64 0, .int .i64 0, .string ⟨#[]⟩], .int .i64 0]) := by show _ = _; rw [fp_bad h0 hd h2 h3]; rfl
        have h4 : ((s[0].toNat : Int) == 46) = false := by rw [beq_eq_false_iff_ne]; omega
        have h5 : ((s[0].toNat : Int) == 45) = false := by rw [beq_eq_false_iff_ne]; omega
        clear h3
        go_enter Tryz.func35, Tryz.ntmps35
        go_wp2_with (first
          | (go_at_call 34; refine (isDigit_any _ _).mono ?_; rintro e w' ⟨rfl, rfl⟩)
          | (go_at_call 45; refine (isLetter_any _ _).mono ?_; rintro e w' ⟨rfl, rfl⟩))
        exact ret_two3 Tryz.results35 rfl rfl (three_lit _ _ _ _ _) ⟨congrArg Ending.returned HV.out.symm, (Below.refl _ _).alloc (Nat.le_refl _) _⟩

end Go.Proofs.YtnicjhapalgpdaaGreatDoor.vr
