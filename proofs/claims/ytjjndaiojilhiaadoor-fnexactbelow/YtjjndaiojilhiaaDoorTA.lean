import Derived.Test.YtjjndaiojilhiaaDoorTM
import Derived.Test.YtjjndaiojilhiaaDoorSG
import Derived.BigQuiet
import Derived.Deep.QuietTactic
namespace Go.Proofs.YtjjndaiojilhiaaDoor.tt
open Go.ChangeShapes Go.WideShapes Go.ChangeAt Go.RowKit Go.Deep
set_option linter.unusedVariables false
set_option linter.unusedSimpArgs false

/-! ### Trees of files: the specification, a path and an entry -/

theorem bytes_ext (s : ByteArray) (a b : Nat) : (s.extract a b).data.toList = (s.data.toList.drop a).take (b - a) := by
  simp [ByteArray.data_extract, List.take_drop]

theorem drop_one {s : ByteArray} {pos : Nat} (h : pos < s.size) : s.data.toList.drop pos = s[pos] :: s.data.toList.drop (pos + 1) := by
  rw [List.drop_eq_getElem_cons (by simpa using h)]
  rfl

theorem ext_more {s : ByteArray} {a i : Nat} (ha : a ≤ i) (hi : i < s.size) : (s.extract a (i + 1)).data.toList = (s.extract a i).data.toList ++ [s[i]] := by
  rw [bytes_ext, bytes_ext, show i + 1 - a = (i - a) + 1 by omega, List.take_add, List.drop_drop, show a + (i - a) = i by omega, drop_one hi]
  rfl

theorem name_ext (s : ByteArray) (a b : Nat) : nm.nameB (s.extract a b) = nameL (s.extract a b).data.toList := by
  unfold nameL
  congr 1

theorem strL_b (B : ByteArray) : sr.strL B.data.toList = .string B := sr.strL_of B

set_option maxHeartbeats 4000000 in
set_option maxRecDepth 100000 in
theorem names_any (s : ByteArray) (hs : s.size ≤ 1048576) (w : World) :
    Calls Tryd.prog 37 #[.string s] w fun e w' => (∃ v, e = .returned (.tuple #[v, .bool (pOk s)])) ∧ Below w.heap.size w w' := by
  have hz : s.data.toList.length = s.size := by simp
  have HO0 : Hid (sr.OwnS w.heap.size (w.alloc (.cells #[] 9)) (.slice (some ⟨w.heap.size, 0, none⟩) 0 0) []) := sv.own_zeroS w
  have HP0 : Hid (pOk s = pk 0 (s.extract 0 0).data.toList (s.data.toList.drop 0)) := by show _ = _; unfold pOk; rw [bytes_ext]; rfl
  obtain ⟨R, hR⟩ : ∃ R, pOk s = R := ⟨_, rfl⟩
  rw [hR] at HP0 ⊢
  clear hR
  go_enter Tryd.func37, Tryd.ntmps37
  go_wp2
  go_loopw [4, 5, 6] (fun r x y wr => ∃ (f i : Nat) (acc : List (List UInt8)), x = .int .i64 (f : Int) ∧ y = .int .i64 (i : Int) ∧ i ≤ s.size + 1 ∧ acc.length ≤ 8 ∧ sr.OwnS w.heap.size wr r acc ∧ (i ≤ s.size ∧ f ≤ i ∧ R = pk acc.length (s.extract f i).data.toList (s.data.toList.drop i) ∨ i = s.size + 1 ∧ R = true) ∧ Below w.heap.size w wr) (fun _ _ y _ => s.size + 1 - (intOf y).toNat)
  case atStart => exact ⟨0, 0, [], rfl, rfl, by omega, by simp, HO0.out, .inl ⟨by omega, Nat.le_refl _, HP0.out⟩, (Below.refl _ _).alloc (Nat.le_refl _) _⟩
  case round =>
    obtain ⟨f, i, acc, rfl, rfl, hi, hac, hown, hst, hbel⟩ := hrel
    have HOW : Hid (sr.OwnS w.heap.size wr u4 acc) := hown
    have HBE : Hid (Below w.heap.size w wr) := hbel
    obtain ⟨ra, rc, hu⟩ := own_shape hown.1
    clear hown hbel
    by_cases hend : i = s.size + 1
    · have HE : Hid (R = true) := by
        rcases hst with ⟨h, _⟩ | ⟨_, h⟩
        · omega
        · exact h
      have hc : ¬ (i : Int) ≤ (s.size : Int) := by omega
      clear hst
      go_wp2
      go_ret2
      have hRR := HE.out
      subst hRR
      exact ⟨⟨_, rfl⟩, HBE.out⟩
    have hle : i ≤ s.size := by omega
    have hle' : (i : Int) ≤ (s.size : Int) := by omega
    obtain ⟨hfi, hR⟩ : f ≤ i ∧ R = pk acc.length (s.extract f i).data.toList (s.data.toList.drop i) := by
      rcases hst with ⟨_, h1, h2⟩ | ⟨h, _⟩
      · exact ⟨h1, h2⟩
      · omega
    have HR : Hid (R = pk acc.length (s.extract f i).data.toList (s.data.toList.drop i)) := hR
    have f0 : (0 : Int) ≤ (f : Int) := by omega
    have f1 : (f : Int) ≤ (i : Int) := by omega
    have f2 : (f : Int) ≤ (s.size : Int) := by omega
    have HNM : Hid (∀ W, Calls Tryd.prog 49 #[.string (s.extract f i)] W fun e w' => e = .returned (.bool (nameL (s.extract f i).data.toList)) ∧ w' = W) := fun W => by
      have := nm.spec_any (s.extract f i) (by simp; omega) W
      rwa [name_ext] at this
    obtain ⟨X, hX⟩ : ∃ X, s.extract f i = X := ⟨_, rfl⟩
    have HX : Hid (s.extract f i = X) := hX
    rw [hX] at HNM
    clear hst hR
    -- a piece ends
    have HSTEP : Hid (∀ b, nameL X.data.toList = b → (b && decide (acc.length < 8)) = false → (i = s.size ∨ ∃ h : i < s.size, s[i] = 47) → R = false) := fun b hb h0 h1 => by
      rw [HR.out, hX]
      rcases h1 with rfl | ⟨h, h47⟩
      · rw [List.drop_of_length_le (by omega), pk, hb, h0]
      · rw [drop_one h, pk, if_pos h47, hb, h0]; rfl
    by_cases hsep : i = s.size ∨ ∃ h : i < s.size, s[i] = 47
    · cases hnb : nameL X.data.toList with
      | false =>
        rw [hnb] at HNM
        have HF : Hid (R = false) := HSTEP.out false hnb rfl hsep
        clear hnb HSTEP
        rcases hsep with rfl | ⟨hlt, h47⟩
        · go_wp2_with (go_at_call 49; refine (HNM.out _).mono ?_; rintro e w2 ⟨rfl, hw2⟩; obtain rfl := hw2.symm; clear hw2)
          go_ret2
          have hRR := HF.out
          subst hRR
          exact ⟨⟨_, rfl⟩, HBE.out⟩
        · have hlt' : (i : Int) < (s.size : Int) := by omega
          have hne : ¬ (i : Int) = (s.size : Int) := by omega
          have hbi : (s[i].toNat : Int) = 47 := by rw [h47]; rfl
          clear h47
          go_wp2_with (go_at_call 49; refine (HNM.out _).mono ?_; rintro e w2 ⟨rfl, hw2⟩; obtain rfl := hw2.symm; clear hw2)
          go_ret2
          have hRR := HF.out
          subst hRR
          exact ⟨⟨_, rfl⟩, HBE.out⟩
      | true =>
        rw [hnb] at HNM
        by_cases hc8 : acc.length = 8
        · have hc8' : (acc.length : Int) = 8 := by omega
          have HF : Hid (R = false) := HSTEP.out true hnb (by simp; omega) hsep
          subst hu
          clear hnb HSTEP
          rcases hsep with rfl | ⟨hlt, h47⟩
          · go_wp2_with (go_at_call 49; refine (HNM.out _).mono ?_; rintro e w2 ⟨rfl, hw2⟩; obtain rfl := hw2.symm; clear hw2)
            go_ret2
            have hRR := HF.out
            subst hRR
            exact ⟨⟨_, rfl⟩, HBE.out⟩
          · have hlt' : (i : Int) < (s.size : Int) := by omega
            have hne : ¬ (i : Int) = (s.size : Int) := by omega
            have hbi : (s[i].toNat : Int) = 47 := by rw [h47]; rfl
            clear h47
            go_wp2_with (go_at_call 49; refine (HNM.out _).mono ?_; rintro e w2 ⟨rfl, hw2⟩; obtain rfl := hw2.symm; clear hw2)
            go_ret2
            have hRR := HF.out
            subst hRR
            exact ⟨⟨_, rfl⟩, HBE.out⟩
        · have hc8' : ¬ (acc.length : Int) = 8 := by omega
          have hc7 : acc.length < 8 := by omega
          have HNX : Hid (nameL X.data.toList = true) := hnb
          subst hu
          clear hnb HSTEP hc8
          rcases hsep with rfl | ⟨hlt, h47⟩
          · have HN : Hid (R = true) := by
              show _ = _
              rw [HR.out, HX.out, List.drop_of_length_le (by omega), pk, HNX.out]
              simpa using hc7
            go_wp2_with (first
              | (go_at_call 49; refine (HNM.out _).mono ?_; rintro e w2 ⟨rfl, hw2⟩; obtain rfl := hw2.symm; clear hw2)
              | (at_builtin; refine sv.app_text _ rfl _ _ rfl w.heap.size _ acc rfl ⟨HOW.out.1.alloc _, HOW.out.2⟩ ⟨_, 0, none⟩ 1 1 [X.data.toList] rfl rfl (sv.one_str _ (strL_b X)) (by omega) (by have := HBE.out.size; simp; omega) ?_; intro v4 w4 hown4 hg4 hat4; have HB4 : Hid (Below w.heap.size w w4) := below_grown (HBE.out.alloc HBE.out.size _) (HOW.out.1.alloc _) hg4 (by have := HBE.out.size; simp; omega); clear hg4 hat4)
              | go_in)
            go_roundw
            case rel => exact ⟨s.size + 1, s.size + 1, acc ++ [X.data.toList], by go_num, by go_num, by omega, by simp; omega, hown4, .inr ⟨rfl, HN.out⟩, HB4.out⟩
            case measure => simp [intOf]
          · have hlt' : (i : Int) < (s.size : Int) := by omega
            have hne : ¬ (i : Int) = (s.size : Int) := by omega
            have hbi : (s[i].toNat : Int) = 47 := by rw [h47]; rfl
            have HN : Hid (R = pk (acc ++ [X.data.toList]).length (s.extract (i + 1) (i + 1)).data.toList (s.data.toList.drop (i + 1))) := by
              show _ = _
              rw [HR.out, HX.out, drop_one hlt, pk, if_pos h47, HNX.out, bytes_ext s (i + 1) (i + 1)]
              simp [hc7]
            clear h47
            go_wp2_with (first
              | (go_at_call 49; refine (HNM.out _).mono ?_; rintro e w2 ⟨rfl, hw2⟩; obtain rfl := hw2.symm; clear hw2)
              | (at_builtin; refine sv.app_text _ rfl _ _ rfl w.heap.size _ acc rfl ⟨HOW.out.1.alloc _, HOW.out.2⟩ ⟨_, 0, none⟩ 1 1 [X.data.toList] rfl rfl (sv.one_str _ (strL_b X)) (by omega) (by have := HBE.out.size; simp; omega) ?_; intro v4 w4 hown4 hg4 hat4; have HB4 : Hid (Below w.heap.size w w4) := below_grown (HBE.out.alloc HBE.out.size _) (HOW.out.1.alloc _) hg4 (by have := HBE.out.size; simp; omega); clear hg4 hat4)
              | go_in)
            go_roundw
            case rel => exact ⟨i + 1, i + 1, acc ++ [X.data.toList], by go_num, by go_num, by omega, by simp; omega, hown4, .inl ⟨by omega, Nat.le_refl _, HN.out⟩, HB4.out⟩
            case measure => simp [intOf]; omega
    · have hlt : i < s.size := by
        rcases Nat.lt_or_ge i s.size with h | h
        · exact h
        · exact absurd (.inl (by omega)) hsep
      have h47 : ¬ s[i] = 47 := fun e => hsep (.inr ⟨hlt, e⟩)
      have hlt' : (i : Int) < (s.size : Int) := by omega
      have hne : ¬ (i : Int) = (s.size : Int) := by omega
      have hbn : ¬ s[i].toNat = 47 := fun e => h47 (UInt8.toNat.inj e)
      have hbi : ¬ (s[i].toNat : Int) = 47 := by omega
      have hbb : ((s[i].toNat : Int) == 47) = false := by simpa using hbi
      have HN : Hid (R = pk acc.length (s.extract f (i + 1)).data.toList (s.data.toList.drop (i + 1))) := by
        show _ = _
        rw [HR.out, drop_one hlt, pk, if_neg h47, ext_more hfi hlt]
      subst hu
      clear h47 hbn hsep HSTEP hX
      go_wp2
      go_roundw
      case rel => exact ⟨f, i + 1, acc, by first | rfl | trivial, by go_num, by omega, hac, HOW.out, .inl ⟨by omega, by omega, HN.out⟩, HBE.out⟩
      case measure => simp [intOf]; omega

end Go.Proofs.YtjjndaiojilhiaaDoor.tt
