import Derived.Test.YtimcocmjmlejfaaGreatDoorQF
import Derived.Test.YtimcocmjmlejfaaGreatDoorSG
namespace Go.Proofs.YtimcocmjmlejfaaGreatDoor.rc
open Go.ChangeShapes Go.WideShapes Go.ChangeAt Go.RowKit Go.Deep Go.Lib Go.Shelf Go.Proofs.YtimcocmjmlejfaaGreatDoor.vr
set_option linter.unusedVariables false
set_option linter.unusedSimpArgs false

theorem strL_b (B : ByteArray) : sr.strL B.data.toList = .string B := sr.strL_of B

theorem one_ext {s : ByteArray} {i : Nat} (h : i < s.size) : (s.extract i (i + 1)).data.toList = [s[i]] := by
  rw [ext_bytes, show i + 1 - i = 1 by omega, drop_cons h]
  rfl

theorem app_data (A B : ByteArray) : (A ++ B).data.toList = A.data.toList ++ B.data.toList := by simp

set_option maxHeartbeats 2000000 in
set_option maxRecDepth 100000 in
theorem swords_any (s : ByteArray) (hs : s.size ≤ 2000) (w : World) :
    Calls Tryz.prog 28 #[.string s] w fun e w' => ∃ v, e = .returned v ∧ sr.OwnS w.heap.size w' v (wds [] s.data.toList) ∧ Below w.heap.size w w' := by
  have hz : s.data.toList.length = s.size := by simp
  have HO0 : Hid (sr.OwnS w.heap.size (w.alloc (.cells #[] 9)) (.slice (some ⟨w.heap.size, 0, none⟩) 0 0) []) := sv.own_zeroS w
  have HL0 := (wds_len s.data.toList []).1
  rw [hz] at HL0
  obtain ⟨T, hT⟩ : ∃ T, wds [] s.data.toList = T := ⟨_, rfl⟩
  have HT : Hid (wds [] s.data.toList = T) := hT
  rw [hT] at HL0 ⊢
  clear hT
  go_enter Tryz.func28, Tryz.ntmps28
  go_wp2
  go_loopw [3, 4, 5] (fun r x y wr => ∃ (i : Nat) (acc : List (List UInt8)) (W : ByteArray), x = .string W ∧ y = .int .i64 (i : Int) ∧ i ≤ s.size + 1 ∧ W.size ≤ i ∧ sr.OwnS w.heap.size wr r acc ∧ (i ≤ s.size ∧ T = acc ++ wds W.data.toList (s.data.toList.drop i) ∨ i = s.size + 1 ∧ T = acc) ∧ Below w.heap.size w wr) (fun _ _ y _ => s.size + 1 - (intOf y).toNat)
  case atStart => exact ⟨0, [], ⟨#[]⟩, rfl, rfl, by omega, by decide, HO0.out, .inl ⟨by omega, by rw [← HT.out]; rfl⟩, (Below.refl _ _).alloc (Nat.le_refl _) _⟩
  case round =>
    obtain ⟨i, acc, W, rfl, rfl, hi, hW, hown, hTT, hbel⟩ := hrel
    have HOW : Hid (sr.OwnS w.heap.size wr u3 acc) := hown
    have HBE : Hid (Below w.heap.size w wr) := hbel
    have hacc : acc.length ≤ 2001 := by
      rcases hTT with ⟨_, h⟩ | ⟨_, h⟩
      · have := congrArg List.length h; rw [List.length_append] at this; omega
      · rw [← h]; omega
    have hwz : W.data.toList.length = W.size := by simp
    by_cases hend : i = s.size + 1
    · have HE : Hid (T = acc) := by
        rcases hTT with ⟨h, _⟩ | ⟨_, h⟩
        · omega
        · exact h
      have hc : ¬ (i : Int) ≤ (s.size : Int) := by omega
      clear hTT hown
      go_wp2
      go_ret
      exact ⟨_, rfl, by rw [HE.out]; exact HOW.out, HBE.out⟩
    have hle : i ≤ s.size := by omega
    have hle' : (i : Int) ≤ (s.size : Int) := by omega
    have HTT : Hid (T = acc ++ wds W.data.toList (s.data.toList.drop i)) := by
      rcases hTT with ⟨_, h⟩ | ⟨h, _⟩
      · exact h
      · omega
    clear hTT hown hend
    by_cases hlt : i < s.size
    · have hlt' : (i : Int) < (s.size : Int) := by omega
      by_cases hb : s[i] = 32
      · have hbn : s[i].toNat = 32 := by rw [hb]; rfl
        have hbi : (s[i].toNat : Int) = 32 := by omega
        by_cases hw0 : W.data.toList = []
        · have hwe : W.toList.isEmpty = true := by rw [ByteArray.toList_eq, hw0]; rfl
          have HW0 : Hid (W.data.toList = []) := hw0
          have HN : Hid (T = acc ++ wds [] (s.data.toList.drop (i + 1))) := by show _ = _; rw [HTT.out, drop_cons hlt, wds, if_pos hb, if_pos hw0]
          clear hb hbn hw0 hwz
          go_wp2
          go_roundw
          case rel => exact ⟨i + 1, acc, W, by first | rfl | trivial, by go_num, by omega, by omega, HOW.out, .inl ⟨by omega, by rw [HW0.out]; exact HN.out⟩, HBE.out⟩
          case measure => simp [intOf]; omega
        · have hwe : W.toList.isEmpty = false := by rw [ByteArray.toList_eq]; simpa using hw0
          have HN : Hid (T = acc ++ [W.data.toList] ++ wds [] (s.data.toList.drop (i + 1))) := by show _ = _; rw [HTT.out, drop_cons hlt, wds, if_pos hb, if_neg hw0]; simp
          clear hb hbn hw0 hwz
          go_wp2_with (first
            | (at_builtin; refine sv.app_text _ rfl _ _ rfl w.heap.size _ acc rfl ⟨HOW.out.1.alloc _, HOW.out.2⟩ ⟨_, 0, none⟩ 1 1 [W.data.toList] rfl rfl (sv.one_str _ (strL_b W)) (by omega) (by have := HBE.out.size; simp; omega) ?_; intro v4 w4 hown4 hg4 hat4; have HB4 : Hid (Below w.heap.size w w4) := below_grown (HBE.out.alloc HBE.out.size _) (HOW.out.1.alloc _) hg4 (by have := HBE.out.size; simp; omega); clear hg4 hat4)
            | go_in)
          go_roundw
          case rel => exact ⟨i + 1, acc ++ [W.data.toList], ⟨#[]⟩, by first | rfl | trivial, by go_num, by omega, Nat.zero_le _, hown4, .inl ⟨by omega, HN.out⟩, HB4.out⟩
          case measure => simp [intOf]; omega
      · have hbn : ¬ s[i].toNat = 32 := fun e => hb (UInt8.toNat.inj e)
        have hbi : ¬ (s[i].toNat : Int) = 32 := by omega
        have hbb : ((s[i].toNat : Int) == 32) = false := by simpa using hbi
        have HN : Hid (T = acc ++ wds (W ++ s.extract i (i + 1)).data.toList (s.data.toList.drop (i + 1))) := by show _ = _; rw [HTT.out, drop_cons hlt, wds, if_neg hb, app_data, one_ext hlt]
        have HZ : Hid ((W ++ s.extract i (i + 1)).size ≤ i + 1) := by show _ ≤ _; simp; omega
        have k1 : (i : Int) + 1 ≤ (s.size : Int) := by omega
        clear hb hbn hwz
        go_wp2
        go_roundw
        case rel => exact ⟨i + 1, acc, W ++ s.extract i (i + 1), by first | rfl | trivial, by go_num, by omega, HZ.out, HOW.out, .inl ⟨by omega, HN.out⟩, HBE.out⟩
        case measure => simp [intOf]; omega
    · have hlt' : ¬ (i : Int) < (s.size : Int) := by omega
      obtain rfl : i = s.size := by omega
      have hd : s.data.toList.drop s.size = [] := List.drop_of_length_le (by omega)
      by_cases hw0 : W.data.toList = []
      · have hwe : W.toList.isEmpty = true := by rw [ByteArray.toList_eq, hw0]; rfl
        have HN : Hid (T = acc) := by show _ = _; rw [HTT.out, hd, wds, if_pos hw0]; simp
        clear hw0 hwz hd
        go_wp2
        go_roundw
        case rel => exact ⟨s.size + 1, acc, W, by first | rfl | trivial, by go_num, by omega, by omega, HOW.out, .inr ⟨rfl, HN.out⟩, HBE.out⟩
        case measure => simp [intOf]
      · have hwe : W.toList.isEmpty = false := by rw [ByteArray.toList_eq]; simpa using hw0
        have HN : Hid (T = acc ++ [W.data.toList]) := by show _ = _; rw [HTT.out, hd, wds, if_neg hw0]
        clear hw0 hwz hd
        go_wp2_with (first
          | (at_builtin; refine sv.app_text _ rfl _ _ rfl w.heap.size _ acc rfl ⟨HOW.out.1.alloc _, HOW.out.2⟩ ⟨_, 0, none⟩ 1 1 [W.data.toList] rfl rfl (sv.one_str _ (strL_b W)) (by omega) (by have := HBE.out.size; simp; omega) ?_; intro v4 w4 hown4 hg4 hat4; have HB4 : Hid (Below w.heap.size w w4) := below_grown (HBE.out.alloc HBE.out.size _) (HOW.out.1.alloc _) hg4 (by have := HBE.out.size; simp; omega); clear hg4 hat4)
          | go_in)
        go_roundw
        case rel => exact ⟨s.size + 1, acc ++ [W.data.toList], ⟨#[]⟩, by first | rfl | trivial, by go_num, by omega, Nat.zero_le _, hown4, .inr ⟨rfl, HN.out⟩, HB4.out⟩
        case measure => simp [intOf]

theorem two_ext {s : ByteArray} {i : Nat} (h : i + 1 < s.size) : (s.extract i (i + 2)).toList = [s[i], s[i + 1]] := by
  rw [ByteArray.toList_eq, ext_bytes, show i + 2 - i = 2 by omega, drop_cons (by omega), drop_cons (by omega)]
  rfl

theorem al_two {s : ByteArray} {i : Nat} (h : i + 1 < s.size) (cur : List UInt8) : al cur (s.data.toList.drop i) = if s[i] = 124 ∧ s[i + 1] = 124 then cur :: al [] (s.data.toList.drop (i + 2)) else al (cur ++ [s[i]]) (s.data.toList.drop (i + 1)) := by
  rw [drop_cons (by omega), drop_cons (by omega), al]

theorem al_last {s : ByteArray} {i : Nat} (h : ¬ i + 1 < s.size) (cur : List UInt8) : al cur (s.data.toList.drop i) = [cur ++ s.data.toList.drop i] := by
  have hz : s.data.toList.length = s.size := by simp
  by_cases hi : i < s.size
  · rw [drop_cons hi, List.drop_of_length_le (by omega), al]
  · rw [List.drop_of_length_le (by omega), al]; simp

set_option maxHeartbeats 2000000 in
set_option maxRecDepth 100000 in
theorem salts_any (s : ByteArray) (hs : s.size ≤ 2000) (w : World) :
    Calls Tryz.prog 27 #[.string s] w fun e w' => ∃ v, e = .returned v ∧ sr.OwnS w.heap.size w' v (al [] s.data.toList) ∧ Below w.heap.size w w' := by
  have hz : s.data.toList.length = s.size := by simp
  have HO0 : Hid (sr.OwnS w.heap.size (w.alloc (.cells #[] 9)) (.slice (some ⟨w.heap.size, 0, none⟩) 0 0) []) := sv.own_zeroS w
  have HL0 := (al_len _ s.data.toList [] (Nat.le_refl _)).1
  rw [hz] at HL0
  obtain ⟨T, hT⟩ : ∃ T, al [] s.data.toList = T := ⟨_, rfl⟩
  have HT : Hid (al [] s.data.toList = T) := hT
  rw [hT] at HL0 ⊢
  clear hT
  go_enter Tryz.func27, Tryz.ntmps27
  go_wp2
  go_loopw [3, 4, 5] (fun r x y wr => ∃ (f i : Nat) (acc : List (List UInt8)), x = .int .i64 (f : Int) ∧ y = .int .i64 (i : Int) ∧ f ≤ i ∧ i ≤ s.size ∧ sr.OwnS w.heap.size wr r acc ∧ T = acc ++ al (s.extract f i).data.toList (s.data.toList.drop i) ∧ Below w.heap.size w wr) (fun _ _ y _ => s.size - (intOf y).toNat)
  case atStart => exact ⟨0, 0, [], rfl, rfl, Nat.le_refl _, by omega, HO0.out, by rw [← HT.out, ext_bytes]; simp, (Below.refl _ _).alloc (Nat.le_refl _) _⟩
  case round =>
    obtain ⟨f, i, acc, rfl, rfl, hfi, hi, hown, hTT, hbel⟩ := hrel
    have HOW : Hid (sr.OwnS w.heap.size wr u3 acc) := hown
    have HBE : Hid (Below w.heap.size w wr) := hbel
    have hacc : acc.length ≤ 2001 := by have := congrArg List.length hTT; rw [List.length_append] at this; omega
    have HTT : Hid (T = acc ++ al (s.extract f i).data.toList (s.data.toList.drop i)) := hTT
    have f0 : (0 : Int) ≤ (f : Int) := by omega
    have f1 : (f : Int) ≤ (i : Int) := by omega
    have f2 : (i : Int) ≤ (s.size : Int) := by omega
    have f3 : (f : Int) ≤ (s.size : Int) := by omega
    clear hTT hown
    by_cases hlt : i + 1 < s.size
    · have hlt' : (i : Int) + 1 < (s.size : Int) := by omega
      have k2 : (i : Int) + 2 ≤ (s.size : Int) := by omega
      by_cases hp : s[i] = 124 ∧ s[i + 1] = 124
      · have he : (s.extract i (i + 2)).toList = [124, 124] := by rw [two_ext hlt, hp.1, hp.2]
        have HN : Hid (T = acc ++ [(s.extract f i).data.toList] ++ al (s.extract (i + 2) (i + 2)).data.toList (s.data.toList.drop (i + 2))) := by show _ = _; rw [HTT.out, al_two hlt, if_pos hp, ext_bytes s (i + 2) (i + 2)]; simp
        obtain ⟨E, hE⟩ : ∃ E, s.extract i (i + 2) = E := ⟨_, rfl⟩
        rw [hE] at he
        clear hp
        go_wp2_with (first
          | (at_builtin; refine sv.app_text _ rfl _ _ rfl w.heap.size _ acc rfl ⟨HOW.out.1.alloc _, HOW.out.2⟩ ⟨_, 0, none⟩ 1 1 [(s.extract f i).data.toList] rfl rfl (sv.one_str _ (strL_b _)) (by omega) (by have := HBE.out.size; simp; omega) ?_; intro v4 w4 hown4 hg4 hat4; have HB4 : Hid (Below w.heap.size w w4) := below_grown (HBE.out.alloc HBE.out.size _) (HOW.out.1.alloc _) hg4 (by have := HBE.out.size; simp; omega); clear hg4 hat4)
          | go_in)
        go_roundw
        case rel => exact ⟨i + 2, i + 2, acc ++ [(s.extract f i).data.toList], by go_num, by go_num, Nat.le_refl _, by omega, hown4, HN.out, HB4.out⟩
        case measure => simp [intOf]; omega
      · have he : ((s.extract i (i + 2)).toList == [124, 124]) = false := by rw [two_ext hlt]; simpa using hp
        have HN : Hid (T = acc ++ al (s.extract f (i + 1)).data.toList (s.data.toList.drop (i + 1))) := by
          show _ = _
          rw [HTT.out, al_two hlt, if_neg hp, ext_bytes, ext_bytes, cur_more (k := 1) hfi (by omega), drop_cons (show i < s.size by omega)]
          rfl
        obtain ⟨E, hE⟩ : ∃ E, s.extract i (i + 2) = E := ⟨_, rfl⟩
        rw [hE] at he
        clear hp
        go_wp2
        go_roundw
        case rel => exact ⟨f, i + 1, acc, by first | rfl | trivial, by go_num, by omega, by omega, HOW.out, HN.out, HBE.out⟩
        case measure => simp [intOf]; omega
    · have hlt' : ¬ (i : Int) + 1 < (s.size : Int) := by omega
      have HN : Hid (T = acc ++ [(s.extract f s.size).data.toList]) := by
        show _ = _
        rw [HTT.out, al_last hlt, ext_bytes, ext_bytes]
        congr 2
        have := cur_more (s := s) (pos := i) (a := f) (k := s.size - i) hfi (by omega)
        rw [show i + (s.size - i) = s.size by omega] at this
        rw [this]
        congr 1
        rw [List.take_of_length_le (by rw [List.length_drop, hz]; omega)]
      go_wp2_with (first
        | (at_builtin; refine sv.app_text _ rfl _ _ rfl w.heap.size _ acc rfl ⟨HOW.out.1.alloc _, HOW.out.2⟩ ⟨_, 0, none⟩ 1 1 [(s.extract f s.size).data.toList] rfl rfl (sv.one_str _ (strL_b _)) (by omega) (by have := HBE.out.size; simp; omega) ?_; intro v4 w4 hown4 hg4 hat4; have HB4 : Hid (Below w.heap.size w w4) := below_grown (HBE.out.alloc HBE.out.size _) (HOW.out.1.alloc _) hg4 (by have := HBE.out.size; simp; omega); clear hg4 hat4)
        | go_in)
      go_ret
      exact ⟨_, rfl, by rw [HN.out]; exact hown4, HB4.out⟩

end Go.Proofs.YtimcocmjmlejfaaGreatDoor.rc
