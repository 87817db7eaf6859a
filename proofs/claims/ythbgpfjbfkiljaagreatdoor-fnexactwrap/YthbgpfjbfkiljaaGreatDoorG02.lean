import Derived.Test.YthbgpfjbfkiljaaGreatDoorG01
import Derived.BigQuiet
import Derived.Deep.QuietTactic
import Derived.Lib.Hide
import Derived.LaidLaws
import Derived.ChangeArms
import Derived.ChangeSame
import Derived.Deep.Slices
import Derived.Deep.RegionWith
set_option linter.unusedVariables false
set_option linter.unusedSimpArgs false
set_option maxRecDepth 100000
set_option maxHeartbeats 16000000
namespace Go.Proofs.YthbgpfjbfkiljaaGreatDoor.tt
open Go.ChangeShapes Go.WideShapes Go.ChangeAt Go.RowKit Go.Deep
theorem bytes_ext (s : ByteArray) (a b : Nat) : (s.extract a b).data.toList = (s.data.toList.drop a).take (b - a) := by
 simp [ByteArray.data_extract, List.take_drop]
theorem drop_one {s : ByteArray} {pos : Nat} (h : pos < s.size) : s.data.toList.drop pos = s[pos] :: s.data.toList.drop (pos + 1) := by
 rw [List.drop_eq_getElem_cons (by simpa using h)]
 rfl
theorem ext_more {s : ByteArray} {a i : Nat} (ha : a ≤ i) (hi : i < s.size) : (s.extract a (i + 1)).data.toList = (s.extract a i).data.toList ++ [s[i]] := by
 rw [bytes_ext, bytes_ext, show i + 1 - a = (i - a) + 1 by omega, List.take_add, List.drop_drop, show a + (i - a) = i by omega, drop_one hi]
 rfl
theorem name_ext (s : ByteArray) (a b : Nat) : nm.nameB (s.extract a b) = nameL (s.extract a b).data.toList := by
 unfold nameL
 congr 1
theorem strL_b (B : ByteArray) : sr.strL B.data.toList = .string B := sr.strL_of B
theorem names_any (s : ByteArray) (hs : s.size ≤ 1048576) (w : World) :
  Calls Tryz.prog 116 #[.string s] w fun e w' => (∃ v, e = .returned (.tuple #[v, .bool (pOk s)])) ∧ Below w.heap.size w w' := by
 have hz : s.data.toList.length = s.size := by simp
 have HO0 := Lib.hid (sv.own_zeroS w)
 have HP0 : Hid (pOk s = pk 0 (s.extract 0 0).data.toList (s.data.toList.drop 0)) := by show _ = _; unfold pOk; rw [bytes_ext]; rfl
 obtain ⟨R, hR⟩ : ∃ R, pOk s = R := ⟨_, rfl⟩
 rw [hR] at HP0 ⊢
 clear hR
 go_enter Tryz.func116, Tryz.ntmps116
 go_wp2
 go_loopw [4, 5, 6] (fun r x y wr => ∃ (f i : Nat) (acc : List (List UInt8)), x = .int .i64 (f : Int) ∧ y = .int .i64 (i : Int) ∧ i ≤ s.size + 1 ∧ acc.length ≤ 8 ∧ sr.OwnS w.heap.size wr r acc ∧ (i ≤ s.size ∧ f ≤ i ∧ R = pk acc.length (s.extract f i).data.toList (s.data.toList.drop i) ∨ i = s.size + 1 ∧ R = true) ∧ Below w.heap.size w wr) (fun _ _ y _ => s.size + 1 - (intOf y).toNat)
 case atStart => exact ⟨0, 0, [], rfl, rfl, by omega, by simp, HO0.out, .inl ⟨by omega, Nat.le_refl _, HP0.out⟩, (Below.refl _ _).alloc (Nat.le_refl _) _⟩
 case round =>
  obtain ⟨f, i, acc, rfl, rfl, hi, hac, hown, hst, hbel⟩ := hrel
  have HOW := Lib.hid hown
  have HBE : Hid (Below w.heap.size w wr) := hbel
  obtain ⟨ra, rc, hu⟩ := own_shape hown.1
  clear hown hbel
  by_cases hend : i = s.size + 1
  ·have HE : Hid (R = true) := by
    rcases hst with ⟨h, _⟩ | ⟨_, h⟩
    ·omega
    ·exact h
   have hc : ¬ (i : Int) ≤ (s.size : Int) := by omega
   clear hst
   go_wp2
   go_ret2
   have hRR := HE.out
   subst hRR
   exact ⟨⟨_, rfl⟩, HBE.out⟩
  have hle : i ≤ s.size := by omega
  have hle' : (i : Int) ≤ (s.size : Int) := by omega
  obtain ⟨hfi, hR⟩ : f ≤ i ∧ R = pk acc.length (s.extract f i).data.toList (s.data.toList.drop i) := by
   rcases hst with ⟨_, h1, h2⟩ | ⟨h, _⟩
   ·exact ⟨h1, h2⟩
   ·omega
  have HR := Lib.hid hR
  have f0 : (0 : Int) ≤ (f : Int) := by omega
  have f1 : (f : Int) ≤ (i : Int) := by omega
  have f2 : (f : Int) ≤ (s.size : Int) := by omega
  have HNM : Hid (∀ W, Calls Tryz.prog 47 #[.string (s.extract f i)] W fun e w' => e = .returned (.bool (nameL (s.extract f i).data.toList)) ∧ w' = W) := fun W => by
   have := nm.spec_any (s.extract f i) (by simp; omega) W
   rwa [name_ext] at this
  obtain ⟨X, hX⟩ : ∃ X, s.extract f i = X := ⟨_, rfl⟩
  have HX : Hid (s.extract f i = X) := hX
  rw [hX] at HNM
  clear hst hR
  -- a piece ends
  have HSTEP : Hid (∀ b, nameL X.data.toList = b → (b && decide (acc.length < 8)) = false → (i = s.size ∨ ∃ h : i < s.size, s[i] = 47) → R = false) := fun b hb h0 h1 => by
   rw [HR.out, hX]
   rcases h1 with rfl | ⟨h, h47⟩
   ·rw [List.drop_of_length_le (by omega), pk, hb, h0]
   ·rw [drop_one h, pk, if_pos h47, hb, h0]; rfl
  by_cases hsep : i = s.size ∨ ∃ h : i < s.size, s[i] = 47
  ·cases hnb : nameL X.data.toList with
   | false =>
    rw [hnb] at HNM
    have HF : Hid (R = false) := HSTEP.out false hnb rfl hsep
    clear hnb HSTEP
    rcases hsep with rfl | ⟨hlt, h47⟩
    ·go_wp2_with (go_at_call 47; refine (HNM.out _).mono ?_; rintro e w2 ⟨rfl, hw2⟩; obtain rfl := hw2.symm; clear hw2)
     go_ret2
     have hRR := HF.out
     subst hRR
     exact ⟨⟨_, rfl⟩, HBE.out⟩
    ·have hlt' : (i : Int) < (s.size : Int) := by omega
     have hne : ¬ (i : Int) = (s.size : Int) := by omega
     have hbi : (s[i].toNat : Int) = 47 := by rw [h47]; rfl
     clear h47
     go_wp2_with (go_at_call 47; refine (HNM.out _).mono ?_; rintro e w2 ⟨rfl, hw2⟩; obtain rfl := hw2.symm; clear hw2)
     go_ret2
     have hRR := HF.out
     subst hRR
     exact ⟨⟨_, rfl⟩, HBE.out⟩
   | true =>
    rw [hnb] at HNM
    by_cases hc8 : acc.length = 8
    ·have hc8' : (acc.length : Int) = 8 := by omega
     have HF : Hid (R = false) := HSTEP.out true hnb (by simp; omega) hsep
     subst hu
     clear hnb HSTEP
     rcases hsep with rfl | ⟨hlt, h47⟩
     ·go_wp2_with (go_at_call 47; refine (HNM.out _).mono ?_; rintro e w2 ⟨rfl, hw2⟩; obtain rfl := hw2.symm; clear hw2)
      go_ret2
      have hRR := HF.out
      subst hRR
      exact ⟨⟨_, rfl⟩, HBE.out⟩
     ·have hlt' : (i : Int) < (s.size : Int) := by omega
      have hne : ¬ (i : Int) = (s.size : Int) := by omega
      have hbi : (s[i].toNat : Int) = 47 := by rw [h47]; rfl
      clear h47
      go_wp2_with (go_at_call 47; refine (HNM.out _).mono ?_; rintro e w2 ⟨rfl, hw2⟩; obtain rfl := hw2.symm; clear hw2)
      go_ret2
      have hRR := HF.out
      subst hRR
      exact ⟨⟨_, rfl⟩, HBE.out⟩
    ·have hc8' : ¬ (acc.length : Int) = 8 := by omega
     have hc7 : acc.length < 8 := by omega
     have HNX := Lib.hid hnb
     subst hu
     clear hnb HSTEP hc8
     rcases hsep with rfl | ⟨hlt, h47⟩
     ·have HN : Hid (R = true) := by
       show _ = _
       rw [HR.out, HX.out, List.drop_of_length_le (by omega), pk, HNX.out]
       simpa using hc7
      go_wp2_with (first
       | (go_at_call 47; refine (HNM.out _).mono ?_; rintro e w2 ⟨rfl, hw2⟩; obtain rfl := hw2.symm; clear hw2)
       | (at_builtin; refine sv.app_text _ rfl _ _ rfl w.heap.size _ acc rfl ⟨HOW.out.1.alloc _, HOW.out.2⟩ ⟨_, 0, none⟩ 1 1 [X.data.toList] rfl rfl (sv.one_str _ (strL_b X)) (by omega) (by have := HBE.out.size; simp; omega) ?_; intro v4 w4 hown4 hg4 hat4; have HB4 : Hid (Below w.heap.size w w4) := below_grown (HBE.out.alloc HBE.out.size _) (HOW.out.1.alloc _) hg4 (by have := HBE.out.size; simp; omega); clear hg4 hat4)
       | go_in)
      go_roundw
      case rel => exact ⟨s.size + 1, s.size + 1, acc ++ [X.data.toList], by go_num, by go_num, by omega, by simp; omega, hown4, .inr ⟨rfl, HN.out⟩, HB4.out⟩
      case measure => simp [intOf]
     ·have hlt' : (i : Int) < (s.size : Int) := by omega
      have hne : ¬ (i : Int) = (s.size : Int) := by omega
      have hbi : (s[i].toNat : Int) = 47 := by rw [h47]; rfl
      have HN : Hid (R = pk (acc ++ [X.data.toList]).length (s.extract (i + 1) (i + 1)).data.toList (s.data.toList.drop (i + 1))) := by
       show _ = _
       rw [HR.out, HX.out, drop_one hlt, pk, if_pos h47, HNX.out, bytes_ext s (i + 1) (i + 1)]
       simp [hc7]
      clear h47
      go_wp2_with (first
       | (go_at_call 47; refine (HNM.out _).mono ?_; rintro e w2 ⟨rfl, hw2⟩; obtain rfl := hw2.symm; clear hw2)
       | (at_builtin; refine sv.app_text _ rfl _ _ rfl w.heap.size _ acc rfl ⟨HOW.out.1.alloc _, HOW.out.2⟩ ⟨_, 0, none⟩ 1 1 [X.data.toList] rfl rfl (sv.one_str _ (strL_b X)) (by omega) (by have := HBE.out.size; simp; omega) ?_; intro v4 w4 hown4 hg4 hat4; have HB4 : Hid (Below w.heap.size w w4) := below_grown (HBE.out.alloc HBE.out.size _) (HOW.out.1.alloc _) hg4 (by have := HBE.out.size; simp; omega); clear hg4 hat4)
       | go_in)
      go_roundw
      case rel => exact ⟨i + 1, i + 1, acc ++ [X.data.toList], by go_num, by go_num, by omega, by simp; omega, hown4, .inl ⟨by omega, Nat.le_refl _, HN.out⟩, HB4.out⟩
      case measure => simp [intOf]; omega
  ·have hlt : i < s.size := by
    rcases Nat.lt_or_ge i s.size with h | h
    ·exact h
    ·exact absurd (.inl (by omega)) hsep
   have h47 : ¬ s[i] = 47 := fun e => hsep (.inr ⟨hlt, e⟩)
   have hlt' : (i : Int) < (s.size : Int) := by omega
   have hne : ¬ (i : Int) = (s.size : Int) := by omega
   have hbn : ¬ s[i].toNat = 47 := fun e => h47 (UInt8.toNat.inj e)
   have hbi : ¬ (s[i].toNat : Int) = 47 := by omega
   have hbb : ((s[i].toNat : Int) == 47) = false := by simpa using hbi
   have HN : Hid (R = pk acc.length (s.extract f (i + 1)).data.toList (s.data.toList.drop (i + 1))) := by
    show _ = _
    rw [HR.out, drop_one hlt, pk, if_neg h47, ext_more hfi hlt]
   subst hu
   clear h47 hbn hsep HSTEP hX
   go_wp2
   go_roundw
   case rel => exact ⟨f, i + 1, acc, by first | rfl | trivial, by go_num, by omega, hac, HOW.out, .inl ⟨by omega, by omega, HN.out⟩, HBE.out⟩
   case measure => simp [intOf]; omega
end Go.Proofs.YthbgpfjbfkiljaaGreatDoor.tt

set_option linter.unusedVariables false
set_option linter.unusedSimpArgs false
set_option maxRecDepth 100000
set_option maxHeartbeats 16000000
namespace Go.Proofs.YthbgpfjbfkiljaaGreatDoor.tt
open Go.ChangeShapes Go.WideShapes Go.ChangeAt Go.RowKit Go.Deep
theorem emp_size {d : ByteArray} : d.toList.isEmpty = decide (d.size = 0) := by
 have hz : d.data.toList.length = d.size := by simp
 rw [ByteArray.toList_eq]
 cases h : d.data.toList with
 | nil => rw [h] at hz; simp at hz; simp [← hz]
 | cons a l =>
  have hne : ¬ d.size = 0 := by rw [h, List.length_cons] at hz; omega
  simp [hne]
def eV (e : En) : Value := .agg #[.string e.path, .int .i64 e.kind, .string e.data, .bool e.exec]
theorem entry_any (e : En) (hp : e.path.size ≤ 1048576) (hd : e.data.size ≤ 1048576) (w : World) :
  Calls Tryz.prog 82 #[eV e] w fun r w' => r = .returned (.bool (eOk e)) ∧ Below w.heap.size w w' := by
 obtain ⟨p, k, d, x⟩ := e
 unfold eV
 simp only at hp hd ⊢
 have HNM := Lib.hid fun (W : World) => names_any p hp W
 obtain ⟨R, hR⟩ : ∃ R, eOk ⟨p, k, d, x⟩ = R := ⟨_, rfl⟩
 have HR : Hid (R = (pOk p && cOk ⟨p, k, d, x⟩)) := by show _ = _; rw [← hR]; rfl
 have HEM : Hid (d.toList.isEmpty = decide (d.size = 0)) := emp_size
 rw [hR]
 have B0 : Below w.heap.size w (w.alloc (.cells #[.string p, .int .i64 k, .string d, .bool x] 62)) := (Below.refl _ _).alloc (Nat.le_refl _) _
 have HB0 := Lib.hid B0
 have HCC : Hid (∀ W : World, Below (w.alloc (.cells #[.string p, .int .i64 k, .string d, .bool x] 62)).heap.size (w.alloc (.cells #[.string p, .int .i64 k, .string d, .bool x] 62)) W → W.cell? ⟨w.heap.size, 1, none⟩ = some (.int .i64 k) ∧ W.cell? ⟨w.heap.size, 2, none⟩ = some (.string d) ∧ W.cell? ⟨w.heap.size, 3, none⟩ = some (.bool x)) := fun W hb => by
  refine ⟨(hb.cell (p := ⟨w.heap.size, 1, none⟩) (by simp)).trans (by simp [go_sem]), (hb.cell (p := ⟨w.heap.size, 2, none⟩) (by simp)).trans (by simp [go_sem]), (hb.cell (p := ⟨w.heap.size, 3, none⟩) (by simp)).trans (by simp [go_sem])⟩
 clear hR B0
 cases hpk : pOk p with
 | false =>
  rw [hpk] at HNM HR
  clear hpk
  go_enter Tryz.func82, Tryz.ntmps82
  go_wp2_with (go_at_call 116; refine (HNM.out _).mono ?_; rintro e w2 ⟨⟨v2, rfl⟩, hl2⟩; obtain ⟨c1, c2, c3⟩ := HCC.out w2 hl2)
  go_ret
  exact ⟨by rw [HR.out]; rfl, HB0.out.trans (hl2.mono (by simp))⟩
 | true =>
  rw [hpk] at HNM HR
  clear hpk
  by_cases hbig : 20000 < d.size
  ·have hbig' : (20000 : Int) < (d.size : Int) := by omega
   have HF : Hid (R = false) := by show _ = _; rw [HR.out]; unfold cOk; simp; omega
   go_enter Tryz.func82, Tryz.ntmps82
   go_wp2_with (go_at_call 116; refine (HNM.out _).mono ?_; rintro e w2 ⟨⟨v2, rfl⟩, hl2⟩; obtain ⟨c1, c2, c3⟩ := HCC.out w2 hl2)
   go_ret
   exact ⟨by rw [HF.out]; first | done | rfl, HB0.out.trans (hl2.mono (by simp))⟩
  have hbig' : ¬ (20000 : Int) < (d.size : Int) := by omega
  have hsm : decide (d.size ≤ 20000) = true := by simpa using (by omega : d.size ≤ 20000)
  have HC : Hid (R = (if k = 1 then decide (d.size = 0) && !x else if k = 2 then true else decide (k = 3) && !decide (d.size = 0) && !x)) := by show _ = _; rw [HR.out]; unfold cOk; simp [hsm]
  clear HR hsm
  cases hem : d.toList.isEmpty with
  | true =>
   have hz : d.size = 0 := by have := HEM.out; rw [hem] at this; simpa using this.symm
   have HZ : Hid (d.size = 0) := hz
   clear hz HEM hbig
   by_cases k1 : k = 1
   ·subst k1
    cases x <;> (
     go_enter Tryz.func82, Tryz.ntmps82
     go_wp2_with (go_at_call 116; refine (HNM.out _).mono ?_; rintro e w2 ⟨⟨v2, rfl⟩, hl2⟩; obtain ⟨c1, c2, c3⟩ := HCC.out w2 hl2)
     go_ret
     exact ⟨by rw [HC.out, HZ.out]; rfl, HB0.out.trans (hl2.mono (by simp))⟩)
   ·by_cases k2 : k = 2
    ·subst k2
     go_enter Tryz.func82, Tryz.ntmps82
     go_wp2_with (go_at_call 116; refine (HNM.out _).mono ?_; rintro e w2 ⟨⟨v2, rfl⟩, hl2⟩; obtain ⟨c1, c2, c3⟩ := HCC.out w2 hl2)
     go_ret
     exact ⟨by rw [HC.out]; rfl, HB0.out.trans (hl2.mono (by simp))⟩
    ·by_cases k3 : k = 3
     ·subst k3
      go_enter Tryz.func82, Tryz.ntmps82
      go_wp2_with (go_at_call 116; refine (HNM.out _).mono ?_; rintro e w2 ⟨⟨v2, rfl⟩, hl2⟩; obtain ⟨c1, c2, c3⟩ := HCC.out w2 hl2)
      go_ret
      exact ⟨by rw [HC.out, HZ.out]; rfl, HB0.out.trans (hl2.mono (by simp))⟩
     ·have HF : Hid (R = false) := by show _ = _; rw [HC.out, if_neg k1, if_neg k2]; simp [k3]
      clear HC
      go_enter Tryz.func82, Tryz.ntmps82
      go_wp2_with (go_at_call 116; refine (HNM.out _).mono ?_; rintro e w2 ⟨⟨v2, rfl⟩, hl2⟩; obtain ⟨c1, c2, c3⟩ := HCC.out w2 hl2)
      go_ret
      exact ⟨by rw [HF.out]; first | done | rfl, HB0.out.trans (hl2.mono (by simp))⟩
  | false =>
   have hz : decide (d.size = 0) = false := by have := HEM.out; rw [hem] at this; exact this.symm
   have HZ := Lib.hid hz
   clear hz HEM hbig
   by_cases k1 : k = 1
   ·subst k1
    go_enter Tryz.func82, Tryz.ntmps82
    go_wp2_with (go_at_call 116; refine (HNM.out _).mono ?_; rintro e w2 ⟨⟨v2, rfl⟩, hl2⟩; obtain ⟨c1, c2, c3⟩ := HCC.out w2 hl2)
    go_ret
    exact ⟨by rw [HC.out, HZ.out]; rfl, HB0.out.trans (hl2.mono (by simp))⟩
   ·by_cases k2 : k = 2
    ·subst k2
     go_enter Tryz.func82, Tryz.ntmps82
     go_wp2_with (go_at_call 116; refine (HNM.out _).mono ?_; rintro e w2 ⟨⟨v2, rfl⟩, hl2⟩; obtain ⟨c1, c2, c3⟩ := HCC.out w2 hl2)
     go_ret
     exact ⟨by rw [HC.out]; rfl, HB0.out.trans (hl2.mono (by simp))⟩
    ·by_cases k3 : k = 3
     ·subst k3
      cases x <;> (
       go_enter Tryz.func82, Tryz.ntmps82
       go_wp2_with (go_at_call 116; refine (HNM.out _).mono ?_; rintro e w2 ⟨⟨v2, rfl⟩, hl2⟩; obtain ⟨c1, c2, c3⟩ := HCC.out w2 hl2)
       go_ret
       exact ⟨by rw [HC.out, HZ.out]; rfl, HB0.out.trans (hl2.mono (by simp))⟩)
     ·have HF : Hid (R = false) := by show _ = _; rw [HC.out, if_neg k1, if_neg k2]; simp [k3]
      clear HC
      go_enter Tryz.func82, Tryz.ntmps82
      go_wp2_with (go_at_call 116; refine (HNM.out _).mono ?_; rintro e w2 ⟨⟨v2, rfl⟩, hl2⟩; obtain ⟨c1, c2, c3⟩ := HCC.out w2 hl2)
      go_ret
      exact ⟨by rw [HF.out]; first | done | rfl, HB0.out.trans (hl2.mono (by simp))⟩
theorem at_byte {s : ByteArray} {i : Nat} (h : i < s.size) : s.data.toList[i]? = some s[i] := by
 rw [List.getElem?_eq_getElem (by simpa using h)]
 rfl
theorem take_ext {s : ByteArray} {i : Nat} (h : i ≤ s.size) : s.extract 0 i = ⟨(s.data.toList.take i).toArray⟩ := by
 apply ByteArray.ext
 apply Array.toList_inj.1
 rw [bytes_ext]
 simp
theorem up_any (s : ByteArray) (hs : s.size ≤ 1048576) (w : World) :
  Calls Tryz.prog 81 #[.string s] w fun e w' => e = .returned (.string ⟨(up s.data.toList).toArray⟩) ∧ Below w.heap.size w w' := by
 have hz : s.data.toList.length = s.size := by simp
 go_enter Tryz.func81, Tryz.ntmps81
 go_wp2
 go_loopw [3] (fun x wr => ∃ k : Nat, k ≤ s.size ∧ x = .int .i64 ((k : Int) - 1) ∧ (∀ j : Nat, k ≤ j → s.data.toList[j]? ≠ some (47 : UInt8)) ∧ wr = w) (fun x _ => (intOf x + 1).toNat)
 case atStart => exact ⟨s.size, Nat.le_refl _, by go_num, fun j hj => by rw [List.getElem?_eq_none (by omega)]; simp, rfl⟩
 case round =>
  obtain ⟨k, hk, rfl, hno, rfl⟩ := hrel
  have HNO := Lib.hid hno
  clear hno
  by_cases hk0 : k = 0
  ·have HU : Hid (up s.data.toList = []) := by
    show _ = _
    unfold up
    rw [lst_no (fun j => HNO.out j (by omega))]
   subst hk0
   go_wp2
   go_ret
   exact ⟨by rw [HU.out]; first | done | rfl, Below.refl _ _⟩
  ·obtain ⟨K, rfl⟩ : ∃ K, k = K + 1 := ⟨k - 1, by omega⟩
   have hK1 : ((K + 1 : Nat) : Int) - 1 = (K : Int) := by omega
   have hK0 : (0 : Int) ≤ (K : Int) := by omega
   have hK2 : (K : Int) < (s.size : Int) := by omega
   have hK3 : (K : Int) ≤ (s.size : Int) := by omega
   have hlt : K < s.size := by omega
   rw [hK1]
   by_cases h47 : s[K] = 47
   ·have hbi : (s[K].toNat : Int) = 47 := by rw [h47]; rfl
    have HU : Hid (up s.data.toList = s.data.toList.take K) := by
     show _ = _
     unfold up
     rw [lst_of (i := K) (by rw [at_byte hlt, h47]) (fun j hj => HNO.out j (by omega))]
    have HE : Hid (s.extract 0 K = ⟨(s.data.toList.take K).toArray⟩) := take_ext (by omega)
    clear h47
    go_wp2
    go_ret
    exact ⟨by rw [HU.out, ← HE.out]; first | done | rfl, Below.refl _ _⟩
   ·have hbn : ¬ s[K].toNat = 47 := fun e => h47 (UInt8.toNat.inj e)
    have hbi : ¬ (s[K].toNat : Int) = 47 := by omega
    have hbb : ((s[K].toNat : Int) == 47) = false := by simpa using hbi
    have HN : Hid (∀ j : Nat, K ≤ j → s.data.toList[j]? ≠ some (47 : UInt8)) := fun j hj e => by
     rcases Nat.lt_or_ge K j with h | h
     ·exact HNO.out j h e
     ·obtain rfl : j = K := by omega
      rw [at_byte hlt] at e
      exact h47 (Option.some.inj e)
    clear h47 hbn
    go_wp2
    go_roundw
    case rel => exact ⟨K, by omega, by first | rfl | go_num, HN.out, by first | rfl | trivial⟩
    case measure => simp [intOf] <;> omega
end Go.Proofs.YthbgpfjbfkiljaaGreatDoor.tt

set_option linter.unusedVariables false
set_option linter.unusedSimpArgs false
set_option maxRecDepth 100000
set_option maxHeartbeats 16000000
namespace Go.Proofs.YthbgpfjbfkiljaaGreatDoor.tt
open Go.ChangeShapes Go.WideShapes Go.ChangeAt Go.RowKit Go.Deep
theorem bl (x y : ByteArray) : Op.bytesLess x.toList y.toList = decide (x.data.toList < y.data.toList) := by rw [ByteArray.toList_eq, ByteArray.toList_eq, Go.Proofs.bytesLess_eq]
def N4 (w : World) (b o : Nat) (e : En) : Prop := w.cell? ⟨b, o, none⟩ = some (.string e.path) ∧ w.cell? ⟨b, o + 1, none⟩ = some (.int .i64 e.kind) ∧ w.cell? ⟨b, o + 2, none⟩ = some (.string e.data) ∧ w.cell? ⟨b, o + 3, none⟩ = some (.bool e.exec)
theorem N4.below {w w' : World} {b o : Nat} {e : En} (h : N4 w b o e) (hb : Below w.heap.size w w') : N4 w' b o e := by
 have hlt : b < w.heap.size := World.block_lt_of_cell? _ _ h.1
 exact ⟨(hb.cell (p := ⟨b, _, none⟩) hlt).trans h.1, (hb.cell (p := ⟨b, _, none⟩) hlt).trans h.2.1, (hb.cell (p := ⟨b, _, none⟩) hlt).trans h.2.2.1, (hb.cell (p := ⟨b, _, none⟩) hlt).trans h.2.2.2⟩
def EnR (w : World) (b o n : Nat) (E : Nat → En) : Prop := ∀ i, i < n → N4 w b (o + i * 4) (E i)
theorem EnR.below {w w' : World} {b o n : Nat} {E : Nat → En} (h : EnR w b o n E) (hb : Below w.heap.size w w') : EnR w' b o n E := fun i hi => (h i hi).below hb
def SmE (n : Nat) (E : Nat → En) : Prop := ∀ i, i < n → (E i).path.size ≤ 1048576 ∧ (E i).data.size ≤ 1048576
noncomputable def dirB (E : Nat → En) (n : Nat) (p : List UInt8) : Bool := @decide (Dir E n p) (Classical.propDecidable _)
theorem dirB_yes {E : Nat → En} {n : Nat} {p : List UInt8} (h : Dir E n p) : dirB E n p = true := by unfold dirB; exact @decide_eq_true _ (Classical.propDecidable _) h
theorem dirB_no {E : Nat → En} {n : Nat} {p : List UInt8} (h : ¬ Dir E n p) : dirB E n p = false := by unfold dirB; exact @decide_eq_false _ (Classical.propDecidable _) h
theorem dirB_iff {E : Nat → En} {n : Nat} {p : List UInt8} : dirB E n p = true ↔ Dir E n p := by unfold dirB; exact @decide_eq_true_iff _ (Classical.propDecidable _)
noncomputable def treeB (E : Nat → En) (n : Nat) : Bool := @decide (n ≤ 500 ∧ Tr E n) (Classical.propDecidable _)
theorem treeB_yes {E : Nat → En} {n : Nat} (h : n ≤ 500) (h2 : Tr E n) : treeB E n = true := by unfold treeB; exact @decide_eq_true _ (Classical.propDecidable _) ⟨h, h2⟩
theorem treeB_no {E : Nat → En} {n : Nat} (h : ¬ (n ≤ 500 ∧ Tr E n)) : treeB E n = false := by unfold treeB; exact @decide_eq_false _ (Classical.propDecidable _) h
def Fnd (E : Nat → En) (n : Nat) (p : List UInt8) (r : Int) : Prop := (∃ j : Nat, j < n ∧ pth E j = p ∧ r = (j : Int)) ∨ (∀ j, j < n → pth E j ≠ p) ∧ r = -1
theorem find_any (E : Nat → En) (b o n cap : Nat) (q : ByteArray) (w : World) (hR : EnR w b o n E) (hA : Asc E n) (hn : n ≤ 1048576) (hcap : n ≤ cap) :
  Calls Tryz.prog 50 #[.slice (some ⟨b, o, none⟩) n cap, .string q] w fun e w' => (∃ r : Int, e = .returned (.int .i64 r) ∧ Fnd E n q.data.toList r) ∧ Below w.heap.size w w' := by
 have HR : Hid (EnR w b o n E) := hR
 have HA : Hid (Asc E n) := hA
 clear hR hA
 go_enter Tryz.func50, Tryz.ntmps50
 go_wp2
 go_loopw [5, 6, 7] (fun x y _ wr => ∃ lo hi : Nat, x = .int .i64 (lo : Int) ∧ y = .int .i64 (hi : Int) ∧ lo ≤ hi ∧ hi ≤ n ∧ (∀ j, j < lo → pth E j < q.data.toList) ∧ (∀ j, hi ≤ j → j < n → ¬ pth E j < q.data.toList) ∧ wr = w) (fun x y _ _ => (intOf y - intOf x).toNat)
 case atStart => exact ⟨0, n, rfl, rfl, Nat.zero_le _, Nat.le_refl _, fun j h => by omega, fun j h h2 => by omega, rfl⟩
 case round =>
  obtain ⟨lo, hi, rfl, rfl, hlh, hhn, h1, h2, rfl⟩ := hrel
  have H1 := Lib.hid h1
  have H2 := Lib.hid h2
  clear h1 h2
  by_cases hl : lo < hi
  ·have hl' : (lo : Int) < (hi : Int) := by omega
   obtain ⟨m, hm⟩ : ∃ m : Nat, (lo + hi) / 2 = m := ⟨_, rfl⟩
   have hm1 : lo ≤ m := by omega
   have hm2 : m < hi := by omega
   have hmi : ((lo : Int) + (hi : Int)).tdiv 2 = (m : Int) := by rw [Int.tdiv_eq_ediv_of_nonneg (by omega)]; omega
   have hmi2 : ((lo : Int) + (hi : Int)) / 2 = (m : Int) := by omega
   have hm0 : (0 : Int) ≤ (m : Int) := by omega
   have hmn : (m : Int) < (n : Int) := by omega
   obtain ⟨c0, -, -, -⟩ := HR.out m (by omega)
   obtain ⟨M, hM⟩ : ∃ M, (E m).path = M := ⟨_, rfl⟩
   have hpm : pth E m = M.data.toList := by unfold pth; rw [hM]
   rw [hM] at c0
   have HPM : Hid (pth E m = M.data.toList) := hpm
   clear hm hM hpm
   by_cases hlt : M.data.toList < q.data.toList
   ·have hbl : Op.bytesLess M.toList q.toList = true := by rw [bl]; simpa using hlt
    have HN : Hid (∀ j, j < m + 1 → pth E j < q.data.toList) := fun j hj => by
     rcases Nat.lt_or_ge j m with h | h
     ·exact List.lt_trans (HA.out j m h (by omega)) (by rw [HPM.out]; exact hlt)
     ·obtain rfl : j = m := by omega
      rw [HPM.out]; exact hlt
    clear hlt
    go_wp2
    go_roundw
    case rel => exact ⟨m + 1, hi, by go_num, by first | rfl | trivial, by omega, hhn, HN.out, H2.out, by first | rfl | trivial⟩
    case measure => simp [intOf] <;> omega
   ·have hbl : Op.bytesLess M.toList q.toList = false := by rw [bl]; simpa using hlt
    have HN : Hid (∀ j, m ≤ j → j < n → ¬ pth E j < q.data.toList) := fun j hj hj2 h => by
     rcases Nat.lt_or_ge m j with h' | h'
     ·exact hlt (by rw [← HPM.out]; exact List.lt_trans (HA.out m j h' hj2) h)
     ·obtain rfl : j = m := by omega
      exact hlt (by rw [← HPM.out]; exact h)
    clear hlt
    go_wp2
    go_roundw
    case rel => exact ⟨lo, m, by first | rfl | trivial, by first | rfl | trivial | go_num, by omega, by omega, H1.out, HN.out, by first | rfl | trivial⟩
    case measure => simp [intOf] <;> omega
  ·have hl' : ¬ (lo : Int) < (hi : Int) := by omega
   obtain rfl : lo = hi := by omega
   by_cases hln : lo < n
   ·have hln' : (lo : Int) < (n : Int) := by omega
    have hl0 : (0 : Int) ≤ (lo : Int) := by omega
    obtain ⟨c0, -, -, -⟩ := HR.out lo hln
    obtain ⟨M, hM⟩ : ∃ M, (E lo).path = M := ⟨_, rfl⟩
    have HPM : Hid (pth E lo = M.data.toList) := by show _ = _; unfold pth; rw [hM]
    rw [hM] at c0
    clear hM
    by_cases he : M = q
    ·subst he
     go_wp2
     go_ret
     exact ⟨⟨_, rfl, .inl ⟨lo, hln, HPM.out, rfl⟩⟩, Below.refl _ _⟩
    ·have heb : (M.toList == q.toList) = false := by simpa [ByteArray.toList_eq] using fun e => he (ByteArray.ext (Array.toList_inj.1 e))
     have HF : Hid (∀ j, j < n → pth E j ≠ q.data.toList) := fun j hj e => by
      rcases Nat.lt_trichotomy j lo with h | h | h
      ·exact List.lt_irrefl _ (by have := H1.out j h; rwa [e] at this)
      ·subst h
       rw [HPM.out] at e
       exact he (ByteArray.ext (Array.toList_inj.1 e))
      ·exact H2.out lo (Nat.le_refl _) hln (by rw [← e]; exact HA.out lo j h hj)
     clear he
     go_wp2
     go_ret
     exact ⟨⟨_, rfl, .inr ⟨HF.out, rfl⟩⟩, Below.refl _ _⟩
   ·have hln' : ¬ (lo : Int) < (n : Int) := by omega
    have HF : Hid (∀ j, j < n → pth E j ≠ q.data.toList) := fun j hj e => List.lt_irrefl _ (by have := H1.out j (by omega); rwa [e] at this)
    go_wp2
    go_ret
    exact ⟨⟨_, rfl, .inr ⟨HF.out, rfl⟩⟩, Below.refl _ _⟩
theorem dir_any (E : Nat → En) (b o n cap : Nat) (q : ByteArray) (w : World) (hR : EnR w b o n E) (hA : Asc E n) (hn : n ≤ 1048576) (hcap : n ≤ cap) :
  Calls Tryz.prog 83 #[.slice (some ⟨b, o, none⟩) n cap, .string q] w fun e w' => e = .returned (.bool (dirB E n q.data.toList)) ∧ Below w.heap.size w w' := by
 have HFI := Lib.hid (find_any E b o n cap q w hR hA hn hcap)
 have HR : Hid (EnR w b o n E) := hR
 have HA : Hid (Asc E n) := hA
 clear hR hA
 go_enter Tryz.func83, Tryz.ntmps83
 go_wp2_with (go_at_call 50; refine HFI.out.mono ?_; rintro e w1 ⟨⟨r, rfl, hf⟩, hl1⟩; refine Hid.out ?_)
 refine Lib.hid ?_
 rcases hf with ⟨j, hj, hp, rfl⟩ | ⟨hno, rfl⟩
 ·have hj0 : (0 : Int) ≤ (j : Int) := by omega
  have hjn : (j : Int) < (n : Int) := by omega
  obtain ⟨-, c1, -, -⟩ := (HR.out j hj).below hl1
  have HD : Hid ((E j).kind = 1 ↔ Dir E n q.data.toList) := ⟨fun h => ⟨j, hj, hp, h⟩, fun ⟨i, hi, hpi, hk⟩ => by
   rcases Nat.lt_trichotomy i j with h | h | h
   ·exact absurd (HA.out i j h hj) (by rw [hpi, hp]; exact List.lt_irrefl _)
   ·rw [← h]; exact hk
   ·exact absurd (HA.out j i h hi) (by rw [hpi, hp]; exact List.lt_irrefl _)⟩
  obtain ⟨k, hk⟩ : ∃ k, (E j).kind = k := ⟨_, rfl⟩
  rw [hk] at c1 HD
  clear hp hk
  by_cases hk1 : k = 1
  ·have HD2 : Hid (Dir E n q.data.toList) := HD.out.1 hk1
   subst hk1
   go_wp2
   go_ret
   exact ⟨by rw [dirB_yes HD2.out]; first | done | rfl, hl1⟩
  ·have HD2 : Hid (¬ Dir E n q.data.toList) := fun h => hk1 (HD.out.2 h)
   go_wp2
   go_ret
   exact ⟨by rw [dirB_no HD2.out]; first | done | rfl | simp [hk1], hl1⟩
 ·have HD2 : Hid (¬ Dir E n q.data.toList) := fun ⟨i, hi, hpi, _⟩ => hno i hi hpi
  clear hno
  go_wp2
  go_ret
  exact ⟨by rw [dirB_no HD2.out]; first | done | rfl, hl1⟩
end Go.Proofs.YthbgpfjbfkiljaaGreatDoor.tt

set_option linter.unusedVariables false
set_option linter.unusedSimpArgs false
set_option maxRecDepth 100000
set_option maxHeartbeats 16000000
namespace Go.Proofs.YthbgpfjbfkiljaaGreatDoor.tt
open Go.ChangeShapes Go.WideShapes Go.ChangeAt Go.RowKit Go.Deep
def SrcE (w : World) (a : Option Addr) (n : Nat) (E : Nat → En) : Prop := n = 0 ∨ ∃ b o, a = some ⟨b, o, none⟩ ∧ EnR w b o n E
theorem SrcE.below {w w' : World} {a : Option Addr} {n : Nat} {E : Nat → En} (h : SrcE w a n E) (hb : Below w.heap.size w w') : SrcE w' a n E := by
 rcases h with h | ⟨b, o, e, h⟩
 ·exact .inl h
 ·exact .inr ⟨b, o, e, h.below hb⟩
theorem sz1_any (p d : ByteArray) (k : Int) (x : Bool) (left : Int) (hp : p.size ≤ maxLen) (hd : d.size ≤ maxLen) (hl : 0 ≤ left ∧ left ≤ 1048576) (w : World) :
  Calls Tryz.prog 110 #[.agg #[.string p, .int .i64 k, .string d, .bool x], .int .i64 left] w fun e w' => (∃ r : Int, e = .returned (.int .i64 r) ∧ (r = -1 ∨ 0 ≤ r ∧ r = left - (p.size : Int) - (d.size : Int))) ∧ Below w.heap.size w w' := by
 unfold maxLen at hp hd
 by_cases h1 : left - (p.size : Int) < 0
 ·go_enter Tryz.func110, Tryz.ntmps110
  go_wp2
  go_ret
  exact ⟨⟨-1, rfl, .inl rfl⟩, (Below.refl _ _).alloc (Nat.le_refl _) _⟩
 ·by_cases h2 : left - (p.size : Int) - (d.size : Int) < 0
  ·go_enter Tryz.func110, Tryz.ntmps110
   go_wp2
   go_ret
   exact ⟨⟨-1, rfl, .inl rfl⟩, (Below.refl _ _).alloc (Nat.le_refl _) _⟩
  ·go_enter Tryz.func110, Tryz.ntmps110
   go_wp2
   go_ret
   exact ⟨⟨_, rfl, .inr ⟨by omega, rfl⟩⟩, (Below.refl _ _).alloc (Nat.le_refl _) _⟩
theorem szS_any (a : Option Addr) (n cap : Nat) (E : Nat → En) (w : World) (hb : SrcE w a n E) (hn : n ≤ maxLen) (hs : ∀ i, i < n → (E i).path.size ≤ maxLen ∧ (E i).data.size ≤ maxLen) :
  Calls Tryz.prog 73 #[.slice a n cap, .int .i64 1048576] w fun e w' => (∃ r : Int, e = .returned (.int .i64 r) ∧ (r = -1 ∨ 0 ≤ r ∧ n ≤ 1048576 ∧ SmE n E)) ∧ Below w.heap.size w w' := by
 unfold maxLen at hn
 have HS := Lib.hid hs
 clear hs
 by_cases hbig : 1048576 - (n : Int) < 0
 ·go_enter Tryz.func73, Tryz.ntmps73
  go_wp2
  go_ret
  exact ⟨⟨-1, rfl, .inl rfl⟩, Below.refl _ _⟩
 ·go_enter Tryz.func73, Tryz.ntmps73
  go_wp2
  go_loopw [1, 5] (fun x i wr => ∃ k : Nat, ∃ r : Int, k ≤ n ∧ i = .int .i64 (k : Int) ∧ x = .int .i64 r ∧ 0 ≤ r ∧ r ≤ 1048576 ∧ SmE k E ∧ Below w.heap.size w wr) (fun _ i _ => n - (intOf i).toNat)
  case atStart => exact ⟨0, 1048576 - (n : Int), Nat.zero_le _, rfl, rfl, by omega, by omega, fun i hi => by omega, Below.refl _ _⟩
  case round =>
   obtain ⟨k, r, hk, rfl, rfl, h0, hr, hall, hbel⟩ := hrel
   have HA : Hid (SmE k E) := hall
   have HBE : Hid (Below w.heap.size w wr) := hbel
   clear hall
   by_cases hlt : k < n
   ·rcases hb with rfl | ⟨b, off, rfl, hc⟩
    ·omega
    obtain ⟨g0, g1, g2, g3⟩ := (hc k hlt).below hbel
    have hki : (k : Int) < (n : Int) := by omega
    have hsk := HS.out k hlt
    have HSZ : Hid (∀ W, Calls Tryz.prog 110 #[.agg #[.string (E k).path, .int .i64 (E k).kind, .string (E k).data, .bool (E k).exec], .int .i64 r] W fun e w' => (∃ q : Int, e = .returned (.int .i64 q) ∧ (q = -1 ∨ 0 ≤ q ∧ q = r - ((E k).path.size : Int) - ((E k).data.size : Int))) ∧ Below W.heap.size W w') := fun W => sz1_any _ _ _ _ r hsk.1 hsk.2 ⟨h0, hr⟩ W
    have HST : Hid (∀ q : Int, 0 ≤ q → q = r - ((E k).path.size : Int) - ((E k).data.size : Int) → q ≤ 1048576 ∧ SmE (k + 1) E) := fun q hq e => ⟨by omega, fun i hi => by
     rcases Nat.lt_or_ge i k with h | h
     ·exact HA.out i h
     ·obtain rfl : i = k := by omega
      omega⟩
    generalize (E k).path = p at *
    generalize (E k).kind = kd at *
    generalize (E k).data = d at *
    generalize (E k).exec = x at *
    clear hbel hc hsk
    go_wp2_with (go_at_call 110; refine (HSZ.out _).mono ?_; rintro e w1 ⟨⟨q, rfl, hq⟩, hl1⟩)
    ·go_ret
     exact ⟨⟨-1, rfl, .inl rfl⟩, HBE.out.trans (hl1.mono HBE.out.size)⟩
    ·have hq0 : 0 ≤ q := by omega
     have hqe : q = r - (p.size : Int) - (d.size : Int) := by omega
     obtain ⟨hq1, hq2⟩ := HST.out q hq0 hqe
     go_roundw
     case rel => exact ⟨k + 1, q, by omega, by go_num, rfl, hq0, hq1, hq2, HBE.out.trans (hl1.mono HBE.out.size)⟩
     case measure => simp [intOf]; omega
   ·have hki : ¬ (k : Int) < (n : Int) := by omega
    obtain rfl : k = n := by omega
    go_wp2
    go_ret
    exact ⟨⟨r, rfl, .inr ⟨h0, by omega, HA.out⟩⟩, HBE.out⟩
theorem eq1_any (p d : ByteArray) (k : Int) (x : Bool) (w : World) :
  Calls Tryz.prog 30 #[.agg #[.string p, .int .i64 k, .string d, .bool x], .agg #[.string p, .int .i64 k, .string d, .bool x]] w fun e w' => e = .returned (.bool true) ∧ Below w.heap.size w w' := by
 go_enter Tryz.func30, Tryz.ntmps30
 go_wp2
 go_ret
 exact ⟨by first | rfl | simp, ((Below.refl _ _).alloc (Nat.le_refl _) _).alloc (by simp) _⟩
theorem eqS_any (b b' n c c' : Nat) (E : Nat → En) (w : World) (hb : EnR w b 0 n E) (hb' : EnR w b' 0 n E) (hn : n ≤ 1048576) :
  Calls Tryz.prog 10 #[.slice (some ⟨b, 0, none⟩) n c, .slice (some ⟨b', 0, none⟩) n c'] w fun e w' => e = .returned (.bool true) ∧ Below w.heap.size w w' := by
 have HB : Hid (EnR w b 0 n E) := hb
 have HB' : Hid (EnR w b' 0 n E) := hb'
 clear hb hb'
 go_enter Tryz.func10, Tryz.ntmps10
 go_wp2
 go_loopw [5] (fun i wr => ∃ k : Nat, k ≤ n ∧ i = .int .i64 (k : Int) ∧ Below w.heap.size w wr) (fun i _ => n - (intOf i).toNat)
 case atStart => exact ⟨0, Nat.zero_le _, rfl, Below.refl _ _⟩
 case round =>
  obtain ⟨k, hk, rfl, hbel⟩ := hrel
  have HBE : Hid (Below w.heap.size w wr) := hbel
  by_cases hlt : k < n
  ·have hlt' : (k : Int) < (n : Int) := by omega
   have hk0 : (0 : Int) ≤ (k : Int) := by omega
   have HC : Hid (∀ W : World, Below w.heap.size w W → N4 W b (k * 4) (E k) ∧ N4 W b' (k * 4) (E k)) := fun W h => by
    have h1 := (HB.out k hlt).below h
    have h2 := (HB'.out k hlt).below h
    rw [Nat.zero_add] at h1 h2
    exact ⟨h1, h2⟩
   have HEQ : Hid (∀ W, Calls Tryz.prog 30 #[.agg #[.string (E k).path, .int .i64 (E k).kind, .string (E k).data, .bool (E k).exec], .agg #[.string (E k).path, .int .i64 (E k).kind, .string (E k).data, .bool (E k).exec]] W fun e w' => e = .returned (.bool true) ∧ Below W.heap.size W w') := fun W => eq1_any _ _ _ _ W
   unfold N4 at HC
   generalize (E k).path = p at *
   generalize (E k).kind = kd at *
   generalize (E k).data = d at *
   generalize (E k).exec = x at *
   clear hbel
   go_wp2_with fail
   go_region_held3 (fun W => (W.cell? ⟨b, k * 4, none⟩ = some (.string p) ∧ W.cell? ⟨b, k * 4 + 1, none⟩ = some (.int .i64 kd) ∧ W.cell? ⟨b, k * 4 + 2, none⟩ = some (.string d) ∧ W.cell? ⟨b, k * 4 + 3, none⟩ = some (.bool x)) ∧ W.cell? ⟨b', k * 4, none⟩ = some (.string p) ∧ W.cell? ⟨b', k * 4 + 1, none⟩ = some (.int .i64 kd) ∧ W.cell? ⟨b', k * 4 + 2, none⟩ = some (.string d) ∧ W.cell? ⟨b', k * 4 + 3, none⟩ = some (.bool x))
    (first | exact HC.out _ HBE.out.drew | exact HC.out _ hb2 | exact HC.out _ HBE.out | go_keep)
    (((go_at_call 30; refine (HEQ.out _).mono ?_; rintro e w2 ⟨rfl, hl2⟩; have hb2 : Below w.heap.size w w2 := HBE.out.drew.trans (hl2.mono HBE.out.size))))
   go_wp2_with fail
   go_roundw
   case rel => exact ⟨k + 1, by omega, by go_num, hb2⟩
   case measure => simp [intOf]; omega
  ·have hlt' : ¬ (k : Int) < (n : Int) := by omega
   go_wp2
   go_ret
   exact ⟨rfl, hbel⟩
theorem infoE : (Tryz.prog.info? 62).map (fun i => (i.zero, i.size, i.bytes)) = some (some (.agg #[.string ⟨#[]⟩, .int .i64 0, .string ⟨#[]⟩, .bool false]), 4, 48) := by kernel_rfl
theorem make4 {P : Program} (t e : TypeId) (z : Value) (bytes : Nat) (ht : P.underlying t = some (.slice e)) (hinfo : (P.info? e).map (fun i => (i.zero, i.size, i.bytes)) = some (some z, 4, bytes))
  (kl kc : IntKind) (n : Nat) (hbytes : bytes * n ≤ 281474976710656) (h63 : n ≤ 9223372036854775807) (w : World) :
  (Instr.makeSlice t (.int kl (n : Int)) (.int kc (n : Int))).run P w = .ok (.slice (some ⟨w.heap.size, 0, none⟩) n n) (w.alloc (.cells (madeCells z.cells (n * 4)) e)) := by
 obtain ⟨i, hi, hzz⟩ := Option.map_eq_some_iff.1 hinfo
 simp only [Prod.mk.injEq] at hzz
 obtain ⟨hz, hs, hb⟩ := hzz
 have hb' : (i.bytes : Int) * (n : Int) ≤ 281474976710656 := by
  have h : ((i.bytes * n : Nat) : Int) ≤ 281474976710656 := by rw [hb]; omega
  rwa [Int.natCast_mul] at h
 have hr := run_make (P := P) w t e i z ht hi hz kl kc n n (by omega) (Int.le_refl _) hb' (by omega)
 simp only [Int.toNat_natCast, hs] at hr
 exact hr
def cellE (E : Nat → En) (j : Nat) : Value := if j % 4 = 0 then .string (E (j / 4)).path else if j % 4 = 1 then .int .i64 (E (j / 4)).kind else if j % 4 = 2 then .string (E (j / 4)).data else .bool (E (j / 4)).exec
theorem cellE0 (E : Nat → En) (k : Nat) : cellE E (k * 4) = .string (E k).path := by
 unfold cellE
 rw [if_pos (by omega), show k * 4 / 4 = k by omega]
theorem cellE1 (E : Nat → En) (k : Nat) : cellE E (k * 4 + 1) = .int .i64 (E k).kind := by
 unfold cellE
 rw [if_neg (by omega), if_pos (by omega), show (k * 4 + 1) / 4 = k by omega]
theorem cellE2 (E : Nat → En) (k : Nat) : cellE E (k * 4 + 2) = .string (E k).data := by
 unfold cellE
 rw [if_neg (by omega), if_neg (by omega), if_pos (by omega), show (k * 4 + 2) / 4 = k by omega]
theorem cellE3 (E : Nat → En) (k : Nat) : cellE E (k * 4 + 3) = .bool (E k).exec := by
 unfold cellE
 rw [if_neg (by omega), if_neg (by omega), if_neg (by omega), show (k * 4 + 3) / 4 = k by omega]
theorem enr_row {w : World} {b e n : Nat} {E : Nat → En} (h : w.rowIs b e (n * 4) (cellE E)) : EnR w b 0 n E := by
 intro i hi
 have h0 := h.cell (i := i * 4) (by omega)
 have h1 := h.cell (i := i * 4 + 1) (by omega)
 have h2 := h.cell (i := i * 4 + 2) (by omega)
 have h3 := h.cell (i := i * 4 + 3) (by omega)
 rw [cellE0] at h0
 rw [cellE1] at h1
 rw [cellE2] at h2
 rw [cellE3] at h3
 rw [Nat.zero_add]
 exact ⟨h0, h1, h2, h3⟩
theorem mk_step {w : World} {b e N m : Nat} {f : Nat → Value} {E : Nat → En} (h : w.rowIs b e N (fun j => if j < m then cellE E j else f j)) {v : Value} (hv : cellE E m = v) :
  (w.setCell ⟨b, m, none⟩ v).rowIs b e N (fun j => if j < m + 1 then cellE E j else f j) :=
 (h.set m _).congr fun i hi => by
  by_cases h : i = m
  ·simp [h, hv]
  ·have e : (i < m + 1) ↔ (i < m) := by omega
   simp [h, e]
theorem row4 {w : World} {b e N k : Nat} {f : Nat → Value} {E : Nat → En} (h : w.rowIs b e N (fun j => if j < k * 4 then cellE E j else f j)) :
  ((((w.setCell ⟨b, k * 4, none⟩ (.string (E k).path)).setCell ⟨b, k * 4 + 1, none⟩ (.int .i64 (E k).kind)).setCell ⟨b, k * 4 + 2, none⟩ (.string (E k).data)).setCell ⟨b, k * 4 + 3, none⟩ (.bool (E k).exec)).rowIs b e N (fun j => if j < (k + 1) * 4 then cellE E j else f j) := by
 have s0 := mk_step h (cellE0 E k)
 have s1 := mk_step (m := k * 4 + 1) s0 (cellE1 E k)
 have s2 := mk_step (m := k * 4 + 2) s1 (cellE2 E k)
 have s3 := mk_step (m := k * 4 + 3) s2 (cellE3 E k)
 refine s3.congr (fun j hj => ?_)
 rw [show (k + 1) * 4 = k * 4 + 3 + 1 by omega]
theorem rowIs_made4 (w : World) (z : Array Value) (n : Nat) (t : TypeId) (hz : z.size = 4) : (w.alloc (.cells (madeCells z (n * 4)) t)).rowIs w.heap.size t (n * 4) (fun j => z[j % 4]!) :=
 ⟨_, blk_alloc_new _ _, size_madeCells _ _, fun i hi => by simp [madeCells, hi, hz]⟩
theorem ret_cell4 {fn : Func} {i : Tmp} (hf : fn.results = #[.cell i 62]) {tmps : Array Value} {W : World} {b : Nat} {v0 v1 v2 v3 : Value} {R : Ending → World → Prop} (h4 : tmps.getD i undef = .pointer (some ⟨b, 0, none⟩))
  (k0 : W.cell? ⟨b, 0, none⟩ = some v0) (k1 : W.cell? ⟨b, 1, none⟩ = some v1) (k2 : W.cell? ⟨b, 2, none⟩ = some v2) (k3 : W.cell? ⟨b, 3, none⟩ = some v3) (hR : R (.returned (.agg #[v0, v1, v2, v3])) W) :
  bodyPost Tryz.prog fn R Exit.ret { tmps := tmps, defers := [] } W := by
 have h4' : tmps[i]?.getD undef = .pointer (some ⟨b, 0, none⟩) := by simpa using h4
 exact bodyPost_ret (v := .agg #[v0, v1, v2, v3]) (by simp [results, hf, go_sem, h4', k0, k1, k2, k3]) rfl hR
theorem to1_any (p d : ByteArray) (k : Int) (x : Bool) (w : World) :
  Calls Tryz.prog 118 #[.agg #[.string p, .int .i64 k, .string d, .bool x]] w fun r w' => r = .returned (.agg #[.string p, .int .i64 k, .string d, .bool x]) ∧ Below w.heap.size w w' := by
 go_enter Tryz.func118, Tryz.ntmps118
 go_wp2
 refine ret_cell4 Tryz.results118 rfl (v0 := .string p) (v1 := .int .i64 k) (v2 := .string d) (v3 := .bool x) (by simp [go_sem]) (by simp [go_sem]) (by simp [go_sem]) (by simp [go_sem]) ⟨rfl, (((Below.refl _ _).alloc (Nat.le_refl _) _).alloc (by simp) _).alloc (by simp; omega) _⟩
theorem toS_full (a : Option Addr) (n cap : Nat) (E : Nat → En) (w : World) (hb : SrcE w a n E) (hn : n ≤ 1048576) :
  Calls Tryz.prog 86 #[.slice a n cap] w fun e w' => e = .returned (.slice (some ⟨w.heap.size, 0, none⟩) n n) ∧ w'.rowIs w.heap.size 62 (n * 4) (cellE E) ∧ Below w.heap.size w w' := by
 have hmk := make4 (P := Tryz.prog) 31 62 (.agg #[.string ⟨#[]⟩, .int .i64 0, .string ⟨#[]⟩, .bool false]) 48 Tryz.underlying31 infoE .i64 .i64 n (by omega) (by omega)
 go_enter Tryz.func86, Tryz.ntmps86
 go_wp2
 clear hmk
 go_loopw [4] (fun i wr => ∃ (k : Nat) (f : Nat → Value), k ≤ n ∧ i = .int .i64 (k : Int) ∧ wr.rowIs w.heap.size 62 (n * 4) (fun j => if j < k * 4 then cellE E j else f j) ∧ Below w.heap.size w wr) (fun i _ => n - (intOf i).toNat)
 case atStart =>
  refine ⟨0, (fun j => (#[.string ⟨#[]⟩, .int .i64 0, .string ⟨#[]⟩, .bool false] : Array Value)[j % 4]!), Nat.zero_le _, rfl, ?_, (Below.refl _ _).alloc (Nat.le_refl _) _⟩
  have h4 := rowIs_made4 w #[.string ⟨#[]⟩, .int .i64 0, .string ⟨#[]⟩, .bool false] n 62 rfl
  exact h4.congr (fun j hj => by rw [if_neg (by omega)])
 case round =>
  obtain ⟨k, f, hk, rfl, hrow, hbel⟩ := hrel
  by_cases hlt : k < n
  ·rcases hb with rfl | ⟨b, off, rfl, hc⟩
   ·omega
   obtain ⟨g0, g1, g2, g3⟩ := (hc k hlt).below hbel
   have hki : (k : Int) < (n : Int) := by omega
   have hwl : w.heap.size < wr.heap.size := hrow.lt
   go_wp2_with (go_at_call 118; refine (to1_any _ _ _ _ _).mono ?_; rintro e w1 ⟨rfl, hl1⟩; have hrow1 := hrow.of_block (hl1.block _ hwl); have r0 := hrow1.cell (i := k * 4) (by omega); have r1 := hrow1.cell (i := k * 4 + 1) (by omega); have r2 := hrow1.cell (i := k * 4 + 2) (by omega); have r3 := hrow1.cell (i := k * 4 + 3) (by omega); have f0 := hrow1.frozen (k * 4); have f1 := hrow1.frozen (k * 4 + 1); have f2 := hrow1.frozen (k * 4 + 2); have f3 := hrow1.frozen (k * 4 + 3))
   go_roundw
   case rel =>
    exact ⟨k + 1, f, by omega, by go_num, row4 hrow1, ((((hbel.trans (hl1.mono hbel.size)).setCell (Nat.le_refl _) _).setCell (Nat.le_refl _) _).setCell (Nat.le_refl _) _).setCell (Nat.le_refl _) _⟩
   case measure => simp [intOf]; omega
  ·have hki : ¬ (k : Int) < (n : Int) := by omega
   obtain rfl : k = n := by omega
   go_wp2
   go_ret
   exact ⟨rfl, hrow.congr fun i hi => by simp [hi], hbel⟩
theorem toS_any (a : Option Addr) (n cap : Nat) (E : Nat → En) (w : World) (hb : SrcE w a n E) (hn : n ≤ 1048576) :
  Calls Tryz.prog 86 #[.slice a n cap] w fun e w' => e = .returned (.slice (some ⟨w.heap.size, 0, none⟩) n n) ∧ EnR w' w.heap.size 0 n E ∧ Below w.heap.size w w' :=
 (toS_full a n cap E w hb hn).mono fun e w' ⟨h1, h2, h3⟩ => ⟨h1, enr_row h2, h3⟩
end Go.Proofs.YthbgpfjbfkiljaaGreatDoor.tt
