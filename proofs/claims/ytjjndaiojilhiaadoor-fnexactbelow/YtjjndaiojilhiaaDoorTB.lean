import Derived.Test.YtjjndaiojilhiaaDoorTA
namespace Go.Proofs.YtjjndaiojilhiaaDoor.tt
open Go.ChangeShapes Go.WideShapes Go.ChangeAt Go.RowKit Go.Deep
set_option linter.unusedVariables false
set_option linter.unusedSimpArgs false

/-! ### Trees of files: the specification, an entry, what is above, the search -/

theorem emp_size {d : ByteArray} : d.toList.isEmpty = decide (d.size = 0) := by
  have hz : d.data.toList.length = d.size := by simp
  rw [ByteArray.toList_eq]
  cases h : d.data.toList with
  | nil => rw [h] at hz; simp at hz; simp [← hz]
  | cons a l =>
    have hne : ¬ d.size = 0 := by rw [h, List.length_cons] at hz; omega
    simp [hne]

def eV (e : En) : Value := .agg #[.string e.path, .int .i64 e.kind, .string e.data, .bool e.exec]

set_option maxHeartbeats 4000000 in
set_option maxRecDepth 100000 in
theorem entry_any (e : En) (hp : e.path.size ≤ 1048576) (hd : e.data.size ≤ 1048576) (w : World) :
    Calls Tryd.prog 28 #[eV e] w fun r w' => r = .returned (.bool (eOk e)) ∧ Below w.heap.size w w' := by
  obtain ⟨p, k, d, x⟩ := e
  unfold eV
  simp only at hp hd ⊢
  have HNM : Hid (∀ W, Calls Tryd.prog 37 #[.string p] W fun e w' => (∃ v, e = .returned (.tuple #[v, .bool (pOk p)])) ∧ Below W.heap.size W w') := fun W => names_any p hp W
  obtain ⟨R, hR⟩ : ∃ R, eOk ⟨p, k, d, x⟩ = R := ⟨_, rfl⟩
  have HR : Hid (R = (pOk p && cOk ⟨p, k, d, x⟩)) := by show _ = _; rw [← hR]; rfl
  have HEM : Hid (d.toList.isEmpty = decide (d.size = 0)) := emp_size
  rw [hR]
  have B0 : Below w.heap.size w (w.alloc (.cells #[.string p, .int .i64 k, .string d, .bool x] 38)) := (Below.refl _ _).alloc (Nat.le_refl _) _
  have HB0 : Hid (Below w.heap.size w (w.alloc (.cells #[.string p, .int .i64 k, .string d, .bool x] 38))) := B0
  have HCC : Hid (∀ W : World, Below (w.alloc (.cells #[.string p, .int .i64 k, .string d, .bool x] 38)).heap.size (w.alloc (.cells #[.string p, .int .i64 k, .string d, .bool x] 38)) W → W.cell? ⟨w.heap.size, 1, none⟩ = some (.int .i64 k) ∧ W.cell? ⟨w.heap.size, 2, none⟩ = some (.string d) ∧ W.cell? ⟨w.heap.size, 3, none⟩ = some (.bool x)) := fun W hb => by
    refine ⟨(hb.cell (p := ⟨w.heap.size, 1, none⟩) (by simp)).trans (by simp [go_sem]), (hb.cell (p := ⟨w.heap.size, 2, none⟩) (by simp)).trans (by simp [go_sem]), (hb.cell (p := ⟨w.heap.size, 3, none⟩) (by simp)).trans (by simp [go_sem])⟩
  clear hR B0
  cases hpk : pOk p with
  | false =>
    rw [hpk] at HNM HR
    clear hpk
    go_enter Tryd.func28, Tryd.ntmps28
    go_wp2_with (go_at_call 37; refine (HNM.out _).mono ?_; rintro e w2 ⟨⟨v2, rfl⟩, hl2⟩; obtain ⟨c1, c2, c3⟩ := HCC.out w2 hl2)
    go_ret
    exact ⟨by rw [HR.out]; rfl, HB0.out.trans (hl2.mono (by simp))⟩
  | true =>
    rw [hpk] at HNM HR
    clear hpk
    by_cases hbig : 20000 < d.size
    · have hbig' : (20000 : Int) < (d.size : Int) := by omega
      have HF : Hid (R = false) := by show _ = _; rw [HR.out]; unfold cOk; simp; omega
      go_enter Tryd.func28, Tryd.ntmps28
      go_wp2_with (go_at_call 37; refine (HNM.out _).mono ?_; rintro e w2 ⟨⟨v2, rfl⟩, hl2⟩; obtain ⟨c1, c2, c3⟩ := HCC.out w2 hl2)
      go_ret
      exact ⟨by rw [HF.out]; first | done | rfl, HB0.out.trans (hl2.mono (by simp))⟩
    have hbig' : ¬ (20000 : Int) < (d.size : Int) := by omega
    have hsm : decide (d.size ≤ 20000) = true := by simpa using (by omega : d.size ≤ 20000)
    have HC : Hid (R = (if k = 1 then decide (d.size = 0) && !x else if k = 2 then true else decide (k = 3) && !decide (d.size = 0) && !x)) := by show _ = _; rw [HR.out]; unfold cOk; simp [hsm]
    clear HR hsm
    cases hem : d.toList.isEmpty with
    | true =>
      have hz : d.size = 0 := by have := HEM.out; rw [hem] at this; simpa using this.symm
      have HZ : Hid (d.size = 0) := hz
      clear hz HEM hbig
      by_cases k1 : k = 1
      · subst k1
        cases x <;> (
          go_enter Tryd.func28, Tryd.ntmps28
          go_wp2_with (go_at_call 37; refine (HNM.out _).mono ?_; rintro e w2 ⟨⟨v2, rfl⟩, hl2⟩; obtain ⟨c1, c2, c3⟩ := HCC.out w2 hl2)
          go_ret
          exact ⟨by rw [HC.out, HZ.out]; rfl, HB0.out.trans (hl2.mono (by simp))⟩)
      · by_cases k2 : k = 2
        · subst k2
          go_enter Tryd.func28, Tryd.ntmps28
          go_wp2_with (go_at_call 37; refine (HNM.out _).mono ?_; rintro e w2 ⟨⟨v2, rfl⟩, hl2⟩; obtain ⟨c1, c2, c3⟩ := HCC.out w2 hl2)
          go_ret
          exact ⟨by rw [HC.out]; rfl, HB0.out.trans (hl2.mono (by simp))⟩
        · by_cases k3 : k = 3
          · subst k3
            go_enter Tryd.func28, Tryd.ntmps28
            go_wp2_with (go_at_call 37; refine (HNM.out _).mono ?_; rintro e w2 ⟨⟨v2, rfl⟩, hl2⟩; obtain ⟨c1, c2, c3⟩ := HCC.out w2 hl2)
            go_ret
            exact ⟨by rw [HC.out, HZ.out]; rfl, HB0.out.trans (hl2.mono (by simp))⟩
          · have HF : Hid (R = false) := by show _ = _; rw [HC.out, if_neg k1, if_neg k2]; simp [k3]
            clear HC
            go_enter Tryd.func28, Tryd.ntmps28
            go_wp2_with (go_at_call 37; refine (HNM.out _).mono ?_; rintro e w2 ⟨⟨v2, rfl⟩, hl2⟩; obtain ⟨c1, c2, c3⟩ := HCC.out w2 hl2)
            go_ret
            exact ⟨by rw [HF.out]; first | done | rfl, HB0.out.trans (hl2.mono (by simp))⟩
    | false =>
      have hz : decide (d.size = 0) = false := by have := HEM.out; rw [hem] at this; exact this.symm
      have HZ : Hid (decide (d.size = 0) = false) := hz
      clear hz HEM hbig
      by_cases k1 : k = 1
      · subst k1
        go_enter Tryd.func28, Tryd.ntmps28
        go_wp2_with (go_at_call 37; refine (HNM.out _).mono ?_; rintro e w2 ⟨⟨v2, rfl⟩, hl2⟩; obtain ⟨c1, c2, c3⟩ := HCC.out w2 hl2)
        go_ret
        exact ⟨by rw [HC.out, HZ.out]; rfl, HB0.out.trans (hl2.mono (by simp))⟩
      · by_cases k2 : k = 2
        · subst k2
          go_enter Tryd.func28, Tryd.ntmps28
          go_wp2_with (go_at_call 37; refine (HNM.out _).mono ?_; rintro e w2 ⟨⟨v2, rfl⟩, hl2⟩; obtain ⟨c1, c2, c3⟩ := HCC.out w2 hl2)
          go_ret
          exact ⟨by rw [HC.out]; rfl, HB0.out.trans (hl2.mono (by simp))⟩
        · by_cases k3 : k = 3
          · subst k3
            cases x <;> (
              go_enter Tryd.func28, Tryd.ntmps28
              go_wp2_with (go_at_call 37; refine (HNM.out _).mono ?_; rintro e w2 ⟨⟨v2, rfl⟩, hl2⟩; obtain ⟨c1, c2, c3⟩ := HCC.out w2 hl2)
              go_ret
              exact ⟨by rw [HC.out, HZ.out]; rfl, HB0.out.trans (hl2.mono (by simp))⟩)
          · have HF : Hid (R = false) := by show _ = _; rw [HC.out, if_neg k1, if_neg k2]; simp [k3]
            clear HC
            go_enter Tryd.func28, Tryd.ntmps28
            go_wp2_with (go_at_call 37; refine (HNM.out _).mono ?_; rintro e w2 ⟨⟨v2, rfl⟩, hl2⟩; obtain ⟨c1, c2, c3⟩ := HCC.out w2 hl2)
            go_ret
            exact ⟨by rw [HF.out]; first | done | rfl, HB0.out.trans (hl2.mono (by simp))⟩

theorem at_byte {s : ByteArray} {i : Nat} (h : i < s.size) : s.data.toList[i]? = some s[i] := by
  rw [List.getElem?_eq_getElem (by simpa using h)]
  rfl

theorem take_ext {s : ByteArray} {i : Nat} (h : i ≤ s.size) : s.extract 0 i = ⟨(s.data.toList.take i).toArray⟩ := by
  apply ByteArray.ext
  apply Array.toList_inj.1
  rw [bytes_ext]
  simp

set_option maxHeartbeats 2000000 in
set_option maxRecDepth 100000 in
theorem up_any (s : ByteArray) (hs : s.size ≤ 1048576) (w : World) :
    Calls Tryd.prog 29 #[.string s] w fun e w' => e = .returned (.string ⟨(up s.data.toList).toArray⟩) ∧ Below w.heap.size w w' := by
  have hz : s.data.toList.length = s.size := by simp
  go_enter Tryd.func29, Tryd.ntmps29
  go_wp2
  go_loopw [3] (fun x wr => ∃ k : Nat, k ≤ s.size ∧ x = .int .i64 ((k : Int) - 1) ∧ (∀ j : Nat, k ≤ j → s.data.toList[j]? ≠ some (47 : UInt8)) ∧ wr = w) (fun x _ => (intOf x + 1).toNat)
  case atStart => exact ⟨s.size, Nat.le_refl _, by go_num, fun j hj => by rw [List.getElem?_eq_none (by omega)]; simp, rfl⟩
  case round =>
    obtain ⟨k, hk, rfl, hno, rfl⟩ := hrel
    have HNO : Hid (∀ j : Nat, k ≤ j → s.data.toList[j]? ≠ some (47 : UInt8)) := hno
    clear hno
    by_cases hk0 : k = 0
    · have HU : Hid (up s.data.toList = []) := by
        show _ = _
        unfold up
        rw [lst_no (fun j => HNO.out j (by omega))]
      subst hk0
      go_wp2
      go_ret
      exact ⟨by rw [HU.out]; first | done | rfl, Below.refl _ _⟩
    · obtain ⟨K, rfl⟩ : ∃ K, k = K + 1 := ⟨k - 1, by omega⟩
      have hK1 : ((K + 1 : Nat) : Int) - 1 = (K : Int) := by omega
      have hK0 : (0 : Int) ≤ (K : Int) := by omega
      have hK2 : (K : Int) < (s.size : Int) := by omega
      have hK3 : (K : Int) ≤ (s.size : Int) := by omega
      have hlt : K < s.size := by omega
      rw [hK1]
      by_cases h47 : s[K] = 47
      · have hbi : (s[K].toNat : Int) = 47 := by rw [h47]; rfl
        have HU : Hid (up s.data.toList = s.data.toList.take K) := by
          show _ = _
          unfold up
          rw [lst_of (i := K) (by rw [at_byte hlt, h47]) (fun j hj => HNO.out j (by omega))]
        have HE : Hid (s.extract 0 K = ⟨(s.data.toList.take K).toArray⟩) := take_ext (by omega)
        clear h47
        go_wp2
        go_ret
        exact ⟨by rw [HU.out, ← HE.out]; first | done | rfl, Below.refl _ _⟩
      · have hbn : ¬ s[K].toNat = 47 := fun e => h47 (UInt8.toNat.inj e)
        have hbi : ¬ (s[K].toNat : Int) = 47 := by omega
        have hbb : ((s[K].toNat : Int) == 47) = false := by simpa using hbi
        have HN : Hid (∀ j : Nat, K ≤ j → s.data.toList[j]? ≠ some (47 : UInt8)) := fun j hj e => by
          rcases Nat.lt_or_ge K j with h | h
          · exact HNO.out j h e
          · obtain rfl : j = K := by omega
            rw [at_byte hlt] at e
            exact h47 (Option.some.inj e)
        clear h47 hbn
        go_wp2
        go_roundw
        case rel => exact ⟨K, by omega, by first | rfl | go_num, HN.out, by first | rfl | trivial⟩
        case measure => simp [intOf] <;> omega

end Go.Proofs.YtjjndaiojilhiaaDoor.tt
