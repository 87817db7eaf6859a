import Derived.Test.YtkmhaemcpakobaaGreatDoorG11
import Derived.Lib.Hide
namespace Go.Proofs.YtkmhaemcpakobaaGreatDoor.tt
open Go.ChangeShapes Go.WideShapes Go.ChangeAt Go.RowKit Go.Deep
set_option linter.unusedVariables false
set_option linter.unusedSimpArgs false

/-! ### Trees of files: the specification, an entry, what is above, the search -/

theorem emp_size {d : ByteArray} : d.toList.isEmpty = decide (d.size = 0) := by
  have hz : d.data.toList.length = d.size := by simp
  rw [ByteArray.toList_eq]
  cases h : d.data.toList with
  | nil => rw [h] at hz; simp at hz; simp [← hz]
  | cons a l =>
    have hne : ¬ d.size = 0 := by rw [h, List.length_cons] at hz; omega
    simp [hne]

def eV (e : En) : Value := .agg #[.string e.path, .int .i64 e.kind, .string e.data, .bool e.exec]

set_option maxHeartbeats 4000000 in
set_option maxRecDepth 100000 in
theorem entry_any (e : En) (hp : e.path.size ≤ 1048576) (hd : e.data.size ≤ 1048576) (w : World) :
    Calls Tryz.prog 53 #[eV e] w fun r w' => r = .returned (.bool (eOk e)) ∧ Below w.heap.size w w' := by
  obtain ⟨p, k, d, x⟩ := e
  unfold eV
  simp only at hp hd ⊢
  have HNM : Hid (∀ W, Calls Tryz.prog 80 #[.string p] W fun e w' => (∃ v, e = .returned (.tuple #[v, .bool (pOk p)])) ∧ Below W.heap.size W w') := fun W => names_any p hp W
  obtain ⟨R, hR⟩ : ∃ R, eOk ⟨p, k, d, x⟩ = R := ⟨_, rfl⟩
  have HR : Hid (R = (pOk p && cOk ⟨p, k, d, x⟩)) := by show _ = _; rw [← hR]; rfl
  have HEM : Hid (d.toList.isEmpty = decide (d.size = 0)) := emp_size
  rw [hR]
  have B0 : Below w.heap.size w (w.alloc (.cells #[.string p, .int .i64 k, .string d, .bool x] 77)) := (Below.refl _ _).alloc (Nat.le_refl _) _
  have HB0 : Hid (Below w.heap.size w (w.alloc (.cells #[.string p, .int .i64 k, .string d, .bool x] 77))) := B0
  have HCC : Hid (∀ W : World, Below (w.alloc (.cells #[.string p, .int .i64 k, .string d, .bool x] 77)).heap.size (w.alloc (.cells #[.string p, .int .i64 k, .string d, .bool x] 77)) W → W.cell? ⟨w.heap.size, 1, none⟩ = some (.int .i64 k) ∧ W.cell? ⟨w.heap.size, 2, none⟩ = some (.string d) ∧ W.cell? ⟨w.heap.size, 3, none⟩ = some (.bool x)) := fun W hb => by
    refine ⟨(hb.cell (p := ⟨w.heap.size, 1, none⟩) (by simp)).trans (by simp [go_sem]), (hb.cell (p := ⟨w.heap.size, 2, none⟩) (by simp)).trans (by simp [go_sem]), (hb.cell (p := ⟨w.heap.size, 3, none⟩) (by simp)).trans (by simp [go_sem])⟩
  clear hR B0
  cases hpk : pOk p with
  | false =>
    rw [hpk] at HNM HR
    clear hpk
    go_enter Tryz.func53, Tryz.ntmps53
    go_wp2_with (go_at_call 80; refine (HNM.out _).mono ?_; rintro e w2 ⟨⟨v2, rfl⟩, hl2⟩; obtain ⟨c1, c2, c3⟩ := HCC.out w2 hl2)
    go_ret
    exact ⟨by rw [HR.out]; rfl, HB0.out.trans (hl2.mono (by simp))⟩
  | true =>
    rw [hpk] at HNM HR
    clear hpk
    by_cases hbig : 20000 < d.size
    · have hbig' : (20000 : Int) < (d.size : Int) := by omega
      have HF : Hid (R = false) := by show _ = _; rw [HR.out]; unfold cOk; simp; omega
      go_enter Tryz.func53, Tryz.ntmps53
      go_wp2_with (go_at_call 80; refine (HNM.out _).mono ?_; rintro e w2 ⟨⟨v2, rfl⟩, hl2⟩; obtain ⟨c1, c2, c3⟩ := HCC.out w2 hl2)
      go_ret
      exact ⟨by rw [HF.out]; first | done | rfl, HB0.out.trans (hl2.mono (by simp))⟩
    have hbig' : ¬ (20000 : Int) < (d.size : Int) := by omega
    have hsm : decide (d.size ≤ 20000) = true := by simpa using (by omega : d.size ≤ 20000)
    have HC : Hid (R = (if k = 1 then decide (d.size = 0) && !x else if k = 2 then true else decide (k = 3) && !decide (d.size = 0) && !x)) := by show _ = _; rw [HR.out]; unfold cOk; simp [hsm]
    clear HR hsm
    cases hem : d.toList.isEmpty with
    | true =>
      have hz : d.size = 0 := by have := HEM.out; rw [hem] at this; simpa using this.symm
      have HZ : Hid (d.size = 0) := hz
      clear hz HEM hbig
      by_cases k1 : k = 1
      · subst k1
        cases x <;> (
          go_enter Tryz.func53, Tryz.ntmps53
          go_wp2_with (go_at_call 80; refine (HNM.out _).mono ?_; rintro e w2 ⟨⟨v2, rfl⟩, hl2⟩; obtain ⟨c1, c2, c3⟩ := HCC.out w2 hl2)
          go_ret
          exact ⟨by rw [HC.out, HZ.out]; rfl, HB0.out.trans (hl2.mono (by simp))⟩)
      · by_cases k2 : k = 2
        · subst k2
          go_enter Tryz.func53, Tryz.ntmps53
          go_wp2_with (go_at_call 80; refine (HNM.out _).mono ?_; rintro e w2 ⟨⟨v2, rfl⟩, hl2⟩; obtain ⟨c1, c2, c3⟩ := HCC.out w2 hl2)
          go_ret
          exact ⟨by rw [HC.out]; rfl, HB0.out.trans (hl2.mono (by simp))⟩
        · by_cases k3 : k = 3
          · subst k3
            go_enter Tryz.func53, Tryz.ntmps53
            go_wp2_with (go_at_call 80; refine (HNM.out _).mono ?_; rintro e w2 ⟨⟨v2, rfl⟩, hl2⟩; obtain ⟨c1, c2, c3⟩ := HCC.out w2 hl2)
            go_ret
            exact ⟨by rw [HC.out, HZ.out]; rfl, HB0.out.trans (hl2.mono (by simp))⟩
          · have HF : Hid (R = false) := by show _ = _; rw [HC.out, if_neg k1, if_neg k2]; simp [k3]
            clear HC
            go_enter Tryz.func53, Tryz.ntmps53
            go_wp2_with (go_at_call 80; refine (HNM.out _).mono ?_; rintro e w2 ⟨⟨v2, rfl⟩, hl2⟩; obtain ⟨c1, c2, c3⟩ := HCC.out w2 hl2)
            go_ret
            exact ⟨by rw [HF.out]; first | done | rfl, HB0.out.trans (hl2.mono (by simp))⟩
    | false =>
      have hz : decide (d.size = 0) = false := by have := HEM.out; rw [hem] at this; exact this.symm
      have HZ : Hid (decide (d.size = 0) = false) := hz
      clear hz HEM hbig
      by_cases k1 : k = 1
      · subst k1
        go_enter Tryz.func53, Tryz.ntmps53
        go_wp2_with (go_at_call 80; refine (HNM.out _).mono ?_; rintro e w2 ⟨⟨v2, rfl⟩, hl2⟩; obtain ⟨c1, c2, c3⟩ := HCC.out w2 hl2)
        go_ret
        exact ⟨by rw [HC.out, HZ.out]; rfl, HB0.out.trans (hl2.mono (by simp))⟩
      · by_cases k2 : k = 2
        · subst k2
          go_enter Tryz.func53, Tryz.ntmps53
          go_wp2_with (go_at_call 80; refine (HNM.out _).mono ?_; rintro e w2 ⟨⟨v2, rfl⟩, hl2⟩; obtain ⟨c1, c2, c3⟩ := HCC.out w2 hl2)
          go_ret
          exact ⟨by rw [HC.out]; rfl, HB0.out.trans (hl2.mono (by simp))⟩
        · by_cases k3 : k = 3
          · subst k3
            cases x <;> (
              go_enter Tryz.func53, Tryz.ntmps53
              go_wp2_with (go_at_call 80; refine (HNM.out _).mono ?_; rintro e w2 ⟨⟨v2, rfl⟩, hl2⟩; obtain ⟨c1, c2, c3⟩ := HCC.out w2 hl2)
              go_ret
              exact ⟨by rw [HC.out, HZ.out]; rfl, HB0.out.trans (hl2.mono (by simp))⟩)
          · have HF : Hid (R = false) := by show _ = _; rw [HC.out, if_neg k1, if_neg k2]; simp [k3]
            clear HC
            go_enter Tryz.func53, Tryz.ntmps53
            go_wp2_with (go_at_call 80; refine (HNM.out _).mono ?_; rintro e w2 ⟨⟨v2, rfl⟩, hl2⟩; obtain ⟨c1, c2, c3⟩ := HCC.out w2 hl2)
            go_ret
            exact ⟨by rw [HF.out]; first | done | rfl, HB0.out.trans (hl2.mono (by simp))⟩

theorem at_byte {s : ByteArray} {i : Nat} (h : i < s.size) : s.data.toList[i]? = some s[i] := by
  rw [List.getElem?_eq_getElem (by simpa using h)]
  rfl

theorem take_ext {s : ByteArray} {i : Nat} (h : i ≤ s.size) : s.extract 0 i = ⟨(s.data.toList.take i).toArray⟩ := by
  apply ByteArray.ext
  apply Array.toList_inj.1
  rw [bytes_ext]
  simp

set_option maxHeartbeats 2000000 in
set_option maxRecDepth 100000 in
theorem up_any (s : ByteArray) (hs : s.size ≤ 1048576) (w : World) :
    Calls Tryz.prog 54 #[.string s] w fun e w' => e = .returned (.string ⟨(up s.data.toList).toArray⟩) ∧ Below w.heap.size w w' := by
  have hz : s.data.toList.length = s.size := by simp
  go_enter Tryz.func54, Tryz.ntmps54
  go_wp2
  go_loopw [3] (fun x wr => ∃ k : Nat, k ≤ s.size ∧ x = .int .i64 ((k : Int) - 1) ∧ (∀ j : Nat, k ≤ j → s.data.toList[j]? ≠ some (47 : UInt8)) ∧ wr = w) (fun x _ => (intOf x + 1).toNat)
  case atStart => exact ⟨s.size, Nat.le_refl _, by go_num, fun j hj => by rw [List.getElem?_eq_none (by omega)]; simp, rfl⟩
  case round =>
    obtain ⟨k, hk, rfl, hno, rfl⟩ := hrel
    have HNO : Hid (∀ j : Nat, k ≤ j → s.data.toList[j]? ≠ some (47 : UInt8)) := hno
    clear hno
    by_cases hk0 : k = 0
    · have HU : Hid (up s.data.toList = []) := by
        show _ = _
        unfold up
        rw [lst_no (fun j => HNO.out j (by omega))]
      subst hk0
      go_wp2
      go_ret
      exact ⟨by rw [HU.out]; first | done | rfl, Below.refl _ _⟩
    · obtain ⟨K, rfl⟩ : ∃ K, k = K + 1 := ⟨k - 1, by omega⟩
      have hK1 : ((K + 1 : Nat) : Int) - 1 = (K : Int) := by omega
      have hK0 : (0 : Int) ≤ (K : Int) := by omega
      have hK2 : (K : Int) < (s.size : Int) := by omega
      have hK3 : (K : Int) ≤ (s.size : Int) := by omega
      have hlt : K < s.size := by omega
      rw [hK1]
      by_cases h47 : s[K] = 47
      · have hbi : (s[K].toNat : Int) = 47 := by rw [h47]; rfl
        have HU : Hid (up s.data.toList = s.data.toList.take K) := by
          show _ = _
          unfold up
          rw [lst_of (i := K) (by rw [at_byte hlt, h47]) (fun j hj => HNO.out j (by omega))]
        have HE : Hid (s.extract 0 K = ⟨(s.data.toList.take K).toArray⟩) := take_ext (by omega)
        clear h47
        go_wp2
        go_ret
        exact ⟨by rw [HU.out, ← HE.out]; first | done | rfl, Below.refl _ _⟩
      · have hbn : ¬ s[K].toNat = 47 := fun e => h47 (UInt8.toNat.inj e)
        have hbi : ¬ (s[K].toNat : Int) = 47 := by omega
        have hbb : ((s[K].toNat : Int) == 47) = false := by simpa using hbi
        have HN : Hid (∀ j : Nat, K ≤ j → s.data.toList[j]? ≠ some (47 : UInt8)) := fun j hj e => by
          rcases Nat.lt_or_ge K j with h | h
          · exact HNO.out j h e
          · obtain rfl : j = K := by omega
            rw [at_byte hlt] at e
            exact h47 (Option.some.inj e)
        clear h47 hbn
        go_wp2
        go_roundw
        case rel => exact ⟨K, by omega, by first | rfl | go_num, HN.out, by first | rfl | trivial⟩
        case measure => simp [intOf] <;> omega

end Go.Proofs.YtkmhaemcpakobaaGreatDoor.tt

namespace Go.Proofs.YtkmhaemcpakobaaGreatDoor.tt
open Go.ChangeShapes Go.WideShapes Go.ChangeAt Go.RowKit Go.Deep
set_option linter.unusedVariables false
set_option linter.unusedSimpArgs false

/-! ### Trees of files: the specification, the search and the whole -/

theorem bl (x y : ByteArray) : Op.bytesLess x.toList y.toList = decide (x.data.toList < y.data.toList) := by rw [ByteArray.toList_eq, ByteArray.toList_eq, Go.Proofs.bytesLess_eq]

/-- An entry's four cells. -/
def N4 (w : World) (b o : Nat) (e : En) : Prop := w.cell? ⟨b, o, none⟩ = some (.string e.path) ∧ w.cell? ⟨b, o + 1, none⟩ = some (.int .i64 e.kind) ∧ w.cell? ⟨b, o + 2, none⟩ = some (.string e.data) ∧ w.cell? ⟨b, o + 3, none⟩ = some (.bool e.exec)

theorem N4.below {w w' : World} {b o : Nat} {e : En} (h : N4 w b o e) (hb : Below w.heap.size w w') : N4 w' b o e := by
  have hlt : b < w.heap.size := World.block_lt_of_cell? _ _ h.1
  exact ⟨(hb.cell (p := ⟨b, _, none⟩) hlt).trans h.1, (hb.cell (p := ⟨b, _, none⟩) hlt).trans h.2.1, (hb.cell (p := ⟨b, _, none⟩) hlt).trans h.2.2.1, (hb.cell (p := ⟨b, _, none⟩) hlt).trans h.2.2.2⟩

/-- A list of entries behind an address. -/
def EnR (w : World) (b o n : Nat) (E : Nat → En) : Prop := ∀ i, i < n → N4 w b (o + i * 4) (E i)
theorem EnR.below {w w' : World} {b o n : Nat} {E : Nat → En} (h : EnR w b o n E) (hb : Below w.heap.size w w') : EnR w' b o n E := fun i hi => (h i hi).below hb

/-- Nothing in it is too long. -/
def SmE (n : Nat) (E : Nat → En) : Prop := ∀ i, i < n → (E i).path.size ≤ 1048576 ∧ (E i).data.size ≤ 1048576

noncomputable def dirB (E : Nat → En) (n : Nat) (p : List UInt8) : Bool := @decide (Dir E n p) (Classical.propDecidable _)
theorem dirB_yes {E : Nat → En} {n : Nat} {p : List UInt8} (h : Dir E n p) : dirB E n p = true := by unfold dirB; exact @decide_eq_true _ (Classical.propDecidable _) h
theorem dirB_no {E : Nat → En} {n : Nat} {p : List UInt8} (h : ¬ Dir E n p) : dirB E n p = false := by unfold dirB; exact @decide_eq_false _ (Classical.propDecidable _) h
theorem dirB_iff {E : Nat → En} {n : Nat} {p : List UInt8} : dirB E n p = true ↔ Dir E n p := by unfold dirB; exact @decide_eq_true_iff _ (Classical.propDecidable _)

/-- Is it a tree? -/
noncomputable def treeB (E : Nat → En) (n : Nat) : Bool := @decide (n ≤ 500 ∧ Tr E n) (Classical.propDecidable _)
theorem treeB_yes {E : Nat → En} {n : Nat} (h : n ≤ 500) (h2 : Tr E n) : treeB E n = true := by unfold treeB; exact @decide_eq_true _ (Classical.propDecidable _) ⟨h, h2⟩
theorem treeB_no {E : Nat → En} {n : Nat} (h : ¬ (n ≤ 500 ∧ Tr E n)) : treeB E n = false := by unfold treeB; exact @decide_eq_false _ (Classical.propDecidable _) h

/-- What a search finds. -/
def Fnd (E : Nat → En) (n : Nat) (p : List UInt8) (r : Int) : Prop := (∃ j : Nat, j < n ∧ pth E j = p ∧ r = (j : Int)) ∨ (∀ j, j < n → pth E j ≠ p) ∧ r = -1

theorem le_of_not {a b : List UInt8} (h : ¬ a < b) : b ≤ a := List.not_lt.1 h

set_option maxHeartbeats 4000000 in
set_option maxRecDepth 100000 in
theorem find_any (E : Nat → En) (b o n cap : Nat) (q : ByteArray) (w : World) (hR : EnR w b o n E) (hA : Asc E n) (hn : n ≤ 1048576) (hcap : n ≤ cap) :
    Calls Tryz.prog 81 #[.slice (some ⟨b, o, none⟩) n cap, .string q] w fun e w' => (∃ r : Int, e = .returned (.int .i64 r) ∧ Fnd E n q.data.toList r) ∧ Below w.heap.size w w' := by
  have HR : Hid (EnR w b o n E) := hR
  have HA : Hid (Asc E n) := hA
  clear hR hA
  go_enter Tryz.func81, Tryz.ntmps81
  go_wp2
  go_loopw [5, 6, 7] (fun x y _ wr => ∃ lo hi : Nat, x = .int .i64 (lo : Int) ∧ y = .int .i64 (hi : Int) ∧ lo ≤ hi ∧ hi ≤ n ∧ (∀ j, j < lo → pth E j < q.data.toList) ∧ (∀ j, hi ≤ j → j < n → ¬ pth E j < q.data.toList) ∧ wr = w) (fun x y _ _ => (intOf y - intOf x).toNat)
  case atStart => exact ⟨0, n, rfl, rfl, Nat.zero_le _, Nat.le_refl _, fun j h => by omega, fun j h h2 => by omega, rfl⟩
  case round =>
    obtain ⟨lo, hi, rfl, rfl, hlh, hhn, h1, h2, rfl⟩ := hrel
    have H1 : Hid (∀ j, j < lo → pth E j < q.data.toList) := h1
    have H2 : Hid (∀ j, hi ≤ j → j < n → ¬ pth E j < q.data.toList) := h2
    clear h1 h2
    by_cases hl : lo < hi
    · have hl' : (lo : Int) < (hi : Int) := by omega
      obtain ⟨m, hm⟩ : ∃ m : Nat, (lo + hi) / 2 = m := ⟨_, rfl⟩
      have hm1 : lo ≤ m := by omega
      have hm2 : m < hi := by omega
      have hmi : ((lo : Int) + (hi : Int)).tdiv 2 = (m : Int) := by rw [Int.tdiv_eq_ediv_of_nonneg (by omega)]; omega
      have hmi2 : ((lo : Int) + (hi : Int)) / 2 = (m : Int) := by omega
      have hm0 : (0 : Int) ≤ (m : Int) := by omega
      have hmn : (m : Int) < (n : Int) := by omega
      obtain ⟨c0, -, -, -⟩ := HR.out m (by omega)
      obtain ⟨M, hM⟩ : ∃ M, (E m).path = M := ⟨_, rfl⟩
      have hpm : pth E m = M.data.toList := by unfold pth; rw [hM]
      rw [hM] at c0
      have HPM : Hid (pth E m = M.data.toList) := hpm
      clear hm hM hpm
      by_cases hlt : M.data.toList < q.data.toList
      · have hbl : Op.bytesLess M.toList q.toList = true := by rw [bl]; simpa using hlt
        have HN : Hid (∀ j, j < m + 1 → pth E j < q.data.toList) := fun j hj => by
          rcases Nat.lt_or_ge j m with h | h
          · exact List.lt_trans (HA.out j m h (by omega)) (by rw [HPM.out]; exact hlt)
          · obtain rfl : j = m := by omega
            rw [HPM.out]; exact hlt
        clear hlt
        go_wp2
        go_roundw
        case rel => exact ⟨m + 1, hi, by go_num, by first | rfl | trivial, by omega, hhn, HN.out, H2.out, by first | rfl | trivial⟩
        case measure => simp [intOf] <;> omega
      · have hbl : Op.bytesLess M.toList q.toList = false := by rw [bl]; simpa using hlt
        have HN : Hid (∀ j, m ≤ j → j < n → ¬ pth E j < q.data.toList) := fun j hj hj2 h => by
          rcases Nat.lt_or_ge m j with h' | h'
          · exact hlt (by rw [← HPM.out]; exact List.lt_trans (HA.out m j h' hj2) h)
          · obtain rfl : j = m := by omega
            exact hlt (by rw [← HPM.out]; exact h)
        clear hlt
        go_wp2
        go_roundw
        case rel => exact ⟨lo, m, by first | rfl | trivial, by first | rfl | trivial | go_num, by omega, by omega, H1.out, HN.out, by first | rfl | trivial⟩
        case measure => simp [intOf] <;> omega
    · have hl' : ¬ (lo : Int) < (hi : Int) := by omega
      obtain rfl : lo = hi := by omega
      by_cases hln : lo < n
      · have hln' : (lo : Int) < (n : Int) := by omega
        have hl0 : (0 : Int) ≤ (lo : Int) := by omega
        obtain ⟨c0, -, -, -⟩ := HR.out lo hln
        obtain ⟨M, hM⟩ : ∃ M, (E lo).path = M := ⟨_, rfl⟩
        have HPM : Hid (pth E lo = M.data.toList) := by show _ = _; unfold pth; rw [hM]
        rw [hM] at c0
        clear hM
        by_cases he : M = q
        · subst he
          go_wp2
          go_ret
          exact ⟨⟨_, rfl, .inl ⟨lo, hln, HPM.out, rfl⟩⟩, Below.refl _ _⟩
        · have heb : (M.toList == q.toList) = false := by simpa [ByteArray.toList_eq] using fun e => he (ByteArray.ext (Array.toList_inj.1 e))
          have HF : Hid (∀ j, j < n → pth E j ≠ q.data.toList) := fun j hj e => by
            rcases Nat.lt_trichotomy j lo with h | h | h
            · exact List.lt_irrefl _ (by have := H1.out j h; rwa [e] at this)
            · subst h
              rw [HPM.out] at e
              exact he (ByteArray.ext (Array.toList_inj.1 e))
            · exact H2.out lo (Nat.le_refl _) hln (by rw [← e]; exact HA.out lo j h hj)
          clear he
          go_wp2
          go_ret
          exact ⟨⟨_, rfl, .inr ⟨HF.out, rfl⟩⟩, Below.refl _ _⟩
      · have hln' : ¬ (lo : Int) < (n : Int) := by omega
        have HF : Hid (∀ j, j < n → pth E j ≠ q.data.toList) := fun j hj e => List.lt_irrefl _ (by have := H1.out j (by omega); rwa [e] at this)
        go_wp2
        go_ret
        exact ⟨⟨_, rfl, .inr ⟨HF.out, rfl⟩⟩, Below.refl _ _⟩

set_option maxHeartbeats 2000000 in
set_option maxRecDepth 100000 in
theorem dir_any (E : Nat → En) (b o n cap : Nat) (q : ByteArray) (w : World) (hR : EnR w b o n E) (hA : Asc E n) (hn : n ≤ 1048576) (hcap : n ≤ cap) :
    Calls Tryz.prog 55 #[.slice (some ⟨b, o, none⟩) n cap, .string q] w fun e w' => e = .returned (.bool (dirB E n q.data.toList)) ∧ Below w.heap.size w w' := by
  have HFI : Hid (Calls Tryz.prog 81 #[.slice (some ⟨b, o, none⟩) n cap, .string q] w fun e w' => (∃ r : Int, e = .returned (.int .i64 r) ∧ Fnd E n q.data.toList r) ∧ Below w.heap.size w w') := find_any E b o n cap q w hR hA hn hcap
  have HR : Hid (EnR w b o n E) := hR
  have HA : Hid (Asc E n) := hA
  clear hR hA
  go_enter Tryz.func55, Tryz.ntmps55
  go_wp2_with (go_at_call 81; refine HFI.out.mono ?_; rintro e w1 ⟨⟨r, rfl, hf⟩, hl1⟩; refine Hid.out ?_)
  refine Lib.hid ?_
  rcases hf with ⟨j, hj, hp, rfl⟩ | ⟨hno, rfl⟩
  · have hj0 : (0 : Int) ≤ (j : Int) := by omega
    have hjn : (j : Int) < (n : Int) := by omega
    obtain ⟨-, c1, -, -⟩ := (HR.out j hj).below hl1
    have HD : Hid ((E j).kind = 1 ↔ Dir E n q.data.toList) := ⟨fun h => ⟨j, hj, hp, h⟩, fun ⟨i, hi, hpi, hk⟩ => by
      rcases Nat.lt_trichotomy i j with h | h | h
      · exact absurd (HA.out i j h hj) (by rw [hpi, hp]; exact List.lt_irrefl _)
      · rw [← h]; exact hk
      · exact absurd (HA.out j i h hi) (by rw [hpi, hp]; exact List.lt_irrefl _)⟩
    obtain ⟨k, hk⟩ : ∃ k, (E j).kind = k := ⟨_, rfl⟩
    rw [hk] at c1 HD
    clear hp hk
    by_cases hk1 : k = 1
    · have HD2 : Hid (Dir E n q.data.toList) := HD.out.1 hk1
      subst hk1
      go_wp2
      go_ret
      exact ⟨by rw [dirB_yes HD2.out]; first | done | rfl, hl1⟩
    · have HD2 : Hid (¬ Dir E n q.data.toList) := fun h => hk1 (HD.out.2 h)
      go_wp2
      go_ret
      exact ⟨by rw [dirB_no HD2.out]; first | done | rfl | simp [hk1], hl1⟩
  · have HD2 : Hid (¬ Dir E n q.data.toList) := fun ⟨i, hi, hpi, _⟩ => hno i hi hpi
    clear hno
    go_wp2
    go_ret
    exact ⟨by rw [dirB_no HD2.out]; first | done | rfl, hl1⟩

end Go.Proofs.YtkmhaemcpakobaaGreatDoor.tt

namespace Go.Proofs.YtkmhaemcpakobaaGreatDoor.up
open Go.ChangeShapes Go.WideShapes Go.ChangeAt Go.RowKit Go.Deep
set_option linter.unusedVariables false
set_option linter.unusedSimpArgs false

/-! ### Bytes that are unpacked: the program's reader -/

/-- What is left of the bytes in block b, from place i on. -/
def Rs (w : World) (p b N i : Nat) : Prop := ∃ o c, w.cell? ⟨p, 0, none⟩ = some (.slice (some ⟨b, o, none⟩) (N - i) c) ∧ w.frozen? ⟨p, 0, none⟩ = false ∧ (i < N → o = i) ∧ N - i ≤ c ∧ c ≤ 1048576 ∧ i ≤ N

theorem Rs.kept {w w' : World} {p b N i : Nat} (h : Rs w p b N i) (hb : w'.heap[p]? = w.heap[p]?) : Rs w' p b N i := by
  obtain ⟨o, c, h1, h2, h3⟩ := h
  exact ⟨o, c, (World.cell?_of_block (a := ⟨p, 0, none⟩) hb).trans h1, (World.frozen?_of_block (a := ⟨p, 0, none⟩) hb).trans h2, h3⟩
theorem Rs.lt {w : World} {p b N i : Nat} (h : Rs w p b N i) : p < w.heap.size := by obtain ⟨o, c, h1, _⟩ := h; exact World.block_lt_of_cell? _ _ h1
theorem Rs.below {w w' : World} {p b N i : Nat} (h : Rs w p b N i) (hb : Below w.heap.size w w') : Rs w' p b N i := h.kept (hb.block p h.lt)

theorem grown_set {w w' : World} {b : Nat} (h : w.grownBy w' (some b)) (i : Nat) (x : Value) : w.grownBy (w'.setCell ⟨b, i, none⟩ x) (some b) :=
  ⟨h.os, h.tape, h.output, by simpa using h.size, fun k hk hne => by
    rw [← h.block k hk hne]
    simp only [World.setCell]
    rw [Array.getElem?_modify]
    split
    · next e => exact absurd (by simp [e]) hne
    · rfl⟩
theorem grown_refl (w : World) (r : Option Nat) : w.grownBy w r := ⟨rfl, rfl, rfl, Nat.le_refl _, fun _ _ _ => rfl⟩

theorem Rs.next {w : World} {p b N i o c k : Nat} (hc : w.cell? ⟨p, 0, none⟩ = some (.slice (some ⟨b, o, none⟩) (N - i) c)) (hf : w.frozen? ⟨p, 0, none⟩ = false) (ho : i < N → o = i) (hcN : N - i ≤ c) (hcm : c ≤ 1048576) (hiN : i ≤ N) (hk : k ≤ N - i) (z o' : Nat) (hz : z = N - (i + k)) (ho' : i + k < N → o' = i + k) :
    Rs (w.setCell ⟨p, 0, none⟩ (.slice (some ⟨b, o', none⟩) z (c - k))) p b N (i + k) := by
  subst hz
  exact ⟨o', c - k, World.cell?_setCell_same _ _ _ hc, by rw [← hf]; simp [go_sem], ho', by omega, by omega, by omega⟩

/-- What a cut leaves. -/
def CutR (w w' : World) (p b N i s : Nat) (e : Ending) : Prop := ∃ o k, k = min s (N - i) ∧ e = .returned (.slice (some ⟨b, o, none⟩) k k) ∧ (i < N → o = i) ∧ Rs w' p b N (i + k) ∧ w.grownBy w' (some p)
theorem cutR_mk {w w' : World} {p b N i s o k : Nat} (h1 : k = min s (N - i)) (h2 : i < N → o = i) (h3 : Rs w' p b N (i + k)) (h4 : w.grownBy w' (some p)) : CutR w w' p b N i s (.returned (.slice (some ⟨b, o, none⟩) k k)) := ⟨o, k, h1, rfl, h2, h3, h4⟩

set_option maxRecDepth 100000 in
theorem cut_any (b p N i s : Nat) (hs : s < 18446744073709551616) (w : World) (h : Rs w p b N i) (hN : N ≤ 1048576) :
    Calls Tryz.prog 70 #[.pointer (some ⟨p, 0, none⟩), .int .u64 (s : Int)] w fun e w' => CutR w w' p b N i s e := by
  obtain ⟨o, c, hc, hf, ho, hcN, hcm, hiN⟩ := h
  obtain ⟨n, hn⟩ : ∃ n, n = N - i := ⟨_, rfl⟩
  have HNN : Hid (n = N - i) := hn
  have HS : Hid (s < 18446744073709551616) := hs
  rw [← hn] at hc hcN
  have HC : Hid (w.cell? ⟨p, 0, none⟩ = some (.slice (some ⟨b, o, none⟩) (N - i) c)) := by rw [← hn]; exact hc
  have hnm : n ≤ 1048576 := by omega
  obtain ⟨k, hk⟩ : ∃ k, k = min s n := ⟨_, rfl⟩
  have hmn : min (s : Int) (n : Int) = (k : Int) := by omega
  have hkn : k ≤ n := by omega
  have HKK : Hid (k = min s (N - i)) := by show _ = _; rw [hk, HNN.out]
  have HZ : Hid (n - k = N - (i + k)) := by show _ = _; have := HNN.out; omega
  have HO : Hid (i < N → o = i) := ho
  have HNI : Hid (k ≤ N - i) := by show _ ≤ _; have := HNN.out; omega
  clear hs hn hk ho
  go_enter Tryz.func70, Tryz.ntmps70
  go_wp2_with fail
  · go_ret
    have h := Rs.next HC.out hf HO.out (by have := HNN.out; omega) hcm hiN HNI.out (n - k) o HZ.out (fun h => by have := HNN.out; omega)
    rw [show c - k = 0 by omega] at h
    exact cutR_mk HKK.out HO.out h (grown_set (grown_refl _ _) _ _)
  · go_ret
    exact cutR_mk HKK.out HO.out (Rs.next HC.out hf HO.out (by have := HNN.out; omega) hcm hiN HNI.out (n - k) (o + k) HZ.out (fun h => by rw [HO.out (by omega)])) (grown_set (grown_refl _ _) _ _)

end Go.Proofs.YtkmhaemcpakobaaGreatDoor.up

namespace Go.Proofs.YtkmhaemcpakobaaGreatDoor.up
open Go.ChangeShapes Go.WideShapes Go.ChangeAt Go.RowKit Go.Deep
set_option linter.unusedVariables false
set_option linter.unusedSimpArgs false

/-! ### Bytes that are unpacked: the program's numbers -/

/-- The bytes of a block. -/
def By (w : World) (b : Nat) (l : List UInt8) : Prop := ∀ j (h : j < l.length), w.cell? ⟨b, j, none⟩ = some (.int .u8 (l[j].toNat : Int))
theorem By.grown {w w' : World} {b p : Nat} {l : List UInt8} (h : By w b l) (hg : w.grownBy w' (some p)) (hb : b ≠ p) : By w' b l := fun j hj => by
  have hlt := World.block_lt_of_cell? _ _ (h j hj)
  exact (World.cell?_of_block (a := ⟨b, j, none⟩) (hg.block b hlt (fun e => hb (Option.some.inj e)))).trans (h j hj)
theorem By.below {w w' : World} {b : Nat} {l : List UInt8} (h : By w b l) (hb : Below w.heap.size w w') : By w' b l := fun j hj => (hb.cell (p := ⟨b, j, none⟩) (World.block_lt_of_cell? _ _ (h j hj))).trans (h j hj)

theorem num_ne (x : Nat) : bf.num x ≠ [] := by
  by_cases h : x < 128
  · rw [bf.num_low h]; simp
  · rw [bf.num_high h]; simp

/-- How long what is left is. -/
def leftN (p : Nat) (w : World) : Nat := match w.cell? ⟨p, 0, none⟩ with
  | some (.slice _ n _) => n
  | _ => 0
theorem leftN_of {w : World} {p b N i : Nat} (h : Rs w p b N i) : leftN p w = N - i := by
  obtain ⟨o, c, h1, _⟩ := h
  unfold leftN
  rw [h1]

/-- One group more. -/
def nx (a sh v : Nat) : Nat := (bits BinOp.or IntKind.u64 (a : Int) (IntKind.u64.wrap ((v : Int) % 128 * 2 ^ min sh 64))).toNat
theorem nx_wf (a sh v : Nat) : bits BinOp.or IntKind.u64 (a : Int) (IntKind.u64.wrap ((v : Int) % 128 * 2 ^ min sh 64)) = (nx a sh v : Int) ∧ nx a sh v < 18446744073709551616 := by
  have h := wf_bits BinOp.or .u64 (a : Int) (IntKind.u64.wrap ((v : Int) % 128 * 2 ^ min sh 64))
  have h' : 0 ≤ bits BinOp.or IntKind.u64 (a : Int) (IntKind.u64.wrap ((v : Int) % 128 * 2 ^ min sh 64)) ∧ bits BinOp.or IntKind.u64 (a : Int) (IntKind.u64.wrap ((v : Int) % 128 * 2 ^ min sh 64)) ≤ 18446744073709551615 := by
    simpa [Lit.wf, IntKind.min, IntKind.max, IntKind.signed, IntKind.bits] using h
  unfold nx
  omega
theorem nx_eq {a sh v : Nat} (ha : a < 2 ^ sh) (hb : a + v % 128 * 2 ^ sh ≤ 1048576) : nx a sh v = a + v % 128 * 2 ^ sh := by
  have hc : IntKind.u64.wrap ((v : Int) % 128 * 2 ^ min sh 64) = ((v % 128 * 2 ^ sh : Nat) : Int) := by
    by_cases h0 : v % 128 = 0
    · rw [show (v : Int) % 128 = 0 by omega, h0, Int.zero_mul, Nat.zero_mul]; rfl
    · have h1 : 1 ≤ v % 128 := by omega
      have h2 : 2 ^ sh ≤ v % 128 * 2 ^ sh := Nat.le_mul_of_pos_left _ h1
      have h3 : sh < 64 := by
        apply Classical.byContradiction
        intro h
        have : 2 ^ 64 ≤ 2 ^ sh := Nat.pow_le_pow_right (by omega) (by omega)
        have e64 : (2 : Nat) ^ 64 = 18446744073709551616 := rfl
        omega
      rw [Nat.min_eq_left (by omega)]
      have e : (v : Int) % 128 * 2 ^ sh = ((v % 128 * 2 ^ sh : Nat) : Int) := by
        rw [Int.natCast_mul, Int.natCast_pow]; rfl
      rw [e, IntKind.wrap_u64]
      omega
  have h := (nx_wf a sh v).1
  rw [hc, bits_or_u64_nat a (v % 128 * 2 ^ sh) (by omega) (by omega)] at h
  have ho := Nat.two_pow_add_eq_or_of_lt (i := sh) ha (v % 128)
  rw [Nat.mul_comm (2 ^ sh)] at ho
  rw [Nat.or_comm, ← ho] at h
  omega

/-- What a number leaves. -/
def NumR (w w' : World) (p b : Nat) (l : List UInt8) (i : Nat) (e : Ending) : Prop := ∃ (m i' : Nat), e = .returned (.int .u64 (m : Int)) ∧ m < 18446744073709551616 ∧ i ≤ i' ∧ Rs w' p b l.length i' ∧ w.grownBy w' (some p) ∧ ∀ x tail, l.drop i = bf.num x ++ tail → x ≤ 1048576 → m = x ∧ l.drop i' = tail

/-- Where its loop stands. -/
structure NumI (w wr : World) (p b : Nat) (l : List UInt8) (i : Nat) (a sh i' : Nat) : Prop where
  ab : a < 18446744073709551616
  le : i ≤ i'
  shl : sh ≤ 7 * (i' - i)
  rs : Rs wr p b l.length i'
  gr : w.grownBy wr (some p)
  pr : ∀ x tail, l.drop i = bf.num x ++ tail → x ≤ 1048576 → ∃ y, l.drop i' = bf.num y ++ tail ∧ x = a + y * 2 ^ sh ∧ a < 2 ^ sh

set_option maxRecDepth 100000 in
set_option maxHeartbeats 4000000 in
theorem number_any (b p i : Nat) (l : List UInt8) (hbp : b ≠ p) (hN : l.length ≤ 1048576) (w : World) (h : Rs w p b l.length i) (hB : By w b l) :
    Calls Tryz.prog 71 #[.pointer (some ⟨p, 0, none⟩)] w fun e w' => NumR w w' p b l i e := by
  have HBY : Hid (∀ W, w.grownBy W (some p) → By W b l) := fun W hW => hB.grown hW hbp
  have HCU : Hid (∀ W j, Rs W p b l.length j → Calls Tryz.prog 70 #[.pointer (some ⟨p, 0, none⟩), .int .u64 1] W fun e w' => CutR W w' p b l.length j 1 e) := fun W j hW => cut_any b p l.length j 1 (by omega) W hW hN
  have HI0 : Hid (NumI w w p b l i 0 0 i) := ⟨by omega, Nat.le_refl _, by omega, h, grown_refl _ _, fun x tail hx _ => ⟨x, hx, by simp, by simp⟩⟩
  clear h hB
  go_enter Tryz.func71, Tryz.ntmps71
  go_wp2
  go_loopw [3, 4, 5] (fun v s _ wr => ∃ (a sh i' : Nat), v = .int .u64 (a : Int) ∧ s = .int .i64 (sh : Int) ∧ NumI w wr p b l i a sh i') (fun _ _ _ wr => leftN p wr)
  case atStart => exact ⟨0, 0, i, rfl, rfl, HI0.out⟩
  case round =>
    obtain ⟨a, sh, i', rfl, rfl, hI⟩ := hrel
    have HII : Hid (NumI w wr p b l i a sh i') := hI
    have hRs := hI.rs
    obtain ⟨o, c, hc, hf, ho, hcN, hcm, hiN⟩ := hRs
    have hsh : sh ≤ 7340032 := by have := hI.shl; omega
    clear hI
    by_cases hil : i' < l.length
    · obtain ⟨n, hn⟩ : ∃ n, l.length - i' = n + 1 := ⟨l.length - i' - 1, by omega⟩
      rw [hn] at hc
      have hpos : (0 : Int) < ((n + 1 : Nat) : Int) := by omega
      obtain ⟨y, hy⟩ : ∃ y, y = l[i'] := ⟨_, rfl⟩
      have HYC : Hid (∀ W, w.grownBy W (some p) → W.cell? ⟨b, i', none⟩ = some (.int .u8 (y.toNat : Int))) := fun W hW => by rw [hy]; exact HBY.out W hW i' hil
      have HDR : Hid (l.drop i' = y :: l.drop (i' + 1)) := by show _ = _; rw [hy]; exact List.drop_eq_getElem_cons hil
      have hyb : (y.toNat : Int) < 256 := by have := y.toNat_lt; omega
      have HMN : Hid (min 1 (l.length - i') = 1) := by show _ = _; omega
      clear hn hy
      go_wp2_with (go_at_call 70; refine (HCU.out _ _ HII.out.rs).mono ?_; rintro e w1 ⟨o1, k1, hk1, rfl, ho1, hr1, hg1⟩; obtain rfl : k1 = 1 := hk1.trans HMN.out; obtain rfl := ho1 hil; clear hk1; have hcell := HYC.out w1 (HII.out.gr.trans hg1); refine Hid.out ?_)
      refine Lib.hid ?_
      by_cases hlow : y.toNat < 128
      · have hlow' : (y.toNat : Int) < 128 := by omega
        have HR : Hid (NumR w w1 p b l i (.returned (.int .u64 (nx a sh y.toNat : Int)))) := by
          refine ⟨_, o1 + 1, rfl, (nx_wf a sh y.toNat).2, by have := HII.out.le; omega, hr1, HII.out.gr.trans hg1, fun x tail hx hxb => ?_⟩
          obtain ⟨z, hz, hxe, hal⟩ := HII.out.pr x tail hx hxb
          rw [HDR.out] at hz
          by_cases hz1 : z < 128
          · rw [bf.num_low hz1, List.singleton_append, List.cons.injEq] at hz
            have hyz : y.toNat = z := by rw [hz.1, UInt8.toNat_ofNat']; omega
            refine ⟨?_, hz.2⟩
            rw [nx_eq hal (by rw [hyz, Nat.mod_eq_of_lt hz1]; omega), hyz, Nat.mod_eq_of_lt hz1, hxe]
          · rw [bf.num_high hz1, List.cons_append, List.cons.injEq] at hz
            have hyz : y.toNat = z % 128 + 128 := by rw [hz.1, UInt8.toNat_ofNat']; omega
            omega
        have hnx := (nx_wf a sh y.toNat).1
        clear hr1 hg1
        go_wp2
        go_ret
        exact HR.out
      · have hlow' : ¬ (y.toNat : Int) < 128 := by omega
        have HR : Hid (NumI w w1 p b l i (nx a sh y.toNat) (sh + 7) (o1 + 1)) := by
          refine ⟨(nx_wf a sh y.toNat).2, by have := HII.out.le; omega, by have h1 := HII.out.le; have h2 := HII.out.shl; omega, hr1, HII.out.gr.trans hg1, fun x tail hx hxb => ?_⟩
          obtain ⟨z, hz, hxe, hal⟩ := HII.out.pr x tail hx hxb
          rw [HDR.out] at hz
          by_cases hz1 : z < 128
          · rw [bf.num_low hz1, List.singleton_append, List.cons.injEq] at hz
            have hyz : y.toNat = z := by rw [hz.1, UInt8.toNat_ofNat']; omega
            omega
          · rw [bf.num_high hz1, List.cons_append, List.cons.injEq] at hz
            have hyz : y.toNat = z % 128 + 128 := by rw [hz.1, UInt8.toNat_ofNat']; omega
            have hm : y.toNat % 128 = z % 128 := by omega
            have hsplit : z * 2 ^ sh = z % 128 * 2 ^ sh + z / 128 * (128 * 2 ^ sh) := by
              rw [← Nat.mul_assoc, ← Nat.add_mul]
              congr 1
              omega
            have hpow : 2 ^ (sh + 7) = 128 * 2 ^ sh := by rw [Nat.pow_add]; omega
            have hb1 : a + y.toNat % 128 * 2 ^ sh ≤ 1048576 := by rw [hm]; omega
            refine ⟨z / 128, hz.2, ?_, ?_⟩
            · rw [nx_eq hal hb1, hm, hpow]; omega
            · rw [nx_eq hal hb1, hm, hpow]
              have : z % 128 * 2 ^ sh ≤ 127 * 2 ^ sh := Nat.mul_le_mul_right _ (by omega)
              omega
        have HLT : Hid (leftN p w1 < leftN p wr) := by
          show _ < _
          rw [leftN_of hr1, leftN_of HII.out.rs]
          omega
        have hnx := (nx_wf a sh y.toNat).1
        clear hr1 hg1
        go_wp2
        exact ⟨⟨_, sh + 7, o1 + 1, rfl, by go_num, HR.out⟩, HLT.out⟩
    · have hn0 : l.length - i' = 0 := by omega
      rw [hn0] at hc
      have HR : Hid (NumR w wr p b l i (.returned (.int .u64 (a : Int)))) := by
        refine ⟨a, i', rfl, HII.out.ab, HII.out.le, HII.out.rs, HII.out.gr, fun x tail hx hxb => ?_⟩
        obtain ⟨z, hz, _, _⟩ := HII.out.pr x tail hx hxb
        rw [List.drop_eq_nil_of_le (by omega)] at hz
        exact absurd (List.append_eq_nil_iff.1 hz.symm).1 (num_ne z)
      clear hn0
      go_wp2
      go_ret
      exact HR.out

end Go.Proofs.YtkmhaemcpakobaaGreatDoor.up
