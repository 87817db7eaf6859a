import Derived.Test.YtjjndaiojilhiaaDoorTB
import Derived.Lib.Hide
namespace Go.Proofs.YtjjndaiojilhiaaDoor.tt
open Go.ChangeShapes Go.WideShapes Go.ChangeAt Go.RowKit Go.Deep
set_option linter.unusedVariables false
set_option linter.unusedSimpArgs false

/-! ### Trees of files: the specification, the search and the whole -/

theorem bl (x y : ByteArray) : Op.bytesLess x.toList y.toList = decide (x.data.toList < y.data.toList) := by rw [ByteArray.toList_eq, ByteArray.toList_eq, Go.Proofs.bytesLess_eq]

/-- An entry's four cells. -/
def N4 (w : World) (b o : Nat) (e : En) : Prop := w.cell? ⟨b, o, none⟩ = some (.string e.path) ∧ w.cell? ⟨b, o + 1, none⟩ = some (.int .i64 e.kind) ∧ w.cell? ⟨b, o + 2, none⟩ = some (.string e.data) ∧ w.cell? ⟨b, o + 3, none⟩ = some (.bool e.exec)

theorem N4.below {w w' : World} {b o : Nat} {e : En} (h : N4 w b o e) (hb : Below w.heap.size w w') : N4 w' b o e := by
  have hlt : b < w.heap.size := World.block_lt_of_cell? _ _ h.1
  exact ⟨(hb.cell (p := ⟨b, _, none⟩) hlt).trans h.1, (hb.cell (p := ⟨b, _, none⟩) hlt).trans h.2.1, (hb.cell (p := ⟨b, _, none⟩) hlt).trans h.2.2.1, (hb.cell (p := ⟨b, _, none⟩) hlt).trans h.2.2.2⟩

/-- A list of entries behind an address. -/
def EnR (w : World) (b o n : Nat) (E : Nat → En) : Prop := ∀ i, i < n → N4 w b (o + i * 4) (E i)
theorem EnR.below {w w' : World} {b o n : Nat} {E : Nat → En} (h : EnR w b o n E) (hb : Below w.heap.size w w') : EnR w' b o n E := fun i hi => (h i hi).below hb

/-- Nothing in it is too long. -/
def SmE (n : Nat) (E : Nat → En) : Prop := ∀ i, i < n → (E i).path.size ≤ 1048576 ∧ (E i).data.size ≤ 1048576

noncomputable def dirB (E : Nat → En) (n : Nat) (p : List UInt8) : Bool := @decide (Dir E n p) (Classical.propDecidable _)
theorem dirB_yes {E : Nat → En} {n : Nat} {p : List UInt8} (h : Dir E n p) : dirB E n p = true := by unfold dirB; exact @decide_eq_true _ (Classical.propDecidable _) h
theorem dirB_no {E : Nat → En} {n : Nat} {p : List UInt8} (h : ¬ Dir E n p) : dirB E n p = false := by unfold dirB; exact @decide_eq_false _ (Classical.propDecidable _) h
theorem dirB_iff {E : Nat → En} {n : Nat} {p : List UInt8} : dirB E n p = true ↔ Dir E n p := by unfold dirB; exact @decide_eq_true_iff _ (Classical.propDecidable _)

/-- Is it a tree? -/
noncomputable def treeB (E : Nat → En) (n : Nat) : Bool := @decide (n ≤ 500 ∧ Tr E n) (Classical.propDecidable _)
theorem treeB_yes {E : Nat → En} {n : Nat} (h : n ≤ 500) (h2 : Tr E n) : treeB E n = true := by unfold treeB; exact @decide_eq_true _ (Classical.propDecidable _) ⟨h, h2⟩
theorem treeB_no {E : Nat → En} {n : Nat} (h : ¬ (n ≤ 500 ∧ Tr E n)) : treeB E n = false := by unfold treeB; exact @decide_eq_false _ (Classical.propDecidable _) h

/-- What a search finds. -/
def Fnd (E : Nat → En) (n : Nat) (p : List UInt8) (r : Int) : Prop := (∃ j : Nat, j < n ∧ pth E j = p ∧ r = (j : Int)) ∨ (∀ j, j < n → pth E j ≠ p) ∧ r = -1

theorem le_of_not {a b : List UInt8} (h : ¬ a < b) : b ≤ a := List.not_lt.1 h

set_option maxHeartbeats 4000000 in
set_option maxRecDepth 100000 in
theorem find_any (E : Nat → En) (b o n cap : Nat) (q : ByteArray) (w : World) (hR : EnR w b o n E) (hA : Asc E n) (hn : n ≤ 1048576) (hcap : n ≤ cap) :
    Calls Tryd.prog 16 #[.slice (some ⟨b, o, none⟩) n cap, .string q] w fun e w' => (∃ r : Int, e = .returned (.int .i64 r) ∧ Fnd E n q.data.toList r) ∧ Below w.heap.size w w' := by
  have HR : Hid (EnR w b o n E) := hR
  have HA : Hid (Asc E n) := hA
  clear hR hA
  go_enter Tryd.func16, Tryd.ntmps16
  go_wp2
  go_loopw [5, 6, 7] (fun x y _ wr => ∃ lo hi : Nat, x = .int .i64 (lo : Int) ∧ y = .int .i64 (hi : Int) ∧ lo ≤ hi ∧ hi ≤ n ∧ (∀ j, j < lo → pth E j < q.data.toList) ∧ (∀ j, hi ≤ j → j < n → ¬ pth E j < q.data.toList) ∧ wr = w) (fun x y _ _ => (intOf y - intOf x).toNat)
  case atStart => exact ⟨0, n, rfl, rfl, Nat.zero_le _, Nat.le_refl _, fun j h => by omega, fun j h h2 => by omega, rfl⟩
  case round =>
    obtain ⟨lo, hi, rfl, rfl, hlh, hhn, h1, h2, rfl⟩ := hrel
    have H1 : Hid (∀ j, j < lo → pth E j < q.data.toList) := h1
    have H2 : Hid (∀ j, hi ≤ j → j < n → ¬ pth E j < q.data.toList) := h2
    clear h1 h2
    by_cases hl : lo < hi
    · have hl' : (lo : Int) < (hi : Int) := by omega
      obtain ⟨m, hm⟩ : ∃ m : Nat, (lo + hi) / 2 = m := ⟨_, rfl⟩
      have hm1 : lo ≤ m := by omega
      have hm2 : m < hi := by omega
      have hmi : ((lo : Int) + (hi : Int)).tdiv 2 = (m : Int) := by rw [Int.tdiv_eq_ediv_of_nonneg (by omega)]; omega
      have hmi2 : ((lo : Int) + (hi : Int)) / 2 = (m : Int) := by omega
      have hm0 : (0 : Int) ≤ (m : Int) := by omega
      have hmn : (m : Int) < (n : Int) := by omega
      obtain ⟨c0, -, -, -⟩ := HR.out m (by omega)
      obtain ⟨M, hM⟩ : ∃ M, (E m).path = M := ⟨_, rfl⟩
      have hpm : pth E m = M.data.toList := by unfold pth; rw [hM]
      rw [hM] at c0
      have HPM : Hid (pth E m = M.data.toList) := hpm
      clear hm hM hpm
      by_cases hlt : M.data.toList < q.data.toList
      · have hbl : Op.bytesLess M.toList q.toList = true := by rw [bl]; simpa using hlt
        have HN : Hid (∀ j, j < m + 1 → pth E j < q.data.toList) := fun j hj => by
          rcases Nat.lt_or_ge j m with h | h
          · exact List.lt_trans (HA.out j m h (by omega)) (by rw [HPM.out]; exact hlt)
          · obtain rfl : j = m := by omega
            rw [HPM.out]; exact hlt
        clear hlt
        go_wp2
        go_roundw
        case rel => exact ⟨m + 1, hi, by go_num, by first | rfl | trivial, by omega, hhn, HN.out, H2.out, by first | rfl | trivial⟩
        case measure => simp [intOf] <;> omega
      · have hbl : Op.bytesLess M.toList q.toList = false := by rw [bl]; simpa using hlt
        have HN : Hid (∀ j, m ≤ j → j < n → ¬ pth E j < q.data.toList) := fun j hj hj2 h => by
          rcases Nat.lt_or_ge m j with h' | h'
          · exact hlt (by rw [← HPM.out]; exact List.lt_trans (HA.out m j h' hj2) h)
          · obtain rfl : j = m := by omega
            exact hlt (by rw [← HPM.out]; exact h)
        clear hlt
        go_wp2
        go_roundw
        case rel => exact ⟨lo, m, by first | rfl | trivial, by first | rfl | trivial | go_num, by omega, by omega, H1.out, HN.out, by first | rfl | trivial⟩
        case measure => simp [intOf] <;> omega
    · have hl' : ¬ (lo : Int) < (hi : Int) := by omega
      obtain rfl : lo = hi := by omega
      by_cases hln : lo < n
      · have hln' : (lo : Int) < (n : Int) := by omega
        have hl0 : (0 : Int) ≤ (lo : Int) := by omega
        obtain ⟨c0, -, -, -⟩ := HR.out lo hln
        obtain ⟨M, hM⟩ : ∃ M, (E lo).path = M := ⟨_, rfl⟩
        have HPM : Hid (pth E lo = M.data.toList) := by show _ = _; unfold pth; rw [hM]
        rw [hM] at c0
        clear hM
        by_cases he : M = q
        · subst he
          go_wp2
          go_ret
          exact ⟨⟨_, rfl, .inl ⟨lo, hln, HPM.out, rfl⟩⟩, Below.refl _ _⟩
        · have heb : (M.toList == q.toList) = false := by simpa [ByteArray.toList_eq] using fun e => he (ByteArray.ext (Array.toList_inj.1 e))
          have HF : Hid (∀ j, j < n → pth E j ≠ q.data.toList) := fun j hj e => by
            rcases Nat.lt_trichotomy j lo with h | h | h
            · exact List.lt_irrefl _ (by have := H1.out j h; rwa [e] at this)
            · subst h
              rw [HPM.out] at e
              exact he (ByteArray.ext (Array.toList_inj.1 e))
            · exact H2.out lo (Nat.le_refl _) hln (by rw [← e]; exact HA.out lo j h hj)
          clear he
          go_wp2
          go_ret
          exact ⟨⟨_, rfl, .inr ⟨HF.out, rfl⟩⟩, Below.refl _ _⟩
      · have hln' : ¬ (lo : Int) < (n : Int) := by omega
        have HF : Hid (∀ j, j < n → pth E j ≠ q.data.toList) := fun j hj e => List.lt_irrefl _ (by have := H1.out j (by omega); rwa [e] at this)
        go_wp2
        go_ret
        exact ⟨⟨_, rfl, .inr ⟨HF.out, rfl⟩⟩, Below.refl _ _⟩

set_option maxHeartbeats 2000000 in
set_option maxRecDepth 100000 in
theorem dir_any (E : Nat → En) (b o n cap : Nat) (q : ByteArray) (w : World) (hR : EnR w b o n E) (hA : Asc E n) (hn : n ≤ 1048576) (hcap : n ≤ cap) :
    Calls Tryd.prog 26 #[.slice (some ⟨b, o, none⟩) n cap, .string q] w fun e w' => e = .returned (.bool (dirB E n q.data.toList)) ∧ Below w.heap.size w w' := by
  have HFI : Hid (Calls Tryd.prog 16 #[.slice (some ⟨b, o, none⟩) n cap, .string q] w fun e w' => (∃ r : Int, e = .returned (.int .i64 r) ∧ Fnd E n q.data.toList r) ∧ Below w.heap.size w w') := find_any E b o n cap q w hR hA hn hcap
  have HR : Hid (EnR w b o n E) := hR
  have HA : Hid (Asc E n) := hA
  clear hR hA
  go_enter Tryd.func26, Tryd.ntmps26
  go_wp2_with (go_at_call 16; refine HFI.out.mono ?_; rintro e w1 ⟨⟨r, rfl, hf⟩, hl1⟩; refine Hid.out ?_)
  refine Lib.hid ?_
  rcases hf with ⟨j, hj, hp, rfl⟩ | ⟨hno, rfl⟩
  · have hj0 : (0 : Int) ≤ (j : Int) := by omega
    have hjn : (j : Int) < (n : Int) := by omega
    obtain ⟨-, c1, -, -⟩ := (HR.out j hj).below hl1
    have HD : Hid ((E j).kind = 1 ↔ Dir E n q.data.toList) := ⟨fun h => ⟨j, hj, hp, h⟩, fun ⟨i, hi, hpi, hk⟩ => by
      rcases Nat.lt_trichotomy i j with h | h | h
      · exact absurd (HA.out i j h hj) (by rw [hpi, hp]; exact List.lt_irrefl _)
      · rw [← h]; exact hk
      · exact absurd (HA.out j i h hi) (by rw [hpi, hp]; exact List.lt_irrefl _)⟩
    obtain ⟨k, hk⟩ : ∃ k, (E j).kind = k := ⟨_, rfl⟩
    rw [hk] at c1 HD
    clear hp hk
    by_cases hk1 : k = 1
    · have HD2 : Hid (Dir E n q.data.toList) := HD.out.1 hk1
      subst hk1
      go_wp2
      go_ret
      exact ⟨by rw [dirB_yes HD2.out]; first | done | rfl, hl1⟩
    · have HD2 : Hid (¬ Dir E n q.data.toList) := fun h => hk1 (HD.out.2 h)
      go_wp2
      go_ret
      exact ⟨by rw [dirB_no HD2.out]; first | done | rfl | simp [hk1], hl1⟩
  · have HD2 : Hid (¬ Dir E n q.data.toList) := fun ⟨i, hi, hpi, _⟩ => hno i hi hpi
    clear hno
    go_wp2
    go_ret
    exact ⟨by rw [dirB_no HD2.out]; first | done | rfl, hl1⟩

end Go.Proofs.YtjjndaiojilhiaaDoor.tt
