import Derived.Test.YtimcocmjmlejfaaGreatDoorQR
import Derived.Test.YtimcocmjmlejfaaGreatDoorV1
namespace Go.Proofs.YtimcocmjmlejfaaGreatDoor.rc
open Go.ChangeShapes Go.WideShapes Go.ChangeAt Go.RowKit Go.Deep Go.Lib Go.Shelf Go.Proofs.YtimcocmjmlejfaaGreatDoor.vr
set_option linter.unusedVariables false
set_option linter.unusedSimpArgs false

/-! ### The specification: are two parts one? -/

theorem ptSc_form (p : Pt) : ∃ (s : ByteArray) (n : Int), ptSc p = [.string s, .int .i64 n] := by cases p <;> exact ⟨_, _, rfl⟩

theorem ptSc_inj {p q : Pt} (hp : ∀ l, p = .word l → l ≠ []) (hq : ∀ l, q = .word l → l ≠ []) {s t : ByteArray} {n m : Int} (h1 : ptSc p = [.string s, .int .i64 n]) (h2 : ptSc q = [.string t, .int .i64 m]) : (s = t ∧ n = m) ↔ p = q := by
  constructor
  · rintro ⟨rfl, rfl⟩
    have h := h1.trans h2.symm
    cases p with
    | num a =>
      cases q with
      | num b => simp [ptSc] at h; rw [show a = b by omega]
      | word b => simp [ptSc] at h; exact absurd h.1.symm (by simpa using hq b rfl)
    | word a =>
      cases q with
      | num b => simp [ptSc] at h; exact absurd h.1 (by simpa using hp a rfl)
      | word b => simp [ptSc] at h; rw [h]
  · rintro rfl
    have h := h1.symm.trans h2
    simpa using h

set_option maxHeartbeats 4000000 in
set_option maxRecDepth 100000 in
theorem same_any (A B : List Pt) (i : Nat) (va vb : Value) (w : World) (hA : RowP w va A) (hB : RowP w vb B) (hFA : Full A) (hFB : Full B) (hnA : A.length ≤ 1000) (hnB : B.length ≤ 1000) (hi : i ≤ 1000) :
    Calls Tryz.prog 72 #[va, vb, .int .i64 (i : Int)] w fun e w' => e = .returned (.bool (decide (cmpO A[i]? B[i]? = 0))) ∧ Below w.heap.size w w' := by
  obtain ⟨d, hd⟩ : ∃ d, decide (cmpO A[i]? B[i]? = 0) = d := ⟨_, rfl⟩
  rw [hd]
  obtain ⟨a, cap, rfl, hcap, hc⟩ := hA
  obtain ⟨b, cap', rfl, hcap', hc'⟩ := hB
  by_cases h : i < A.length
  · have h' : (i : Int) < (A.length : Int) := by omega
    have h1' : ¬ (A.length : Int) ≤ (i : Int) := by omega
    have hi0 : (0 : Int) ≤ (i : Int) := by omega
    by_cases k : i < B.length
    · have k' : (i : Int) < (B.length : Int) := by omega
      have k1' : ¬ (B.length : Int) ≤ (i : Int) := by omega
      rcases hc with rfl | ⟨ba, rfl, hc⟩
      · simp at h
      rcases hc' with rfl | ⟨bb, rfl, hc'⟩
      · simp at k
      obtain ⟨p, hp⟩ : ∃ p, A[i]? = some p := ⟨_, List.getElem?_eq_getElem h⟩
      obtain ⟨q, hq⟩ : ∃ q, B[i]? = some q := ⟨_, List.getElem?_eq_getElem k⟩
      obtain ⟨s, n, hs⟩ := ptSc_form p
      obtain ⟨t, m, ht⟩ := ptSc_form q
      have c0 := hc i p 0 _ hp (by rw [hs]; rfl)
      have c1 := hc i p 1 _ hp (by rw [hs]; rfl)
      have e0 := hc' i q 0 _ hq (by rw [ht]; rfl)
      have e1 := hc' i q 1 _ hq (by rw [ht]; rfl)
      rw [Nat.add_zero] at c0 e0
      have HV : Hid (d = decide (s = t ∧ n = m)) := by
        show _ = _
        rw [← hd]
        rw [hp, hq]
        exact decide_eq_decide.2 (cmpO_zero.trans (by rw [Option.some.injEq]; exact (ptSc_inj (hFA p (List.mem_of_getElem? hp)) (hFB q (List.mem_of_getElem? hq)) hs ht).symm))
      clear hc hc' hp hq hs ht hFA hFB hd
      by_cases hst : s = t
      · subst hst
        by_cases hnm : n = m
        · subst hnm
          have HV' : Hid (d = true) := by show _ = _; rw [HV.out]; simp
          clear HV
          go_enter Tryz.func72, Tryz.ntmps72
          go_wp2_with fail
          go_quiet (fail)
          go_wp2_with fail
          go_ret
          exact ⟨ret_bool (by rw [HV'.out]), Go.below_drewN (Below.refl _ _) _⟩
        · have HV' : Hid (d = false) := by show _ = _; rw [HV.out]; simp [hnm]
          have hnb : (n == m) = false := by simpa using hnm
          clear HV
          go_enter Tryz.func72, Tryz.ntmps72
          go_wp2_with fail
          go_quiet (fail)
          go_wp2_with fail
          go_ret
          exact ⟨ret_bool (by rw [HV'.out]), Go.below_drewN (Below.refl _ _) _⟩
      · have HV' : Hid (d = false) := by show _ = _; rw [HV.out]; simp [hst]
        have hsb : (s.toList == t.toList) = false := by simpa [ByteArray.toList_eq] using fun e => hst (ByteArray.ext (Array.toList_inj.1 e))
        clear HV
        go_enter Tryz.func72, Tryz.ntmps72
        go_wp2_with fail
        go_quiet (fail)
        go_wp2_with fail
        go_ret
        exact ⟨ret_bool (by rw [HV'.out]), Go.below_drewN (Below.refl _ _) _⟩
    · have k' : ¬ (i : Int) < (B.length : Int) := by omega
      have k1' : (B.length : Int) ≤ (i : Int) := by omega
      have HV : Hid (d = false) := by
        show _ = _
        rw [← hd]
        rw [List.getElem?_eq_none (l := B) (by omega), List.getElem?_eq_getElem h]
        exact decide_eq_false (fun e => by have := cmpO_zero.1 e; simp at this)
      clear hc hc' hd
      go_enter Tryz.func72, Tryz.ntmps72
      go_wp2
      go_ret
      exact ⟨ret_bool (by rw [HV.out]; try rfl), Below.refl _ _⟩
  · have h' : ¬ (i : Int) < (A.length : Int) := by omega
    have h1' : (A.length : Int) ≤ (i : Int) := by omega
    by_cases k : i < B.length
    · have k' : (i : Int) < (B.length : Int) := by omega
      have k1' : ¬ (B.length : Int) ≤ (i : Int) := by omega
      have HV : Hid (d = false) := by
        show _ = _
        rw [← hd]
        rw [List.getElem?_eq_none (l := A) (by omega), List.getElem?_eq_getElem k]
        exact decide_eq_false (fun e => by have := cmpO_zero.1 e; simp at this)
      clear hc hc' hd
      go_enter Tryz.func72, Tryz.ntmps72
      go_wp2
      go_ret
      exact ⟨ret_bool (by rw [HV.out]; try rfl), Below.refl _ _⟩
    · have k' : ¬ (i : Int) < (B.length : Int) := by omega
      have k1' : (B.length : Int) ≤ (i : Int) := by omega
      have HV : Hid (d = true) := by
        show _ = _
        rw [← hd]
        rw [List.getElem?_eq_none (l := A) (by omega), List.getElem?_eq_none (l := B) (by omega)]
        exact decide_eq_true (cmpO_zero.2 rfl)
      clear hc hc' hd
      go_enter Tryz.func72, Tryz.ntmps72
      go_wp2
      go_ret
      exact ⟨ret_bool (by rw [HV.out]; try rfl), Below.refl _ _⟩

end Go.Proofs.YtimcocmjmlejfaaGreatDoor.rc
