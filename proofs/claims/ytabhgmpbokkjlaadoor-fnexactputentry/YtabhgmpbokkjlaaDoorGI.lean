import Derived.Test.YtabhgmpbokkjlaaDoorGH
namespace Go.Proofs.YtabhgmpbokkjlaaDoor.tt
open Go.ChangeShapes Go.WideShapes Go.ChangeAt Go.RowKit Go.Deep
set_option linter.unusedVariables false
set_option linter.unusedSimpArgs false

/-! ### PutEntry: the specification's questions -/

set_option maxRecDepth 100000 in
theorem copy_any (E : Nat → En) (b o n cap : Nat) (w : World) (hR : EnR w b o n E) (hn : n ≤ 1048576) :
    Calls Tryd.prog 43 #[.slice (some ⟨b, o, none⟩) n cap] w fun e w' => (∃ v, e = .returned v ∧ w'.ownsRow w.heap.size 31 4 v n (enC E n) ∧ v ≠ .slice none 0 0) ∧ Below w.heap.size w w' := by
  obtain ⟨i, hi, hzz⟩ := Option.map_eq_some_iff.1 infoE
  simp only [Prod.mk.injEq] at hzz
  obtain ⟨hz, hsi, hb⟩ := hzz
  have HNW : Hid (∀ j u, (enC E n)[j]? = some u → (w.alloc (.cells #[] 31)).cell? ((⟨b, o, none⟩ : Addr).add j) = some u) := by
    intro j u hj
    have hjl : j < n * 4 := by have := (List.getElem?_eq_some_iff.1 hj).1; rwa [enC_len] at this
    have hu : u = cellE E j := by simpa [enC, hjl] using hj.symm
    obtain ⟨a0, a1, a2, a3⟩ := (hR (j / 4) (by omega)).below ((Below.refl _ _).alloc (Nat.le_refl _) (.cells #[] 31))
    rw [addr_add, hu]
    have hm : j % 4 < 4 := Nat.mod_lt _ (by omega)
    unfold cellE
    by_cases h0 : j % 4 = 0
    · rw [if_pos h0, show o + j = o + j / 4 * 4 by omega]; exact a0
    · by_cases h1 : j % 4 = 1
      · rw [if_neg h0, if_pos h1, show o + j = o + j / 4 * 4 + 1 by omega]; exact a1
      · by_cases h2 : j % 4 = 2
        · rw [if_neg h0, if_neg h1, if_pos h2, show o + j = o + j / 4 * 4 + 2 by omega]; exact a2
        · rw [if_neg h0, if_neg h1, if_neg h2, show o + j = o + j / 4 * 4 + 3 by omega]; exact a3
  have HOC : Hid (∀ u ∈ enC E n, u.oneCell' = true) := by
    intro u hu
    obtain ⟨j, _, rfl⟩ := List.mem_map.1 hu
    unfold cellE
    split
    · rfl
    · split
      · rfl
      · split
        · rfl
        · rfl
  have HO0 : Hid ((w.alloc (.cells #[] 31)).ownsRow w.heap.size 31 4 (.slice (some ⟨w.heap.size, 0, none⟩) 0 0) 0 []) := made_own w 0 (by omega) #[] rfl
  have HB0 : Hid (Below w.heap.size w (w.alloc (.cells #[] 31))) := (Below.refl _ _).alloc (Nat.le_refl _) _
  have HS0 : Hid (w.heap.size ≤ (w.alloc (.cells #[] 31)).heap.size) := HB0.out.size
  have HEL : Hid ((enC E n).length = n * 4) := enC_len E n
  obtain ⟨XS, hXS⟩ : ∃ XS, XS = enC E n := ⟨_, rfl⟩
  rw [← hXS] at HNW HOC HEL ⊢
  have H63 : Hid (0 + n ≤ maxLen) := by show _ ≤ _; unfold maxLen; omega
  have HBY : Hid ((0 + n) * 48 ≤ 140737488355328) := by show _ ≤ _; omega
  clear hXS hR
  go_enter Tryd.func43, Tryd.ntmps43
  go_wp2_with (first
    | (at_builtin; refine wpList_append_own _ rfl _ _ 27 rfl w.heap.size 31 i _ 4 48 Tryd.underlying27 hi hz hsi hb rfl (by decide) _ _ _ rfl HO0.out ⟨b, o, none⟩ n cap XS rfl HEL.out HNW.out HOC.out H63.out HBY.out HS0.out ?_; intro v1 w1 hown1 hg1 hv1; refine Hid.out ?_)
    | go_in)
  refine Lib.hid ?_
  have HB1 : Hid (Below w.heap.size w w1) := below_grownS HB0.out HO0.out hg1 HS0.out
  have HO1 : Hid (w1.ownsRow w.heap.size 31 4 v1 n XS) := by first | exact hown1 | (have h := hown1; simp only [Nat.zero_add, List.nil_append] at h; exact h)
  have HV1 : Hid (v1 ≠ .slice none 0 0) := by first | exact hv1 | exact fun e => absurd (hv1.1 e).1 (fun h => by cases h)
  clear hown1 hg1 hv1
  go_wp2
  go_ret
  exact ⟨⟨_, rfl, HO1.out, HV1.out⟩, HB1.out⟩

set_option maxRecDepth 100000 in
theorem under_any (s d : ByteArray) (hs : s.size ≤ 1048576) (hd : d.size ≤ 1048576) (w : World) :
    Calls Tryd.prog 54 #[.string s, .string d] w fun e w' => e = .returned (.bool (decide (Und s.data.toList d.data.toList))) ∧ w' = w := by
  obtain ⟨r, hr⟩ : ∃ r, decide (Und s.data.toList d.data.toList) = r := ⟨_, rfl⟩
  rw [hr]
  have hsl : s.data.toList.length = s.size := by simp
  have hdl : d.data.toList.length = d.size := by simp
  by_cases hle : d.size < s.size
  · have hle' : (d.size : Int) < (s.size : Int) := by omega
    have hle2 : (d.size : Int) + 1 ≤ (s.size : Int) := by omega
    have heq : ((s.extract 0 (d.size + 1)).toList == (d.toList ++ [47])) = r := by
      rw [← hr, take_ext hle, ByteArray.toList_eq, ByteArray.toList_eq, Bool.eq_iff_iff, decide_eq_true_iff]
      unfold Und
      rw [pre_take, List.length_append, hdl, hsl]
      simp only [List.length_cons, List.length_nil, Nat.zero_add, beq_iff_eq]
      exact ⟨fun h => ⟨by omega, h⟩, fun h => h.2⟩
    have heq2 : ((s.extract 0 (d.size + 1)).toList == (d ++ ⟨#[47]⟩).toList) = r := by
      rw [← heq]
      congr 1
      rw [ByteArray.toList_eq, ByteArray.toList_eq]
      simp
    clear hr hsl hdl
    go_enter Tryd.func54, Tryd.ntmps54
    go_wp2
    go_ret
    first | exact ⟨rfl, rfl⟩ | exact ⟨by rw [heq], rfl⟩ | exact ⟨by rw [heq2], rfl⟩ | exact ⟨by simp [heq], rfl⟩ | exact ⟨by simp [heq2], rfl⟩
  · have hle' : ¬ (d.size : Int) < (s.size : Int) := by omega
    have e : r = false := by
      rw [← hr, decide_eq_false_iff_not]
      intro h
      have := (und_at h).2.2
      omega
    subst e
    clear hr hsl hdl
    go_enter Tryd.func54, Tryd.ntmps54
    go_wp2
    go_ret
    exact ⟨rfl, rfl⟩

set_option maxHeartbeats 2000000 in
set_option maxRecDepth 100000 in
theorem full_any (E : Nat → En) (b o n cap : Nat) (P : ByteArray) (w : World) (hR : EnR w b o n E) (hS : SmE n E) (hn : n ≤ 1048576) (hPs : P.size ≤ 1048576) :
    Calls Tryd.prog 42 #[.slice (some ⟨b, o, none⟩) n cap, .string P] w fun e w' => e = .returned (.bool (fullB E n P.data.toList)) ∧ w' = w := by
  have HR : Hid (EnR w b o n E) := hR
  have HC : Hid (∀ p W, p.size ≤ 1048576 → Calls Tryd.prog 54 #[.string p, .string P] W fun e w' => e = .returned (.bool (decide (Und p.data.toList P.data.toList))) ∧ w' = W) := fun p W hp => under_any p P hp hPs W
  have HS : Hid (SmE n E) := hS
  clear hR hS
  go_enter Tryd.func42, Tryd.ntmps42
  go_wp2
  go_loopw [5] (fun x wr => ∃ i : Nat, i ≤ n ∧ x = .int .i64 (i : Int) ∧ (∀ j, j < i → ¬ Und (pth E j) P.data.toList) ∧ wr = w) (fun x _ => n - (intOf x).toNat)
  case atStart => exact ⟨0, Nat.zero_le _, rfl, fun j h => by omega, rfl⟩
  case round =>
    obtain ⟨i, hi, rfl, h1, rfl⟩ := hrel
    have H1 : Hid (∀ j, j < i → ¬ Und (pth E j) P.data.toList) := h1
    clear h1
    by_cases hin : i < n
    · have hin' : (i : Int) < (n : Int) := by omega
      have hi0 : (0 : Int) ≤ (i : Int) := by omega
      obtain ⟨c0, -, -, -⟩ := HR.out i hin
      have HPM : Hid (pth E i = (E i).path.data.toList) := rfl
      have hsm := (HS.out i hin).1
      obtain ⟨M, hM⟩ : ∃ M, (E i).path = M := ⟨_, rfl⟩
      rw [hM] at c0 HPM hsm
      have HCM : Hid (Calls Tryd.prog 54 #[.string M, .string P] wr fun e w' => e = .returned (.bool (decide (Und M.data.toList P.data.toList))) ∧ w' = wr) := HC.out M wr hsm
      clear hM
      by_cases hu : Und M.data.toList P.data.toList
      · rw [decide_eq_true hu] at HCM
        have HF : Hid (fullB E n P.data.toList = true) := fullB_yes ⟨i, hin, by rw [HPM.out]; exact hu⟩
        clear hu
        go_wp2_with (go_at_call 54; refine HCM.out.mono ?_; rintro e w1 ⟨rfl, rfl⟩)
        go_ret
        exact ⟨by rw [HF.out]; rfl, rfl⟩
      · rw [decide_eq_false hu] at HCM
        have HN : Hid (∀ j, j < i + 1 → ¬ Und (pth E j) P.data.toList) := fun j hj => by
          rcases Nat.lt_or_ge j i with h | h
          · exact H1.out j h
          · obtain rfl : j = i := by omega
            rw [HPM.out]; exact hu
        clear hu
        go_wp2_with (go_at_call 54; refine HCM.out.mono ?_; rintro e w1 ⟨rfl, rfl⟩)
        go_roundw
        case rel => exact ⟨i + 1, by omega, by go_num, HN.out, by first | rfl | trivial⟩
        case measure => simp [intOf] <;> omega
    · have hin' : ¬ (i : Int) < (n : Int) := by omega
      have HF : Hid (fullB E n P.data.toList = false) := fullB_no fun ⟨j, hj, hu⟩ => H1.out j (by omega) hu
      go_wp2
      go_ret
      exact ⟨by rw [HF.out]; rfl, rfl⟩

end Go.Proofs.YtabhgmpbokkjlaaDoor.tt
