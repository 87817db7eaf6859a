import Derived.Test.YtdddplhfhpghkaaHU
namespace Go.Proofs.Ytdddplhfhpghkaa.hp
open Go.ChangeShapes Go.WideShapes Go.ChangeAt Go.RowKit Go.Deep Go.Maps
set_option linter.unusedVariables false
set_option linter.unusedSimpArgs false

/-- The least so far among a place and those below it. -/
structure Lst (l : List Nat) (p m b : Nat) : Prop where
  lo : 2 * p + 1 ≤ b
  hi : b ≤ 2 * p + 3
  is : m = p ∨ (2 * p + 1 ≤ m ∧ m < b ∧ m < l.length ∧ gt l m < gt l p)
  le : gt l m ≤ gt l p
  all : ∀ k, 2 * p + 1 ≤ k → k < b → k < l.length → gt l m ≤ gt l k
theorem Lst.zero (l : List Nat) (p : Nat) : Lst l p p (2 * p + 1) := ⟨Nat.le_refl _, by omega, .inl rfl, Nat.le_refl _, fun k h1 h2 => by omega⟩
theorem Lst.yes {l : List Nat} {p m b : Nat} (h : Lst l p m b) (hb : b ≤ 2 * p + 2) (hl : b < l.length) (hlt : gt l b < gt l m) : Lst l p b (b + 1) :=
  ⟨by have := h.lo; omega, by omega, .inr ⟨h.lo, by omega, hl, by have := h.le; omega⟩, by have := h.le; omega, fun k h1 h2 h3 => by
    by_cases e : k = b
    · subst e; exact Nat.le_refl _
    · have := h.all k h1 (by omega) h3; omega⟩
theorem Lst.no {l : List Nat} {p m b : Nat} (h : Lst l p m b) (hb : b ≤ 2 * p + 2) (hl : b < l.length) (hlt : ¬ gt l b < gt l m) : Lst l p m (b + 1) :=
  ⟨by have := h.lo; omega, by omega, by rcases h.is with e | ⟨h1, h2, h3, h4⟩; exact .inl e; exact .inr ⟨h1, by omega, h3, h4⟩, h.le, fun k h1 h2 h3 => by
    by_cases e : k = b
    · subst e; omega
    · exact h.all k h1 (by omega) h3⟩
theorem Lst.end {l : List Nat} {p m b : Nat} (h : Lst l p m b) (hb : ¬ (b ≤ 2 * p + 2 ∧ b < l.length)) (hd : Dn l p) : (m = p → Hp l) ∧ (m ≠ p → Dn (swp l p m) m ∧ m < l.length ∧ p < m) := by
  have hall : ∀ k, 0 < k → k < l.length → (k - 1) / 2 = p → gt l m ≤ gt l k := fun k k0 hk e => by
    refine h.all k (by omega) ?_ hk
    have := h.hi
    omega
  refine ⟨fun e => ?_, fun e => ?_⟩
  · subst e
    exact hd.done (fun hk => hall _ (by omega) hk (by omega)) (fun hk => hall _ (by omega) hk (by omega))
  · rcases h.is with e2 | ⟨h1, h2, h3, h4⟩
    · exact absurd e2 e
    · have := h.hi
      exact ⟨hd.step h3 (by omega) (by omega) h4 hall, h3, by omega⟩

set_option maxRecDepth 100000 in
set_option maxHeartbeats 4000000 in
theorem sink_any (M g cap : Nat) (l : List Nat) (w : World) (h : Rw M w g cap l) (hd : Dn l 0) (hl : l.length ≤ 1000) :
    Calls Try.prog 98 #[.slice (some ⟨g, 0, none⟩) l.length cap] w fun e w' => e = .returned (.tuple #[]) ∧ ∃ l', l'.Perm l ∧ Hp l' ∧ Rw M w' g cap l' ∧ Oth (fun k => k = g) w w' := by
  have HRW0 := Lib.hid h
  have HDN0 := Lib.hid hd
  obtain ⟨n, hn⟩ : ∃ n, l.length = n := ⟨_, rfl⟩
  have HLN : Hid (l.length = n) := hn
  rw [hn] at hl ⊢
  clear h hd hn
  go_enter Try.func98, Try.ntmps98
  go_upto_region 1 with fail
  go_loopw [2, 3, 4] (fun p _ _ wr => ∃ (k : Nat) (l' : List Nat), p = .int .i64 (k : Int) ∧ k ≤ n ∧ l'.length = n ∧ Dn l' k ∧ l'.Perm l ∧ Rw M wr g cap l' ∧ Oth (fun k => k = g) w wr) (fun p _ _ _ => n + 1 - (intOf p).toNat)
  case atStart => exact ⟨0, l, rfl, Nat.zero_le _, HLN.out, HDN0.out, List.Perm.refl _, HRW0.out, Oth.refl _ _⟩
  case round =>
    obtain ⟨p, l', rfl, hp, hlen, hdn, hpm, hrw, hot⟩ := hrel
    have HDN := Lib.hid hdn
    have HPM := Lib.hid hpm
    have HRW := Lib.hid hrw
    have HOT := Lib.hid hot
    have HLE := Lib.hid hlen
    clear hdn hpm hrw hot hlen HRW0 HDN0
    have hw1 : IntKind.i64.wrap (2 * (p : Int)) = 2 * (p : Int) := by rw [IntKind.wrap_i64]; omega
    have hw2 : IntKind.i64.wrap (2 * (p : Int) + 1) = 2 * (p : Int) + 1 := by rw [IntKind.wrap_i64]; omega
    have hw3 : IntKind.i64.wrap (2 * (p : Int) + 2) = 2 * (p : Int) + 2 := by rw [IntKind.wrap_i64]; omega
    go_upto_region 3 with fail
    rw [show 2 * (p : Int) + 1 = ((2 * p + 1 : Nat) : Int) by omega]
    go_loopw [3, 4] (fun mv bv wq => ∃ (m b : Nat), mv = .int .i64 (m : Int) ∧ bv = .int .i64 (b : Int) ∧ Lst l' p m b ∧ Rw M wq g cap l' ∧ Oth (fun k => k = g) w wq) (fun _ bv _ => 2 * p + 4 - (intOf bv).toNat)
    case atStart => exact ⟨p, 2 * p + 1, rfl, rfl, Lst.zero l' p, HRW.out, HOT.out⟩
    case round =>
      obtain ⟨m, b, rfl, rfl, hls, hrwi, hoti⟩ := hrel
      have HLS := Lib.hid hls
      have HRWi := Lib.hid hrwi
      have HOTi := Lib.hid hoti
      have hb3 := hls.hi
      have hmn0 : m ≤ n := by
        rcases hls.is with e | ⟨_, _, h3, _⟩
        · omega
        · rw [HLE.out] at h3; omega
      clear hls hrwi hoti HRW HOT
      by_cases hb1 : b ≤ 2 * p + 2
      · have hb1' : (b : Int) ≤ 2 * (p : Int) + 2 := by omega
        by_cases hb2 : b < n
        · have hb2' : (b : Int) < (n : Int) := by omega
          have hwb : IntKind.i64.wrap ((b : Int) + 1) = (b : Int) + 1 := by rw [IntKind.wrap_i64]; omega
          go_upto_region 5 with fail
          obtain ⟨wd, hwd⟩ : ∃ z, wr.drew = z := ⟨_, rfl⟩
          have HRWd : Hid (Rw M wd g cap l') := by show Rw _ _ _ _ _; rw [← hwd]; exact HRWi.out.kept rfl
          have HOTd : Hid (Oth (fun k => k = g) w wd) := by show Oth _ _ _; rw [← hwd]; exact HOTi.out.drew
          have hmn1 : m < n := by
            have := HLS.out.lo
            rcases HLS.out.is with e | ⟨_, _, h3, _⟩
            · omega
            · rw [HLE.out] at h3; exact h3
          have cb := HRWd.out.cell (k := b) (by rw [HLE.out]; omega)
          have cm := HRWd.out.cell (k := m) (by rw [HLE.out]; omega)
          have hb4 : (0 : Int) ≤ (b : Int) := by omega
          have hm3 : (m : Int) < (n : Int) := by omega
          have hm4 : (0 : Int) ≤ (m : Int) := by omega
          refine wq 9 (S := fun z => z = wd) (by kernel_rfl) hwd fun hHeld => ?_
          rw [hwd]
          rw [hwd] at hHeld
          clear hwd
          iterate 9 (refine un 9 rfl ?_; try simp only [aP])
          refine dq ?_
          by_cases hlt : gt l' b < gt l' m
          · have hlt' : (gt l' b : Int) < (gt l' m : Int) := by omega
            have HL2 := Lib.hid (HLS.out.yes hb1 (by rw [HLE.out]; exact hb2) hlt)
            clear cb cm
            go_wp2
            go_roundw
            case rel => exact ⟨b, b + 1, rfl, by go_num, HL2.out, HRWd.out, HOTd.out⟩
            case measure => simp [intOf]; omega
          · have hlt' : ¬ (gt l' b : Int) < (gt l' m : Int) := by omega
            have HL2 := Lib.hid (HLS.out.no hb1 (by rw [HLE.out]; exact hb2) hlt)
            clear cb cm
            go_wp2
            go_roundw
            case rel => exact ⟨m, b + 1, rfl, by go_num, HL2.out, HRWd.out, HOTd.out⟩
            case measure => simp [intOf]; omega
        · have hb2' : ¬ (b : Int) < (n : Int) := by omega
          have HEN := Lib.hid (HLS.out.end (by rw [HLE.out]; omega) HDN.out)
          by_cases hmp : m = p
          · subst hmp
            have HPD := Lib.hid (HEN.out.1 rfl)
            clear HEN
            go_wp2
            first | go_end0 | refine bodyPost_ret (results_none rfl _ _ _) rfl ?_
            exact ⟨rfl, l', HPM.out, HPD.out, HRWi.out, HOTi.out⟩
          · have hmp' : ¬ (m : Int) = (p : Int) := by omega
            have HST := Lib.hid (HEN.out.2 hmp)
            have hmn : m < n := by have := HST.out.2.1; rw [HLE.out] at this; exact this
            have hpm2 : p < m := HST.out.2.2
            have HSW := Lib.hid (swap_any M g cap l' p m wr HRWi.out (by rw [HLE.out]; omega) (by rw [HLE.out]; omega) (by rw [HLE.out]; omega))
            rw [HLE.out] at HSW
            have HPS : Hid ((swp l' p m).Perm l) := (swp_perm (by rw [HLE.out]; omega) (by rw [HLE.out]; omega)).trans HPM.out
            clear HEN
            go_wp2_with (go_at_call 97; refine HSW.out.mono ?_; rintro e w5 ⟨rfl, h51, h52⟩; refine Hid.out ?_)
            refine Lib.hid ?_
            have HW5 := Lib.hid h51
            have HO5 := Lib.hid (HOTi.out.trans h52)
            clear h51 h52
            go_wp2
            go_roundw
            case rel => exact ⟨m, swp l' p m, rfl, by omega, by rw [swp_len]; exact HLE.out, HST.out.1, HPS.out, HW5.out, HO5.out⟩
            case measure => simp [intOf]; omega
      · have hb1' : ¬ (b : Int) ≤ 2 * (p : Int) + 2 := by omega
        have HEN := Lib.hid (HLS.out.end (by rw [HLE.out]; omega) HDN.out)
        by_cases hmp : m = p
        · subst hmp
          have HPD := Lib.hid (HEN.out.1 rfl)
          clear HEN
          go_wp2
          first | go_end0 | refine bodyPost_ret (results_none rfl _ _ _) rfl ?_
          exact ⟨rfl, l', HPM.out, HPD.out, HRWi.out, HOTi.out⟩
        · have hmp' : ¬ (m : Int) = (p : Int) := by omega
          have HST := Lib.hid (HEN.out.2 hmp)
          have hmn : m < n := by have := HST.out.2.1; rw [HLE.out] at this; exact this
          have hpm2 : p < m := HST.out.2.2
          have HSW := Lib.hid (swap_any M g cap l' p m wr HRWi.out (by rw [HLE.out]; omega) (by rw [HLE.out]; omega) (by rw [HLE.out]; omega))
          rw [HLE.out] at HSW
          have HPS : Hid ((swp l' p m).Perm l) := (swp_perm (by rw [HLE.out]; omega) (by rw [HLE.out]; omega)).trans HPM.out
          clear HEN
          go_wp2_with (go_at_call 97; refine HSW.out.mono ?_; rintro e w5 ⟨rfl, h51, h52⟩; refine Hid.out ?_)
          refine Lib.hid ?_
          have HW5 := Lib.hid h51
          have HO5 := Lib.hid (HOTi.out.trans h52)
          clear h51 h52
          go_wp2
          go_roundw
          case rel => exact ⟨m, swp l' p m, rfl, by omega, by rw [swp_len]; exact HLE.out, HST.out.1, HPS.out, HW5.out, HO5.out⟩
          case measure => simp [intOf]; omega

end Go.Proofs.Ytdddplhfhpghkaa.hp
