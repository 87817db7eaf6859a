import Derived.Test.YtbnmefponeomiaaDoorP
namespace Go.Proofs.YtbnmefponeomiaaDoor.lx
open Go.ChangeShapes Go.WideShapes Go.ChangeAt Go.RowKit Go.Deep
set_option linter.unusedVariables false
set_option linter.unusedSimpArgs false

def sigA (k : Nat) : ByteArray := ⟨(sigL k).toArray⟩

theorem set_one {W : World} {b i : Nat} {v : Value} (h : (W.cell? ⟨b, i, none⟩).isSome = true) : (W.setCell ⟨b, i, none⟩ v).cell? ⟨b, i, none⟩ = some v := World.cell?_setCell_same' _ _ _ h
theorem set_oth {W : World} {b c i j : Nat} {v : Value} (h : ¬ (b = c ∧ i = j)) : (W.setCell ⟨c, j, none⟩ v).cell? ⟨b, i, none⟩ = W.cell? ⟨b, i, none⟩ :=
  World.cell?_setCell_other _ _ _ _ (fun e => h ⟨(congrArg Addr.block e).symm, (congrArg Addr.off e).symm⟩)

theorem four_set {W : World} {b : Nat} {v0 v1 v2 v3 : Value} (h0 : (W.cell? ⟨b, 0, none⟩).isSome = true) (h1 : (W.cell? ⟨b, 1, none⟩).isSome = true) (h2 : (W.cell? ⟨b, 2, none⟩).isSome = true) (h3 : (W.cell? ⟨b, 3, none⟩).isSome = true) :
    ((((W.setCell ⟨b, 0, none⟩ v0).setCell ⟨b, 1, none⟩ v1).setCell ⟨b, 2, none⟩ v2).setCell ⟨b, 3, none⟩ v3).cell? ⟨b, 0, none⟩ = some v0 ∧
    ((((W.setCell ⟨b, 0, none⟩ v0).setCell ⟨b, 1, none⟩ v1).setCell ⟨b, 2, none⟩ v2).setCell ⟨b, 3, none⟩ v3).cell? ⟨b, 1, none⟩ = some v1 ∧
    ((((W.setCell ⟨b, 0, none⟩ v0).setCell ⟨b, 1, none⟩ v1).setCell ⟨b, 2, none⟩ v2).setCell ⟨b, 3, none⟩ v3).cell? ⟨b, 2, none⟩ = some v2 ∧
    ((((W.setCell ⟨b, 0, none⟩ v0).setCell ⟨b, 1, none⟩ v1).setCell ⟨b, 2, none⟩ v2).setCell ⟨b, 3, none⟩ v3).cell? ⟨b, 3, none⟩ = some v3 := by
  refine ⟨?_, ?_, ?_, ?_⟩
  · rw [set_oth (by omega), set_oth (by omega), set_oth (by omega), set_one h0]
  · rw [set_oth (by omega), set_oth (by omega), set_one]
    rw [set_oth (by omega)]; exact h1
  · rw [set_oth (by omega), set_one]
    rw [set_oth (by omega), set_oth (by omega)]; exact h2
  · rw [set_one]
    rw [set_oth (by omega), set_oth (by omega), set_oth (by omega)]; exact h3

theorem ret_lx {tmps : Array Value} {W : World} {b : Nat} {v0 v1 v2 v3 r : Value} {R : Ending → World → Prop} (h4 : tmps.getD 4 undef = .pointer (some ⟨b, 0, none⟩)) (h5 : tmps.getD 5 undef = r)
    (k : W.cell? ⟨b, 0, none⟩ = some v0 ∧ W.cell? ⟨b, 1, none⟩ = some v1 ∧ W.cell? ⟨b, 2, none⟩ = some v2 ∧ W.cell? ⟨b, 3, none⟩ = some v3) (hR : R (.returned (.tuple #[.agg #[v0, v1, v2, v3], r])) W) :
    bodyPost Tryd.prog Tryd.f41 R Exit.ret { tmps := tmps, defers := [] } W := by
  obtain ⟨k0, k1, k2, k3⟩ := k
  have h4' : tmps[4]?.getD undef = .pointer (some ⟨b, 0, none⟩) := by simpa using h4
  have h5' : tmps[5]?.getD undef = r := by simpa using h5
  exact bodyPost_ret (v := .tuple #[.agg #[v0, v1, v2, v3], r]) (by simp [results, Tryd.results41, go_sem, h4', h5', k0, k1, k2, k3]) rfl hR

theorem sig_row (w : World) : (w.alloc (.cells #[.string ⟨#[46, 46, 46]⟩, .string ⟨#[45, 62]⟩, .string ⟨#[47, 47]⟩, .string ⟨#[43, 43]⟩, .string ⟨#[38, 38]⟩, .string ⟨#[124, 124]⟩, .string ⟨#[61, 61]⟩, .string ⟨#[33, 61]⟩, .string ⟨#[60, 61]⟩, .string ⟨#[62, 61]⟩, .string ⟨#[123]⟩, .string ⟨#[125]⟩, .string ⟨#[91]⟩, .string ⟨#[93]⟩, .string ⟨#[40]⟩, .string ⟨#[41]⟩, .string ⟨#[59]⟩, .string ⟨#[58]⟩, .string ⟨#[44]⟩, .string ⟨#[46]⟩, .string ⟨#[63]⟩, .string ⟨#[61]⟩, .string ⟨#[60]⟩, .string ⟨#[62]⟩, .string ⟨#[43]⟩, .string ⟨#[45]⟩, .string ⟨#[42]⟩, .string ⟨#[47]⟩, .string ⟨#[33]⟩] 9)).rowIs w.heap.size 9 29 (fun k => .string (sigA k)) :=
  World.rowIs_alloc w _ 9 _ (fun i hi => by
    match i, hi with
    | 0, _ => rfl
    | 1, _ => rfl
    | 2, _ => rfl
    | 3, _ => rfl
    | 4, _ => rfl
    | 5, _ => rfl
    | 6, _ => rfl
    | 7, _ => rfl
    | 8, _ => rfl
    | 9, _ => rfl
    | 10, _ => rfl
    | 11, _ => rfl
    | 12, _ => rfl
    | 13, _ => rfl
    | 14, _ => rfl
    | 15, _ => rfl
    | 16, _ => rfl
    | 17, _ => rfl
    | 18, _ => rfl
    | 19, _ => rfl
    | 20, _ => rfl
    | 21, _ => rfl
    | 22, _ => rfl
    | 23, _ => rfl
    | 24, _ => rfl
    | 25, _ => rfl
    | 26, _ => rfl
    | 27, _ => rfl
    | 28, _ => rfl
    | n + 29, h => exact absurd h (by simp))

theorem signs_any (w : World) :
    Calls Tryd.prog 47 #[] w fun e w' => e = .returned (.slice (some ⟨w.heap.size, 0, none⟩) 29 29) ∧ w'.rowIs w.heap.size 9 29 (fun k => .string (sigA k)) ∧ Below w.heap.size w w' := by
  go_enter Tryd.func47, Tryd.ntmps47
  go_wp2
  go_ret
  exact ⟨rfl, sig_row w, (Below.refl _ _).alloc (Nat.le_refl _) _⟩

theorem text_no {s : ByteArray} {p : Nat} {a : Int} {b : ByteArray} {c d : Int} (h1 : one (suf s p) = text (suf s p)) (h : txt (suf s p) = none) :
    OneIs (suf s p) p (.returned (.tuple #[.agg #[.int .i64 a, .string b, .int .i64 c, .int .i64 d], .int .i64 (txI (suf s p) p)])) := by
  refine .inr ⟨by rw [h1, text, h], a, b, c, d, ?_⟩
  simp [txI, h]

theorem text_yes {s : ByteArray} {p : Nat} {acc : List UInt8} {n : Nat} (h1 : one (suf s p) = text (suf s p)) (h : txt (suf s p) = some (acc, n)) :
    OneIs (suf s p) p (.returned (.tuple #[.agg #[.int .i64 3, .string (txS (suf s p)), .int .i64 0, .int .i64 (p : Int)], .int .i64 (txI (suf s p) p)])) := by
  refine .inl ⟨⟨3, acc, 0, n⟩, by rw [h1, text, h], ?_⟩
  simp [txI, txS, h, lxV]

theorem text_is {s : ByteArray} {p : Nat} (h1 : one (suf s p) = text (suf s p)) :
    OneIs (suf s p) p (.returned (.tuple #[.agg #[.int .i64 3, .string (txS (suf s p)), .int .i64 0, .int .i64 (p : Int)], .int .i64 (txI (suf s p) p)])) := by
  cases h : txt (suf s p) with
  | none => exact text_no h1 h
  | some x => obtain ⟨acc, n⟩ := x; exact text_yes h1 h

theorem two_tests {s : ByteArray} {p : Nat} {hp : p < s.size} (hf : isFirst s[p] = false) : isLet s[p] = false ∧ ((s[p].toNat : Int) == 95) = false := by
  simp only [isFirst, Bool.or_eq_false_iff] at hf
  exact hf

set_option maxHeartbeats 1000000 in
theorem one_txt (s : ByteArray) (hs : s.size ≤ 20000) (p : Nat) (hp : p < s.size) (hf : isFirst s[p] = false) (hd : isDig s[p] = false) (hq : isB 34 s[p] = true) (w : World) :
    Calls Tryd.prog 41 #[.string s, .int .i64 (p : Int)] w fun e w' => OneIs (suf s p) p e ∧ Below w.heap.size w w' := by
  have H1 : Hid (one (suf s p) = text (suf s p)) := one_text hp hf hd hq
  have hpi : (p : Int) < (s.size : Int) := by omega
  obtain ⟨hL, hU⟩ := two_tests hf
  have hq' : ((s[p].toNat : Int) == 34) = true := hq
  clear hf hq
  obtain ⟨T, HT⟩ : ∃ T, Hid (T = txS (suf s p)) := ⟨_, rfl⟩
  obtain ⟨I, HI⟩ : ∃ I, Hid (I = txI (suf s p) p) := ⟨_, rfl⟩
  have HC : Hid (∀ w, Calls Tryd.prog 50 #[.string s, .int .i64 (p : Int)] w fun e w' => e = .returned (.tuple #[.string T, .int .i64 I]) ∧ Below w.heap.size w w') := by
    show ∀ w, _
    intro w
    rw [HT.out, HI.out]
    exact text_any s hs p hp w
  go_enter Tryd.func41, Tryd.ntmps41
  go_wp2_with (first
    | (go_at_call 35; refine (letter_any _ _).mono ?_; rintro e w' ⟨rfl, rfl⟩)
    | (go_at_call 36; refine (digit_any _ _).mono ?_; rintro e w' ⟨rfl, rfl⟩)
    | (go_at_call 50; refine (HC.out _).mono ?_; rintro e w1 ⟨rfl, hl1⟩; obtain ⟨hc, hfz⟩ := bcell hl1))
  have hB : Below w.heap.size w w1 := (two_bel w _ _).trans (hl1.mono (by simp; omega))
  have hso : ∀ i, i < 4 → (w1.cell? ⟨w.heap.size, i, none⟩).isSome = true := fun i hi => by
    rw [hc _ _ (by first | (simp; done) | (simp; omega))]
    have h : i = 0 ∨ i = 1 ∨ i = 2 ∨ i = 3 := by omega
    rcases h with rfl | rfl | rfl | rfl <;> simp [go_sem]
  have hso2 : ∀ (v v' : Value) i, i < 4 → (((w1.setCell ⟨w.heap.size + 1, 0, none⟩ v).setCell ⟨w.heap.size + 1, 1, none⟩ v').cell? ⟨w.heap.size, i, none⟩).isSome = true := fun v v' i hi => by
    rw [set_oth (by omega), set_oth (by omega)]
    exact hso i hi
  refine ret_lx rfl rfl (four_set (hso2 _ _ 0 (by omega)) (hso2 _ _ 1 (by omega)) (hso2 _ _ 2 (by omega)) (hso2 _ _ 3 (by omega))) ⟨?_, ?_⟩
  · rw [HT.out, HI.out]
    exact text_is H1.out
  · exact (((((hB.setCell (Nat.le_succ _) _).setCell (Nat.le_succ _) _).setCell (Nat.le_refl _) _).setCell (Nat.le_refl _) _).setCell (Nat.le_refl _) _).setCell (Nat.le_refl _) _

theorem sig_len (k : Nat) : (sigA k).size = (sigL k).length := by simp [sigA, ByteArray.size]

theorem sg_fit {s : ByteArray} {p k : Nat} (h : p + (sigA k).size ≤ s.size) : sgAt (suf s p) k = ((s.extract p (p + (sigA k).size)).toList == (sigA k).toList) := by
  rw [ext_take h, sig_len, Bool.eq_iff_iff]
  unfold sgAt
  rw [List.isPrefixOf_iff_prefix, List.prefix_iff_eq_take, beq_iff_eq]
  simp [ByteArray.toList_eq, sigA]
  exact eq_comm

theorem sg_nofit {s : ByteArray} {p k : Nat} (hp : p ≤ s.size) (h : ¬ p + (sigA k).size ≤ s.size) : sgAt (suf s p) k = false := by
  rw [Bool.eq_false_iff]
  intro hs
  unfold sgAt at hs
  rw [List.isPrefixOf_iff_prefix] at hs
  have := hs.length_le
  rw [suf_len, ← sig_len] at this
  omega

theorem sign_no {s : ByteArray} {p : Nat} {a : Int} {b : ByteArray} {c d : Int} (h1 : one (suf s p) = sign (suf s p)) (h : sgn (suf s p) 29 = none) :
    OneIs (suf s p) p (.returned (.tuple #[.agg #[.int .i64 a, .string b, .int .i64 c, .int .i64 d], .int .i64 (-1)])) :=
  .inr ⟨by rw [h1, sign, h], a, b, c, d, rfl⟩

theorem sign_yes {s : ByteArray} {p k : Nat} (h1 : one (suf s p) = sign (suf s p)) (h : sgn (suf s p) 29 = some k) :
    OneIs (suf s p) p (.returned (.tuple #[.agg #[.int .i64 4, .string (sigA k), .int .i64 0, .int .i64 (p : Int)], .int .i64 ((p : Int) + ((sigA k).size : Int))])) := by
  refine .inl ⟨⟨4, sigL k, 0, (sigL k).length⟩, by rw [h1, sign, h], ?_⟩
  simp [lxV, sigA, sig_len, ByteArray.size]

theorem sig_small (k : Nat) (hk : k < 29) : (sigA k).size ≤ 3 := by
  have : ∀ k, k < 29 → (sigL k).length ≤ 3 := by decide
  rw [sig_len]
  exact this k hk

set_option maxHeartbeats 1000000 in
theorem one_sgn (s : ByteArray) (hs : s.size ≤ 20000) (p : Nat) (hp : p < s.size) (hf : isFirst s[p] = false) (hd : isDig s[p] = false) (hq : isB 34 s[p] = false) (w : World) :
    Calls Tryd.prog 41 #[.string s, .int .i64 (p : Int)] w fun e w' => OneIs (suf s p) p e ∧ Below w.heap.size w w' := by
  have H1 : Hid (one (suf s p) = sign (suf s p)) := one_sign hp hf hd hq
  have hpi : (p : Int) < (s.size : Int) := by omega
  obtain ⟨hL, hU⟩ := two_tests hf
  have hq' : ((s[p].toNat : Int) == 34) = false := hq
  clear hf hq
  go_enter Tryd.func41, Tryd.ntmps41
  go_wp2_with (first
    | (go_at_call 35; refine (letter_any _ _).mono ?_; rintro e w' ⟨rfl, rfl⟩)
    | (go_at_call 36; refine (digit_any _ _).mono ?_; rintro e w' ⟨rfl, rfl⟩)
    | (go_at_call 47; refine (signs_any _).mono ?_; rintro e w1 ⟨rfl, hrow, hl1⟩; obtain ⟨hc, hfz⟩ := bcell hl1))
  have hB : Below w.heap.size w w1 := (two_bel w _ _).trans (hl1.mono (by simp; omega))
  have hso : ∀ i, i < 4 → (w1.cell? ⟨w.heap.size, i, none⟩).isSome = true := fun i hi => by
    rw [hc _ _ (by first | (simp; done) | (simp; omega))]
    have h : i = 0 ∨ i = 1 ∨ i = 2 ∨ i = 3 := by omega
    rcases h with rfl | rfl | rfl | rfl <;> simp [go_sem]
  have hso2 : ∀ (v v' : Value) i, i < 4 → (((w1.setCell ⟨w.heap.size + 1, 0, none⟩ v).setCell ⟨w.heap.size + 1, 1, none⟩ v').cell? ⟨w.heap.size, i, none⟩).isSome = true := fun v v' i hi => by
    rw [set_oth (by omega), set_oth (by omega)]
    exact hso i hi
  go_loop [12, 13] (fun i _ => ∃ k : Nat, k ≤ 29 ∧ i = .int .i64 k ∧ sgn (suf s p) k = none) (fun i _ => 29 - (intOf i).toNat)
  case atStart => exact ⟨0, by omega, rfl, rfl⟩
  case round =>
    obtain ⟨k, hk, rfl, hno⟩ := hrel
    have HN : Hid (sgn (suf s p) k = none) := hno
    clear hno
    by_cases hlt : k < 29
    · have hck := hrow.cell hlt
      have hsm := sig_small k hlt
      simp at hck
      by_cases hfit : p + (sigA k).size ≤ s.size
      · have hfi : (p : Int) + ((sigA k).size : Int) ≤ (s.size : Int) := by omega
        have HS : Hid (sgAt (suf s p) k = ((s.extract p (p + (sigA k).size)).toList == (sigA k).toList)) := sg_fit hfit
        cases he : ((s.extract p (p + (sigA k).size)).toList == (sigA k).toList) with
        | true =>
          have HH : Hid (sgn (suf s p) 29 = some k) := sgn_hit hlt HN.out (by rw [HS.out, he])
          go_wp2
          refine ret_lx rfl rfl (four_set (hso2 _ _ 0 (by omega)) (hso2 _ _ 1 (by omega)) (hso2 _ _ 2 (by omega)) (hso2 _ _ 3 (by omega))) ⟨sign_yes H1.out HH.out, ?_⟩
          exact (((((hB.setCell (Nat.le_succ _) _).setCell (Nat.le_succ _) _).setCell (Nat.le_refl _) _).setCell (Nat.le_refl _) _).setCell (Nat.le_refl _) _).setCell (Nat.le_refl _) _
        | false =>
          have HH : Hid (sgn (suf s p) (k + 1) = none) := sgn_miss HN.out (by rw [HS.out, he])
          go_wp2
          go_round
          case rel => exact ⟨k + 1, by omega, by go_num, HH.out⟩
          case measure => simp [intOf]; omega
      · have hfi : ¬ (p : Int) + ((sigA k).size : Int) ≤ (s.size : Int) := by omega
        have HH : Hid (sgn (suf s p) (k + 1) = none) := sgn_miss HN.out (sg_nofit (by omega) hfit)
        go_wp2
        go_round
        case rel => exact ⟨k + 1, by omega, by go_num, HH.out⟩
        case measure => simp [intOf]; omega
    · obtain rfl : k = 29 := by omega
      go_wp2
      refine ret_lx rfl rfl (four_set (hso 0 (by omega)) (hso 1 (by omega)) (hso 2 (by omega)) (hso 3 (by omega))) ⟨sign_no H1.out HN.out, ?_⟩
      exact (((hB.setCell (Nat.le_refl _) _).setCell (Nat.le_refl _) _).setCell (Nat.le_refl _) _).setCell (Nat.le_refl _) _

end Go.Proofs.YtbnmefponeomiaaDoor.lx
