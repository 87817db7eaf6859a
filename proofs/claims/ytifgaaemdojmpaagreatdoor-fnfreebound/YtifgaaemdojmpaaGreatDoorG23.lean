import Derived.Test.YtifgaaemdojmpaaGreatDoorG22
import Derived.Test.YtifgaaemdojmpaaGreatDoorG06
namespace Go.Proofs.YtifgaaemdojmpaaGreatDoor.lx
open Go.ChangeShapes Go.WideShapes Go.ChangeAt Go.RowKit Go.Deep
set_option linter.unusedVariables false
set_option linter.unusedSimpArgs false

def sigA (k : Nat) : ByteArray := ⟨(sigL k).toArray⟩

theorem ret_lx {tmps : Array Value} {W : World} {b : Nat} {v0 v1 v2 v3 r : Value} {R : Ending → World → Prop} (h4 : tmps.getD 4 undef = .pointer (some ⟨b, 0, none⟩)) (h5 : tmps.getD 5 undef = r)
    (k : W.cell? ⟨b, 0, none⟩ = some v0 ∧ W.cell? ⟨b, 1, none⟩ = some v1 ∧ W.cell? ⟨b, 2, none⟩ = some v2 ∧ W.cell? ⟨b, 3, none⟩ = some v3) (hR : R (.returned (.tuple #[.agg #[v0, v1, v2, v3], r])) W) :
    bodyPost Tryz.prog Tryz.f78 R Exit.ret { tmps := tmps, defers := [] } W := by
  obtain ⟨k0, k1, k2, k3⟩ := k
  have h4' : tmps[4]?.getD undef = .pointer (some ⟨b, 0, none⟩) := by simpa using h4
  have h5' : tmps[5]?.getD undef = r := by simpa using h5
  exact bodyPost_ret (v := .tuple #[.agg #[v0, v1, v2, v3], r]) (by simp [results, Tryz.results78, go_sem, h4', h5', k0, k1, k2, k3]) rfl hR

theorem sig_row (w : World) : (w.alloc (.cells #[.string ⟨#[46, 46, 46]⟩, .string ⟨#[45, 62]⟩, .string ⟨#[47, 47]⟩, .string ⟨#[43, 43]⟩, .string ⟨#[38, 38]⟩, .string ⟨#[124, 124]⟩, .string ⟨#[61, 61]⟩, .string ⟨#[33, 61]⟩, .string ⟨#[60, 61]⟩, .string ⟨#[62, 61]⟩, .string ⟨#[123]⟩, .string ⟨#[125]⟩, .string ⟨#[91]⟩, .string ⟨#[93]⟩, .string ⟨#[40]⟩, .string ⟨#[41]⟩, .string ⟨#[59]⟩, .string ⟨#[58]⟩, .string ⟨#[44]⟩, .string ⟨#[46]⟩, .string ⟨#[63]⟩, .string ⟨#[61]⟩, .string ⟨#[60]⟩, .string ⟨#[62]⟩, .string ⟨#[43]⟩, .string ⟨#[45]⟩, .string ⟨#[42]⟩, .string ⟨#[47]⟩, .string ⟨#[33]⟩] 9)).rowIs w.heap.size 9 29 (fun k => .string (sigA k)) :=
  World.rowIs_alloc w _ 9 _ (fun i hi => by
    match i, hi with
    | 0, _ => rfl
    | 1, _ => rfl
    | 2, _ => rfl
    | 3, _ => rfl
    | 4, _ => rfl
    | 5, _ => rfl
    | 6, _ => rfl
    | 7, _ => rfl
    | 8, _ => rfl
    | 9, _ => rfl
    | 10, _ => rfl
    | 11, _ => rfl
    | 12, _ => rfl
    | 13, _ => rfl
    | 14, _ => rfl
    | 15, _ => rfl
    | 16, _ => rfl
    | 17, _ => rfl
    | 18, _ => rfl
    | 19, _ => rfl
    | 20, _ => rfl
    | 21, _ => rfl
    | 22, _ => rfl
    | 23, _ => rfl
    | 24, _ => rfl
    | 25, _ => rfl
    | 26, _ => rfl
    | 27, _ => rfl
    | 28, _ => rfl
    | n + 29, h => exact absurd h (by simp))

theorem signs_any (w : World) :
    Calls Tryz.prog 105 #[] w fun e w' => e = .returned (.slice (some ⟨w.heap.size, 0, none⟩) 29 29) ∧ w'.rowIs w.heap.size 9 29 (fun k => .string (sigA k)) ∧ Below w.heap.size w w' := by
  go_enter Tryz.func105, Tryz.ntmps105
  go_wp2
  go_ret
  exact ⟨rfl, sig_row w, (Below.refl _ _).alloc (Nat.le_refl _) _⟩

theorem text_no {s : ByteArray} {p : Nat} {a : Int} {b : ByteArray} {c d : Int} (h1 : one (suf s p) = text (suf s p)) (h : txt (suf s p) = none) :
    OneIs (suf s p) p (.returned (.tuple #[.agg #[.int .i64 a, .string b, .int .i64 c, .int .i64 d], .int .i64 (txI (suf s p) p)])) := by
  refine .inr ⟨by rw [h1, text, h], a, b, c, d, ?_⟩
  simp [txI, h]

theorem text_yes {s : ByteArray} {p : Nat} {acc : List UInt8} {n : Nat} (h1 : one (suf s p) = text (suf s p)) (h : txt (suf s p) = some (acc, n)) :
    OneIs (suf s p) p (.returned (.tuple #[.agg #[.int .i64 3, .string (txS (suf s p)), .int .i64 0, .int .i64 (p : Int)], .int .i64 (txI (suf s p) p)])) := by
  refine .inl ⟨⟨3, acc, 0, n⟩, by rw [h1, text, h], ?_⟩
  simp [txI, txS, h, lxV]

theorem text_is {s : ByteArray} {p : Nat} (h1 : one (suf s p) = text (suf s p)) :
    OneIs (suf s p) p (.returned (.tuple #[.agg #[.int .i64 3, .string (txS (suf s p)), .int .i64 0, .int .i64 (p : Int)], .int .i64 (txI (suf s p) p)])) := by
  cases h : txt (suf s p) with
  | none => exact text_no h1 h
  | some x => obtain ⟨acc, n⟩ := x; exact text_yes h1 h

theorem two_tests {s : ByteArray} {p : Nat} {hp : p < s.size} (hf : isFirst s[p] = false) : isLet s[p] = false ∧ ((s[p].toNat : Int) == 95) = false := by
  simp only [isFirst, Bool.or_eq_false_iff] at hf
  exact hf

set_option maxHeartbeats 1000000 in
theorem one_txt (s : ByteArray) (hs : s.size ≤ 20000) (p : Nat) (hp : p < s.size) (hf : isFirst s[p] = false) (hd : isDig s[p] = false) (hq : isB 34 s[p] = true) (w : World) :
    Calls Tryz.prog 78 #[.string s, .int .i64 (p : Int)] w fun e w' => OneIs (suf s p) p e ∧ Below w.heap.size w w' := by
  have H1 : Hid (one (suf s p) = text (suf s p)) := one_text hp hf hd hq
  have hpi : (p : Int) < (s.size : Int) := by omega
  obtain ⟨hL, hU⟩ := two_tests hf
  have hq' : ((s[p].toNat : Int) == 34) = true := hq
  clear hf hq
  obtain ⟨T, HT⟩ : ∃ T, Hid (T = txS (suf s p)) := ⟨_, rfl⟩
  obtain ⟨I, HI⟩ : ∃ I, Hid (I = txI (suf s p) p) := ⟨_, rfl⟩
  have HC : Hid (∀ w, Calls Tryz.prog 104 #[.string s, .int .i64 (p : Int)] w fun e w' => e = .returned (.tuple #[.string T, .int .i64 I]) ∧ Below w.heap.size w w') := by
    show ∀ w, _
    intro w
    rw [HT.out, HI.out]
    exact text_any s hs p hp w
  go_enter Tryz.func78, Tryz.ntmps78
  go_wp2_with (first
    | (go_at_call 91; refine (letter_any _ _).mono ?_; rintro e w' ⟨rfl, rfl⟩)
    | (go_at_call 103; refine (digit_any _ _).mono ?_; rintro e w' ⟨rfl, rfl⟩)
    | (go_at_call 104; refine (HC.out _).mono ?_; rintro e w1 ⟨rfl, hl1⟩; obtain ⟨hc, hfz⟩ := bcell hl1))
  have hB : Below w.heap.size w w1 := (two_bel w _ _).trans (hl1.mono (by simp; omega))
  have hso : ∀ i, i < 4 → (w1.cell? ⟨w.heap.size, i, none⟩).isSome = true := fun i hi => by
    rw [hc _ _ (by first | (simp; done) | (simp; omega))]
    have h : i = 0 ∨ i = 1 ∨ i = 2 ∨ i = 3 := by omega
    rcases h with rfl | rfl | rfl | rfl <;> simp [go_sem]
  have hso2 : ∀ (v v' : Value) i, i < 4 → (((w1.setCell ⟨w.heap.size + 1, 0, none⟩ v).setCell ⟨w.heap.size + 1, 1, none⟩ v').cell? ⟨w.heap.size, i, none⟩).isSome = true := fun v v' i hi => by
    rw [set_oth (by omega), set_oth (by omega)]
    exact hso i hi
  refine ret_lx rfl rfl (four_set (hso2 _ _ 0 (by omega)) (hso2 _ _ 1 (by omega)) (hso2 _ _ 2 (by omega)) (hso2 _ _ 3 (by omega))) ⟨?_, ?_⟩
  · rw [HT.out, HI.out]
    exact text_is H1.out
  · exact (((((hB.setCell (Nat.le_succ _) _).setCell (Nat.le_succ _) _).setCell (Nat.le_refl _) _).setCell (Nat.le_refl _) _).setCell (Nat.le_refl _) _).setCell (Nat.le_refl _) _

theorem sig_len (k : Nat) : (sigA k).size = (sigL k).length := by simp [sigA, ByteArray.size]

theorem sg_fit {s : ByteArray} {p k : Nat} (h : p + (sigA k).size ≤ s.size) : sgAt (suf s p) k = ((s.extract p (p + (sigA k).size)).toList == (sigA k).toList) := by
  rw [ext_take h, sig_len, Bool.eq_iff_iff]
  unfold sgAt
  rw [List.isPrefixOf_iff_prefix, List.prefix_iff_eq_take, beq_iff_eq]
  simp [ByteArray.toList_eq, sigA]
  exact eq_comm

theorem sg_nofit {s : ByteArray} {p k : Nat} (hp : p ≤ s.size) (h : ¬ p + (sigA k).size ≤ s.size) : sgAt (suf s p) k = false := by
  rw [Bool.eq_false_iff]
  intro hs
  unfold sgAt at hs
  rw [List.isPrefixOf_iff_prefix] at hs
  have := hs.length_le
  rw [suf_len, ← sig_len] at this
  omega

theorem sign_no {s : ByteArray} {p : Nat} {a : Int} {b : ByteArray} {c d : Int} (h1 : one (suf s p) = sign (suf s p)) (h : sgn (suf s p) 29 = none) :
    OneIs (suf s p) p (.returned (.tuple #[.agg #[.int .i64 a, .string b, .int .i64 c, .int .i64 d], .int .i64 (-1)])) :=
  .inr ⟨by rw [h1, sign, h], a, b, c, d, rfl⟩

theorem sign_yes {s : ByteArray} {p k : Nat} (h1 : one (suf s p) = sign (suf s p)) (h : sgn (suf s p) 29 = some k) :
    OneIs (suf s p) p (.returned (.tuple #[.agg #[.int .i64 4, .string (sigA k), .int .i64 0, .int .i64 (p : Int)], .int .i64 ((p : Int) + ((sigA k).size : Int))])) := by
  refine .inl ⟨⟨4, sigL k, 0, (sigL k).length⟩, by rw [h1, sign, h], ?_⟩
  simp [lxV, sigA, sig_len, ByteArray.size]

theorem sig_small (k : Nat) (hk : k < 29) : (sigA k).size ≤ 3 := by
  have : ∀ k, k < 29 → (sigL k).length ≤ 3 := by decide
  rw [sig_len]
  exact this k hk

set_option maxHeartbeats 1000000 in
theorem one_sgn (s : ByteArray) (hs : s.size ≤ 20000) (p : Nat) (hp : p < s.size) (hf : isFirst s[p] = false) (hd : isDig s[p] = false) (hq : isB 34 s[p] = false) (w : World) :
    Calls Tryz.prog 78 #[.string s, .int .i64 (p : Int)] w fun e w' => OneIs (suf s p) p e ∧ Below w.heap.size w w' := by
  have H1 : Hid (one (suf s p) = sign (suf s p)) := one_sign hp hf hd hq
  have hpi : (p : Int) < (s.size : Int) := by omega
  obtain ⟨hL, hU⟩ := two_tests hf
  have hq' : ((s[p].toNat : Int) == 34) = false := hq
  clear hf hq
  go_enter Tryz.func78, Tryz.ntmps78
  go_wp2_with (first
    | (go_at_call 91; refine (letter_any _ _).mono ?_; rintro e w' ⟨rfl, rfl⟩)
    | (go_at_call 103; refine (digit_any _ _).mono ?_; rintro e w' ⟨rfl, rfl⟩)
    | (go_at_call 105; refine (signs_any _).mono ?_; rintro e w1 ⟨rfl, hrow, hl1⟩; obtain ⟨hc, hfz⟩ := bcell hl1))
  have hB : Below w.heap.size w w1 := (two_bel w _ _).trans (hl1.mono (by simp; omega))
  have hso : ∀ i, i < 4 → (w1.cell? ⟨w.heap.size, i, none⟩).isSome = true := fun i hi => by
    rw [hc _ _ (by first | (simp; done) | (simp; omega))]
    have h : i = 0 ∨ i = 1 ∨ i = 2 ∨ i = 3 := by omega
    rcases h with rfl | rfl | rfl | rfl <;> simp [go_sem]
  have hso2 : ∀ (v v' : Value) i, i < 4 → (((w1.setCell ⟨w.heap.size + 1, 0, none⟩ v).setCell ⟨w.heap.size + 1, 1, none⟩ v').cell? ⟨w.heap.size, i, none⟩).isSome = true := fun v v' i hi => by
    rw [set_oth (by omega), set_oth (by omega)]
    exact hso i hi
  go_loop [12, 13] (fun i _ => ∃ k : Nat, k ≤ 29 ∧ i = .int .i64 k ∧ sgn (suf s p) k = none) (fun i _ => 29 - (intOf i).toNat)
  case atStart => exact ⟨0, by omega, rfl, rfl⟩
  case round =>
    obtain ⟨k, hk, rfl, hno⟩ := hrel
    have HN : Hid (sgn (suf s p) k = none) := hno
    clear hno
    by_cases hlt : k < 29
    · have hck := hrow.cell hlt
      have hsm := sig_small k hlt
      simp at hck
      by_cases hfit : p + (sigA k).size ≤ s.size
      · have hfi : (p : Int) + ((sigA k).size : Int) ≤ (s.size : Int) := by omega
        have HS : Hid (sgAt (suf s p) k = ((s.extract p (p + (sigA k).size)).toList == (sigA k).toList)) := sg_fit hfit
        cases he : ((s.extract p (p + (sigA k).size)).toList == (sigA k).toList) with
        | true =>
          have HH : Hid (sgn (suf s p) 29 = some k) := sgn_hit hlt HN.out (by rw [HS.out, he])
          go_wp2
          refine ret_lx rfl rfl (four_set (hso2 _ _ 0 (by omega)) (hso2 _ _ 1 (by omega)) (hso2 _ _ 2 (by omega)) (hso2 _ _ 3 (by omega))) ⟨sign_yes H1.out HH.out, ?_⟩
          exact (((((hB.setCell (Nat.le_succ _) _).setCell (Nat.le_succ _) _).setCell (Nat.le_refl _) _).setCell (Nat.le_refl _) _).setCell (Nat.le_refl _) _).setCell (Nat.le_refl _) _
        | false =>
          have HH : Hid (sgn (suf s p) (k + 1) = none) := sgn_miss HN.out (by rw [HS.out, he])
          go_wp2
          go_round
          case rel => exact ⟨k + 1, by omega, by go_num, HH.out⟩
          case measure => simp [intOf]; omega
      · have hfi : ¬ (p : Int) + ((sigA k).size : Int) ≤ (s.size : Int) := by omega
        have HH : Hid (sgn (suf s p) (k + 1) = none) := sgn_miss HN.out (sg_nofit (by omega) hfit)
        go_wp2
        go_round
        case rel => exact ⟨k + 1, by omega, by go_num, HH.out⟩
        case measure => simp [intOf]; omega
    · obtain rfl : k = 29 := by omega
      go_wp2
      refine ret_lx rfl rfl (four_set (hso 0 (by omega)) (hso 1 (by omega)) (hso 2 (by omega)) (hso 3 (by omega))) ⟨sign_no H1.out HN.out, ?_⟩
      exact (((hB.setCell (Nat.le_refl _) _).setCell (Nat.le_refl _) _).setCell (Nat.le_refl _) _).setCell (Nat.le_refl _) _

end Go.Proofs.YtifgaaemdojmpaaGreatDoor.lx

namespace Go.Proofs.YtifgaaemdojmpaaGreatDoor.lx
open Go.ChangeShapes Go.WideShapes Go.ChangeAt Go.RowKit Go.Deep
set_option linter.unusedVariables false
set_option linter.unusedSimpArgs false

theorem one_any (s : ByteArray) (hs : s.size ≤ 20000) (p : Nat) (hp : p < s.size) (w : World) :
    Calls Tryz.prog 78 #[.string s, .int .i64 (p : Int)] w fun e w' => OneIs (suf s p) p e ∧ Below w.heap.size w w' := by
  cases h1 : isFirst s[p] with
  | true => exact one_word s hs p hp h1 w
  | false =>
    cases h2 : isDig s[p] with
    | true => exact one_int s hs p hp h1 h2 w
    | false =>
      cases h3 : isB 34 s[p] with
      | true => exact one_txt s hs p hp h1 h2 h3 w
      | false => exact one_sgn s hs p hp h1 h2 h3 w

def notNl (b : UInt8) : Bool := !(isB 10 b)

def lexF (s : ByteArray) : Nat → Nat → List (Lx × Nat) × Int
  | 0, _ => ([], -1)
  | f + 1, p => match suf s p with
    | [] => ([], -1)
    | b :: _ => if isBlank b then lexF s f (p + 1) else if isB 35 b then lexF s f (p + run notNl (suf s p)) else match one (suf s p) with
      | none => ([], (p : Int))
      | some x => ((x, p) :: (lexF s f (p + x.size)).1, (lexF s f (p + x.size)).2)

theorem hash_nl {b : UInt8} (h : isB 35 b = true) : notNl b = true := by
  simp only [notNl, isB, beq_iff_eq] at *
  rw [h]
  rfl

theorem st_ge {l : List UInt8} : ∀ {j o acc}, stTo l j = some (o, acc) → 1 ≤ o := by
  intro j
  induction j with
  | zero => intro o acc h; cases h; exact Nat.le_refl _
  | succ j ih =>
    intro o acc h
    unfold stTo at h
    split at h
    · rename_i o' acc' h'
      have := ih h'
      split at h
      · split at h
        · cases h; exact this
        · split at h
          · split at h
            · cases h
            · cases h; omega
          · cases h
      · cases h; exact this
    · cases h

theorem sig_pos (k : Nat) (hk : k < 29) : 1 ≤ (sigL k).length := by
  have : ∀ k, k < 29 → 1 ≤ (sigL k).length := by decide
  exact this k hk

theorem sgn_lt {l : List UInt8} {n k : Nat} (h : sgn l n = some k) : k < n := by
  have := List.mem_of_find?_eq_some h
  simpa using this

theorem sgn_at {l : List UInt8} {n k : Nat} (h : sgn l n = some k) : sgAt l k = true := List.find?_some (p := fun k => sgAt l k) h

/-- A lexeme takes a byte at least, and no more than there are. -/
theorem one_size {l : List UInt8} {x : Lx} (h : one l = some x) : 1 ≤ x.size ∧ x.size ≤ l.length := by
  unfold one at h
  split at h
  · cases h
  · rename_i b r
    split at h
    · rename_i hf
      unfold word at h
      split at h
      · cases h
      · cases h
        exact ⟨run_pos (isWord_first hf), run_le _ _⟩
    · split at h
      · rename_i hd
        unfold int at h
        split at h
        · cases h
        · cases h
          exact ⟨run_pos hd, run_le _ _⟩
      · split at h
        · unfold text at h
          split at h
          · rename_i acc n ht
            cases h
            unfold txt at ht
            split at ht
            · split at ht
              · cases ht; exact ⟨by show 1 ≤ _ + 1; omega, by show _ + 1 ≤ _; omega⟩
              · cases ht
            · cases ht
          · cases h
        · unfold sign at h
          split at h
          · rename_i k hk
            cases h
            refine ⟨sig_pos k (sgn_lt hk), ?_⟩
            have := sgn_at hk
            unfold sgAt at this
            rw [List.isPrefixOf_iff_prefix] at this
            exact this.length_le
          · cases h

/-- Enough fuel is enough. -/
theorem lexF_fuel (s : ByteArray) : ∀ n p f, s.size - p ≤ n → n < f → lexF s f p = lexF s (n + 1) p := by
  intro n
  induction n with
  | zero =>
    intro p f h hf
    have e : suf s p = [] := suf_end (by omega)
    obtain ⟨f, rfl⟩ : ∃ g, f = g + 1 := ⟨f - 1, by omega⟩
    simp [lexF, e]
  | succ n ih =>
    intro p f h hf
    obtain ⟨f, rfl⟩ : ∃ g, f = g + 1 := ⟨f - 1, by omega⟩
    rcases Nat.lt_or_ge p s.size with hp | hp
    · have hc := suf_cons hp
      have hlen := suf_len s p
      have e1 : ∀ q, 1 ≤ q → lexF s f (p + q) = lexF s (n + 1) (p + q) := fun q hq => ih (p + q) f (by omega) (by omega)
      unfold lexF
      rw [hc]
      simp only []
      split
      · exact e1 1 (Nat.le_refl _)
      · split
        · rename_i hh
          exact e1 _ (run_pos (hash_nl hh))
        · rw [← hc]
          cases ho : one (suf s p) with
          | none => rfl
          | some x =>
            simp only []
            rw [e1 _ (one_size ho).1]
    · have e : suf s p = [] := suf_end hp
      simp [lexF, e]

/-- The lexemes from a place on, and the place of the fault. -/
def lexP (s : ByteArray) (p : Nat) : List (Lx × Nat) × Int := lexF s (s.size + 1) p

theorem lexP_end {s : ByteArray} {p : Nat} (h : s.size ≤ p) : lexP s p = ([], -1) := by
  unfold lexP lexF
  rw [suf_end h]

theorem lexP_more {s : ByteArray} {p q : Nat} (hp : p < s.size) (hq : 1 ≤ q) : lexF s s.size (p + q) = lexP s (p + q) := by
  unfold lexP
  rw [lexF_fuel s (s.size - 1) (p + q) s.size (by omega) (by omega), lexF_fuel s (s.size - 1) (p + q) (s.size + 1) (by omega) (by omega)]

theorem lexP_blank {s : ByteArray} {p : Nat} (hp : p < s.size) (h : isBlank s[p] = true) : lexP s p = lexP s (p + 1) := by
  rw [← lexP_more hp (Nat.le_refl 1)]
  conv => lhs; unfold lexP lexF
  rw [suf_cons hp]
  simp [h]

theorem lexP_hash {s : ByteArray} {p : Nat} (hp : p < s.size) (h : isBlank s[p] = false) (h2 : isB 35 s[p] = true) : lexP s p = lexP s (p + run notNl (suf s p)) := by
  have hr : 1 ≤ run notNl (suf s p) := by rw [suf_cons hp]; exact run_pos (hash_nl h2)
  rw [← lexP_more hp hr]
  conv => lhs; unfold lexP lexF
  rw [suf_cons hp]
  simp [h, h2]

theorem lexP_none {s : ByteArray} {p : Nat} (hp : p < s.size) (h : isBlank s[p] = false) (h2 : isB 35 s[p] = false) (ho : one (suf s p) = none) : lexP s p = ([], (p : Int)) := by
  unfold lexP lexF
  rw [suf_cons hp] at ho ⊢
  simp [h, h2, ho]

theorem lexP_some {s : ByteArray} {p : Nat} {x : Lx} (hp : p < s.size) (h : isBlank s[p] = false) (h2 : isB 35 s[p] = false) (ho : one (suf s p) = some x) : lexP s p = ((x, p) :: (lexP s (p + x.size)).1, (lexP s (p + x.size)).2) := by
  rw [← lexP_more hp (one_size ho).1]
  conv => lhs; unfold lexP lexF
  rw [suf_cons hp] at ho ⊢
  simp [h, h2, ho]

/-- A lexeme's four cells. -/
def lxC (y : Lx × Nat) : List Value := [.int .i64 y.1.kind, .string ⟨y.1.text.toArray⟩, .int .i64 y.1.num, .int .i64 (y.2 : Int)]
def lxCs (l : List (Lx × Nat)) : List Value := l.flatMap lxC
theorem lxCs_snoc (l : List (Lx × Nat)) (y : Lx × Nat) : lxCs (l ++ [y]) = lxCs l ++ lxC y := by simp [lxCs]
theorem lxCs_len (l : List (Lx × Nat)) : (lxCs l).length = l.length * 4 := by
  induction l with
  | nil => rfl
  | cons y r ih => simp only [lxCs, List.flatMap_cons, List.length_append, List.length_cons] at *; rw [ih]; simp [lxC]; omega

end Go.Proofs.YtifgaaemdojmpaaGreatDoor.lx

namespace Go.Proofs.YtifgaaemdojmpaaGreatDoor.lx
open Go.ChangeShapes Go.WideShapes Go.ChangeAt Go.RowKit Go.Deep
set_option linter.unusedVariables false
set_option linter.unusedSimpArgs false

theorem infoLx : (Tryz.prog.info? 141).map (fun i => (i.zero, i.size, i.bytes)) = some (some (.agg #[.int .i64 0, .string ⟨#[]⟩, .int .i64 0, .int .i64 0]), 4, 40) := by kernel_rfl

theorem own_emptyL (w : World) : (w.alloc (.cells #[] 141)).ownsRow w.heap.size 141 4 (.slice (some ⟨w.heap.size, 0, none⟩) 0 0) 0 (lxCs []) := World.ownsRow_made w #[] 0 (Nat.le_refl _) (by decide) rfl

theorem four_new (w : World) (a b c d : Value) (e : TypeId) : ∀ j v, [a, b, c, d][j]? = some v → (w.alloc (.cells #[a, b, c, d] e)).cell? ((⟨w.heap.size, 0, none⟩ : Addr).add j) = some v := by
  intro j v h
  match j, h with
  | 0, h =>
    obtain rfl : a = v := by simpa using h
    simp [Addr.add]
  | 1, h =>
    obtain rfl : b = v := by simpa using h
    simp [Addr.add]
  | 2, h =>
    obtain rfl : c = v := by simpa using h
    simp [Addr.add]
  | 3, h =>
    obtain rfl : d = v := by simpa using h
    simp [Addr.add]

theorem four_new1 (w : World) (O : Obj) (a b c d : Value) (e : TypeId) : ∀ j v, [a, b, c, d][j]? = some v → ((w.alloc O).alloc (.cells #[a, b, c, d] e)).cell? ((⟨w.heap.size + 1, 0, none⟩ : Addr).add j) = some v := by
  have h := four_new (w.alloc O) a b c d e
  have hz : (w.alloc O).heap.size = w.heap.size + 1 := by simp
  rw [hz] at h
  exact h

theorem lxC_oneCell (y : Lx × Nat) : ∀ u ∈ lxC y, u.oneCell' = true := by
  intro u hu
  simp [lxC] at hu
  rcases hu with rfl | rfl | rfl | rfl <;> rfl

/-- What is left behind a part: the whole is the part and the rest. -/
def Rest (s : ByteArray) (acc : List (Lx × Nat)) (p : Nat) : Prop := lexP s 0 = (acc ++ (lexP s p).1, (lexP s p).2) ∧ acc.length ≤ p

/-- What Lex answers: the lexemes, in a row of its own, and the place. -/
def LexIs (s : ByteArray) (w : World) (e : Ending) (w' : World) : Prop :=
  ∃ v, e = .returned (.tuple #[v, .int .i64 (if 20000 < s.size then 0 else (lexP s 0).2)]) ∧
    w'.ownsRow w.heap.size 141 4 v (if 20000 < s.size then 0 else (lexP s 0).1.length) (lxCs (if 20000 < s.size then [] else (lexP s 0).1)) ∧ Below w.heap.size w w'

theorem lex_end {s : ByteArray} {w w' : World} {v : Value} {acc : List (Lx × Nat)} {p : Nat} (hs : ¬ 20000 < s.size) (hr : Rest s acc p) (hp : s.size ≤ p) (ho : w'.ownsRow w.heap.size 141 4 v acc.length (lxCs acc)) (hb : Below w.heap.size w w') :
    LexIs s w (.returned (.tuple #[v, .int .i64 (-1)])) w' := by
  have e := hr.1
  rw [lexP_end hp, List.append_nil] at e
  refine ⟨v, ?_, ?_, hb⟩
  · rw [if_neg hs, e]
  · rw [if_neg hs, if_neg hs, e]
    exact ho

theorem lex_fail {s : ByteArray} {w w' : World} {v : Value} {acc : List (Lx × Nat)} {p : Nat} (hs : ¬ 20000 < s.size) (hr : Rest s acc p) (h : lexP s p = ([], (p : Int))) (ho : w'.ownsRow w.heap.size 141 4 v acc.length (lxCs acc)) (hb : Below w.heap.size w w') :
    LexIs s w (.returned (.tuple #[v, .int .i64 (p : Int)])) w' := by
  have e := hr.1
  rw [h, List.append_nil] at e
  refine ⟨v, ?_, ?_, hb⟩
  · rw [if_neg hs, e]
  · rw [if_neg hs, if_neg hs, e]
    exact ho

theorem lex_big {s : ByteArray} {w : World} (hs : 20000 < s.size) : LexIs s w (.returned (.tuple #[.slice (some ⟨w.heap.size, 0, none⟩) 0 0, .int .i64 0])) (w.alloc (.cells #[] 141)) := by
  refine ⟨_, by rw [if_pos hs], ?_, (Below.refl _ _).alloc (Nat.le_refl _) _⟩
  rw [if_pos hs, if_pos hs]
  exact own_emptyL w

theorem rest_same {s : ByteArray} {acc : List (Lx × Nat)} {p q : Nat} (hr : Rest s acc p) (h : lexP s p = lexP s q) (hq : p ≤ q) : Rest s acc q := ⟨by rw [← h]; exact hr.1, by have := hr.2; omega⟩

theorem rest_one {s : ByteArray} {acc : List (Lx × Nat)} {p : Nat} {x : Lx} (hr : Rest s acc p) (h : lexP s p = ((x, p) :: (lexP s (p + x.size)).1, (lexP s (p + x.size)).2)) (hx : 1 ≤ x.size) : Rest s (acc ++ [(x, p)]) (p + x.size) := by
  refine ⟨?_, by have := hr.2; simp; omega⟩
  have := hr.1
  rw [h] at this
  rw [this]
  simp

theorem one_split {s : ByteArray} {p : Nat} {G : Prop} (h : ∀ w, Calls Tryz.prog 78 #[.string s, .int .i64 (p : Int)] w fun e w' => OneIs (suf s p) p e ∧ Below w.heap.size w w')
    (h1 : (one (suf s p) = none ∧ ∀ w, Calls Tryz.prog 78 #[.string s, .int .i64 (p : Int)] w fun e w' => (∃ a b c d, e = .returned (.tuple #[.agg #[.int .i64 a, .string b, .int .i64 c, .int .i64 d], .int .i64 (-1)])) ∧ Below w.heap.size w w') → G)
    (h2 : ∀ x, one (suf s p) = some x → (∀ w, Calls Tryz.prog 78 #[.string s, .int .i64 (p : Int)] w fun e w' => e = .returned (.tuple #[lxV x p, .int .i64 ((p + x.size : Nat) : Int)]) ∧ Below w.heap.size w w') → G) : G := by
  cases ho : one (suf s p) with
  | none =>
    refine h1 ⟨ho, fun w => (h w).mono fun e w' ⟨he, hb⟩ => ⟨?_, hb⟩⟩
    rcases he with ⟨x, hx, _⟩ | ⟨_, he⟩
    · rw [ho] at hx; cases hx
    · exact he
  | some x =>
    refine h2 x ho (fun w => (h w).mono fun e w' ⟨he, hb⟩ => ⟨?_, hb⟩)
    rcases he with ⟨y, hy, he⟩ | ⟨hn, _⟩
    · rw [ho] at hy; cases hy; exact he
    · rw [ho] at hn; cases hn

set_option maxHeartbeats 2000000 in
theorem sLex_any (s : ByteArray) (hs : s.size ≤ 1048576) (w : World) :
    Calls Tryz.prog 56 #[.string s] w fun e w' => LexIs s w e w' := by
  by_cases hbig : 20000 < s.size
  · go_enter Tryz.func56, Tryz.ntmps56
    go_wp2
    go_ret2
    exact lex_big hbig
  have hsz2 : s.size ≤ 20000 := by omega
  go_enter Tryz.func56, Tryz.ntmps56
  go_wp2
  go_loopw [4, 5, 6, 7] (fun v i _ _ wr => ∃ (p : Nat) (acc : List (Lx × Nat)), p ≤ s.size ∧ i = .int .i64 (p : Int) ∧ Rest s acc p ∧ wr.ownsRow w.heap.size 141 4 v acc.length (lxCs acc) ∧ Below w.heap.size w wr) (fun _ i _ _ _ => s.size - (intOf i).toNat)
  case atStart => exact ⟨0, [], Nat.zero_le _, rfl, ⟨by simp, Nat.le_refl _⟩, own_emptyL w, (Below.refl _ _).alloc (Nat.le_refl _) _⟩
  case round =>
    obtain ⟨p, acc, hp, rfl, hr, hown, hbel⟩ := hrel
    have HR : Hid (Rest s acc p) := hr
    have hal := hr.2
    clear hr
    have hsz := hbel.size
    by_cases hlt : p < s.size
    · have hlti : (p : Int) < (s.size : Int) := by omega
      cases hbl : isBlank s[p] with
      | true =>
        have HE : Hid (lexP s p = lexP s (p + 1)) := lexP_blank hlt hbl
        go_wp2_with (go_at_call 77; refine (blank_any _ _).mono ?_; rintro e w' ⟨rfl, rfl⟩)
        go_roundw
        case rel => exact ⟨p + 1, acc, by omega, by go_num, rest_same HR.out HE.out (by omega), hown, hbel⟩
        case measure => simp [intOf]; omega
      | false =>
        cases hh : isB 35 s[p] with
        | true =>
          have HE : Hid (lexP s p = lexP s (p + run notNl (suf s p))) := lexP_hash hlt hbl hh
          have hh' : ((s[p].toNat : Int) == 35) = true := hh
          have hrl := run_le notNl (suf s p)
          have hsl := suf_len s p
          have hrp : 1 ≤ run notNl (suf s p) := by rw [suf_cons hlt]; exact run_pos (hash_nl hh)
          clear hh
          go_wp2_with (go_at_call 77; refine (blank_any _ _).mono ?_; rintro e w' ⟨rfl, rfl⟩)
          go_loop [5] (fun i => ∃ k : Nat, k ≤ run notNl (suf s p) ∧ i = .int .i64 ((p + k : Nat) : Int)) (fun i => s.size - (intOf i).toNat)
          case atStart => exact ⟨0, Nat.zero_le _, rfl⟩
          case round =>
            obtain ⟨k, hk, rfl⟩ := hrel
            by_cases hl2 : p + k < s.size
            · have HG : Hid ((suf s p)[k]? = some s[p + k]) := suf_get hl2
              have hl2i : ((p + k : Nat) : Int) < (s.size : Int) := by omega
              cases hn : notNl s[p + k] with
              | true =>
                have hk2 := run_lt hk HG.out hn
                have hne : ((s[p + k].toNat : Int) != 10) = true := hn
                go_wp2
                go_round
                case rel => exact ⟨k + 1, by omega, by go_num⟩
                case measure => simp [intOf]; omega
              | false =>
                have HK : Hid (k = run notNl (suf s p)) := run_stop hk HG.out hn
                have hne : ((s[p + k].toNat : Int) != 10) = false := hn
                go_wp2
                go_roundw
                case rel => exact ⟨p + k, acc, by omega, by go_num, rest_same HR.out (by rw [HK.out]; exact HE.out) (by omega), hown, hbel⟩
                case measure => have := HK.out; simp [intOf]; omega
            · have HK : Hid (k = run notNl (suf s p)) := run_all hk (by omega)
              have hl2i : ¬ ((p + k : Nat) : Int) < (s.size : Int) := by omega
              go_wp2
              go_roundw
              case rel => exact ⟨p + k, acc, by omega, by go_num, rest_same HR.out (by rw [HK.out]; exact HE.out) (by omega), hown, hbel⟩
              case measure => have := HK.out; simp [intOf]; omega
        | false =>
          have hh' : ((s[p].toNat : Int) == 35) = false := hh
          have HH : Hid (isB 35 s[p] = false) := hh
          have HL : Hid (isBlank s[p] = false) := hbl
          clear hh
          refine one_split (one_any s hsz2 p hlt) (fun H => ?_) (fun x hx H => ?_)
          · have HO : Hid (one (suf s p) = none) := H.1
            have HC : Hid (∀ w, Calls Tryz.prog 78 #[.string s, .int .i64 (p : Int)] w fun e w' => (∃ a b c d, e = .returned (.tuple #[.agg #[.int .i64 a, .string b, .int .i64 c, .int .i64 d], .int .i64 (-1)])) ∧ Below w.heap.size w w') := H.2
            clear H
            go_wp2_with (first
              | (go_at_call 77; refine (blank_any _ _).mono ?_; rintro e w' ⟨rfl, rfl⟩)
              | (go_at_call 78; refine (HC.out _).mono ?_; rintro e w1 ⟨⟨a, b, c, d, rfl⟩, hl1⟩))
            go_ret2
            have hb1 := hbel.trans (hl1.mono hsz)
            have hs1 := hl1.size
            exact lex_fail hbig HR.out (lexP_none hlt HL.out HH.out HO.out) ((own_below hown hl1).alloc _) (hb1.alloc (by omega) _)
          · have HO : Hid (one (suf s p) = some x) := hx
            have HC : Hid (∀ w, Calls Tryz.prog 78 #[.string s, .int .i64 (p : Int)] w fun e w' => e = .returned (.tuple #[lxV x p, .int .i64 ((p + x.size : Nat) : Int)]) ∧ Below w.heap.size w w') := H
            have hxs := one_size hx
            have hsl := suf_len s p
            have hti : ¬ ((p + x.size : Nat) : Int) < 0 := by omega
            clear H hx
            go_wp2_with (first
              | (go_at_call 77; refine (blank_any _ _).mono ?_; rintro e w' ⟨rfl, rfl⟩)
              | (go_at_call 78; refine (HC.out _).mono ?_; rintro e w1 ⟨rfl, hl1⟩; unfold lxV)
              | (at_builtin; refine app_ownS _ rfl _ _ 133 rfl w.heap.size 141 (.agg #[.int .i64 0, .string ⟨#[]⟩, .int .i64 0, .int .i64 0]) 4 40 Tryz.underlying133 infoLx rfl (by decide) _ _ _ rfl (((own_below hown hl1).alloc _).alloc _) ⟨w1.heap.size + 1, 0, none⟩ 1 1 (lxC (x, p)) rfl rfl ?c1 (lxC_oneCell _) ?c3 ?c4 ?c5 ?_)
              | go_in)
            case c1 => exact four_new1 _ _ _ _ _ _ _
            case c3 => unfold maxLen; omega
            case c4 => omega
            case c5 => have := hl1.size; simp; omega
            intro v' w2 hown' hg
            have hs1 := hl1.size
            have hb1 := (hbel.trans (hl1.mono hsz)).alloc (by omega) (.cells #[.int .i64 x.kind, .string ⟨x.text.toArray⟩, .int .i64 x.num, .int .i64 (p : Int)] 141)
            have hb2 := hb1.alloc (by simp; omega) (.cells #[.int .i64 x.kind, .string ⟨x.text.toArray⟩, .int .i64 x.num, .int .i64 (p : Int)] 141)
            have hb' := below_grownS hb2 (((own_below hown hl1).alloc _).alloc _) hg (by simp; omega)
            rw [← lxCs_snoc] at hown'
            have HX : Hid (Rest s (acc ++ [(x, p)]) (p + x.size)) := rest_one HR.out (lexP_some hlt HL.out HH.out HO.out) hxs.1
            clear hb1 hb2
            go_wp2
            go_roundw
            case rel => exact ⟨p + x.size, acc ++ [(x, p)], by omega, by go_num, HX.out, by rw [List.length_append]; exact hown', hb'⟩
            case measure => simp [intOf]; omega
    · have hlti : ¬ (p : Int) < (s.size : Int) := by omega
      go_wp2
      go_ret2
      exact lex_end hbig HR.out (by omega) hown hbel

end Go.Proofs.YtifgaaemdojmpaaGreatDoor.lx

namespace Go.Proofs.YtifgaaemdojmpaaGreatDoor.pr
open Go.ChangeShapes Go.WideShapes Go.ChangeAt Go.RowKit Go.Deep
open lx (Lx)
open ex (Tr Ex infoE)
set_option linter.unusedVariables false
set_option linter.unusedSimpArgs false

/-! ### The specification's reader: all of it; spec.Parse -/

theorem all_any : ∀ f, CE f ∧ CV f ∧ CC f ∧ CG f ∧ CA f
  | 0 => by
    refine ⟨fun w rb cp i a l b h hf => ?_, fun w rb cp i lv a l h _ _ hf => ?_, fun w rb cp i a l h hf => ?_, fun w rb cp i a l h hf => ?_, fun w rb cp i a l h hf => ?_⟩
    · cases b with
      | true => rw [if_pos rfl]; exact expr_bad (f := 0) h
      | false => have := hf rfl; unfold FC at this; omega
    all_goals (unfold FC at hf; omega)
  | f + 1 => by
    obtain ⟨hE, hV, hC, hG, hA⟩ := all_any f
    have hlt := fun l => P_lt l f
    have hB := binds_any hE hlt
    have hT := take_any hE hlt
    exact ⟨expr_any hE hV hB hT, level_any hE hV hC hlt, calls_any hG hlt, gets_any hA hlt, atom_any hE hB hG hlt⟩

/-! What the lexer gives. -/

theorem one_txt_le {l : List UInt8} {x : Lx} (h : lx.one l = some x) : x.text.length ≤ 4000 := by
  unfold lx.one at h
  split at h
  · cases h
  · split at h
    · unfold lx.word at h
      split at h
      · cases h
      · cases h
        show (List.take _ _).length ≤ 4000
        rw [List.length_take]
        omega
    · split at h
      · unfold lx.int at h
        split at h
        · cases h
        · cases h; show ([] : List UInt8).length ≤ 4000; simp
      · split at h
        · unfold lx.text at h
          split at h
          · rename_i acc n ht
            cases h
            unfold lx.txt at ht
            split at ht
            · rename_i o acc2 hs
              split at ht
              · cases ht; exact lx.st_len hs
              · cases ht
            · cases ht
          · cases h
        · unfold lx.sign at h
          split at h
          · rename_i k hk
            cases h
            have h1 := lx.sgn_lt hk
            have h2 : ∀ k, k < 29 → (lx.sigL k).length ≤ 4000 := by decide
            exact h2 k h1
          · cases h
theorem lexF_all (s : ByteArray) : ∀ f p, (∀ x ∈ (lx.lexF s f p).1, x.1.text.length ≤ 4000) ∧ (lx.lexF s f p).1.length ≤ f
  | 0, p => ⟨fun x hx => by simp [lx.lexF] at hx, by simp [lx.lexF]⟩
  | f + 1, p => by
    unfold lx.lexF
    split
    · exact ⟨fun x hx => by simp at hx, by simp⟩
    · split
      · have := lexF_all s f (p + 1); exact ⟨this.1, by omega⟩
      · split
        · have := lexF_all s f (p + lx.run lx.notNl (lx.suf s p)); exact ⟨this.1, by omega⟩
        · split
          · exact ⟨fun x hx => by simp at hx, by simp⟩
          · rename_i x hx
            have := lexF_all s f (p + x.size)
            refine ⟨fun y hy => ?_, by simp only [List.length_cons]; omega⟩
            rcases List.mem_cons.1 hy with rfl | hy
            · exact one_txt_le hx
            · exact this.1 y hy
theorem lexP_all (s : ByteArray) : (∀ x ∈ (lx.lexP s 0).1, x.1.text.length ≤ 4000) ∧ (lx.lexP s 0).1.length ≤ s.size + 1 := lexF_all s (s.size + 1) 0
theorem lexCs_at {l : Ls} {i : Nat} {x : Lx × Nat} (h : l[i]? = some x) : ∀ j, j < 4 → (lx.lxCs l)[i * 4 + j]? = (lx.lxC x)[j]? := by
  induction l generalizing i with
  | nil => simp at h
  | cons d l ih =>
    intro j hj
    have e : lx.lxCs (d :: l) = lx.lxC d ++ lx.lxCs l := by simp [lx.lxCs]
    have hl : (lx.lxC d).length = 4 := rfl
    cases i with
    | zero =>
      obtain rfl : d = x := by simpa using h
      rw [e, List.getElem?_append_left (by rw [hl]; omega), Nat.zero_mul, Nat.zero_add]
    | succ i =>
      have := ih (by simpa using h) j hj
      rw [e, List.getElem?_append_right (by rw [hl]; omega), hl, show (i + 1) * 4 + j - 4 = i * 4 + j by omega]
      exact this
theorem lex_Lr {w : World} {base : Nat} {v : Value} {n : Nat} {l : Ls} (h : w.ownsRow base 141 4 v n (lx.lxCs l)) : ∃ a c, v = .slice a l.length c ∧ Lr w a l ∧ l.length ≤ c ∧ c ≤ maxLen ∧ (∀ x, a = some x → x.block < w.heap.size) := by
  have hn : n = l.length := by have := h.1; rw [lx.lxCs_len] at this; omega
  subst hn
  rcases h.2 with ⟨rfl, e⟩ | ⟨g, cap, cur, rfl, hb, hg, hc, hm, hz, ht⟩
  · have : l = [] := List.length_eq_zero_iff.1 e
    subst this
    exact ⟨none, 0, rfl, .inl rfl, Nat.le_refl _, Nat.zero_le _, fun x e => by cases e⟩
  · refine ⟨some ⟨g, 0, none⟩, cap, rfl, .inr ⟨g, rfl, fun i x hi => ?_⟩, hc, hm, fun x e => by cases e; exact (Array.getElem?_eq_some_iff.1 hg).1⟩
    have hil := (List.getElem?_eq_some_iff.1 hi).1
    have key : ∀ j, j < 4 → w.cell? ⟨g, i * 4 + j, none⟩ = (lx.lxC x)[j]? := by
      intro j hj
      rw [← lexCs_at hi j hj, ← ht, List.getElem?_take_of_lt (by omega)]
      simp only [World.cell?, hg]
      simp
    exact ⟨key 0 (by omega), key 1 (by omega), key 2 (by omega), key 3 (by omega)⟩

/-! What spec.Parse answers. -/

def pF : Nat := 20 * 20001 + 17
def eL (L : List Ex) (i : Nat) : Ex := L[i]?.getD ⟨0, ⟨#[]⟩, 0, 0⟩
def okL (L : List Ex) : Bool := ex.okAll (eL L) L.length
def pRes (l : Ls) (fault : Int) (n : Nat) (m : Rs Tr) : List Ex × Int := match m with
  | .bad j => match l[j]? with
    | some x => ([], (x.2 : Int))
    | none => if 0 ≤ fault then ([], fault) else ([], (n : Int))
  | .ok t j => match l[j]? with
    | some x => ([], (x.2 : Int))
    | none => if 0 ≤ fault then ([], fault) else if okL (fl t) = true then (fl t, -1) else ([], (n : Int))
def pOut (s : ByteArray) : List Ex × Int := if 20000 < s.size then ([], 0) else pRes (lx.lexP s 0).1 (lx.lexP s 0).2 s.size (P (lx.lexP s 0).1 pF 1 0)
def ParseIs (s : ByteArray) (w : World) (e : Ending) (w' : World) : Prop := ∃ (g c : Nat) (L : List Ex) (p : Int), e = .returned (.tuple #[.slice (some ⟨g, 0, none⟩) L.length c, .int .i64 p]) ∧ Ow w.heap.size w' g c L ∧ Below w.heap.size w w' ∧ Okn 3001 L ∧ (L, p) = pOut s
theorem xx_ok {L X : List Ex} (h : Xx L X) : okL L = okL X ∧ (okL L = true → L = X) := by
  rcases h with rfl | ⟨h1, h2⟩
  · exact ⟨rfl, fun _ => rfl⟩
  · have e1 : okL L = false := by unfold okL ex.okAll; rw [decide_eq_false (by omega)]; rfl
    have e2 : okL X = false := by unfold okL ex.okAll; rw [decide_eq_false (by omega)]; rfl
    exact ⟨by rw [e1, e2], fun h => by rw [e1] at h; cases h⟩
theorem Ow.xs {B : Nat} {w : World} {g c : Nat} {L : List Ex} (h : Ow B w g c L) : ex.XsB w g L.length (eL L) := by
  intro i hi
  obtain ⟨x, hx⟩ : ∃ x, L[i]? = some x := ⟨_, List.getElem?_eq_getElem hi⟩
  have e : eL L i = x := by unfold eL; rw [hx]; rfl
  rw [e]
  exact h.cells hx
theorem okn_tx {N : Nat} {L : List Ex} (h : Okn N L) : ∀ i, i < L.length → (eL L i).text.size ≤ 1048576 := by
  intro i hi
  obtain ⟨x, hx⟩ : ∃ x, L[i]? = some x := ⟨_, List.getElem?_eq_getElem hi⟩
  have e : eL L i = x := by unfold eL; rw [hx]; rfl
  rw [e]
  have := h.2 x (List.mem_of_getElem? hx)
  omega
theorem ok_ow {B : Nat} {w : World} {g c N : Nat} {L : List Ex} (h : Ow B w g c L) (hk : Okn N L) (hN : N ≤ 1048576) :
    Calls Tryz.prog 7 #[.slice (some ⟨g, 0, none⟩) L.length c] w fun e w' => e = .returned (.bool (okL L)) ∧ Below w.heap.size w w' :=
  ex.sall_any (eL L) g L.length c (by have := hk.1; omega) ⟨h.le.1, by have := h.le.2; unfold maxLen at this; omega⟩ (okn_tx hk) w h.xs

set_option maxRecDepth 100000 in
set_option maxHeartbeats 4000000 in
theorem parse_any (s : ByteArray) (hs : s.size ≤ 1048576) (w : World) : Calls Tryz.prog 36 #[.string s] w fun e w' => ParseIs s w e w' := by
  have HLX := Lib.hid (fun W => lx.sLex_any s hs W)
  have hn0 := Ow.nil w
  obtain ⟨w1, hw1⟩ : ∃ W, W = w.alloc (.cells #[] 27) := ⟨_, rfl⟩
  have hb1 : Below w.heap.size w w1 := by rw [hw1]; exact (Below.refl _ _).alloc (Nat.le_refl _) _
  rw [← hw1] at hn0
  have HW1 := Lib.hid hw1
  have HN0 := Lib.hid hn0
  have HB1 := Lib.hid hb1
  have HWZ : Hid (w.heap.size < w1.heap.size) := by show _ < _; rw [hw1]; simp
  have HNO : Hid (∀ W p, Below w1.heap.size w1 W → ([], p) = pOut s → ParseIs s w (.returned (.tuple #[.slice (some ⟨w.heap.size, 0, none⟩) 0 0, .int .i64 p])) W) := fun W p hb h =>
    ⟨w.heap.size, 0, [], p, rfl, hn0.below hb, hb1.trans (hb.mono hb1.size), Okn.nil.up (by decide), h⟩
  clear hw1 hn0 hb1
  by_cases hbig : 20000 < s.size
  · have hbig' : (20000 : Int) < (s.size : Int) := by omega
    have HPO : Hid (([], 0) = pOut s) := by show _ = _; unfold pOut; rw [if_pos hbig]
    have HBIG := Lib.hid hbig
    clear hbig
    go_enter Tryz.func36, Tryz.ntmps36
    go_wp2_with (go_at_call 56; rw [← HW1.out]; refine (HLX.out w1).mono ?_; rintro e w2 ⟨v, rfl, hrow, hb2⟩; have HB2 := Lib.hid hb2; clear hrow hb2)
    go_ret2
    exact HNO.out _ _ HB2.out HPO.out
  · have hbig' : ¬ (20000 : Int) < (s.size : Int) := by omega
    obtain ⟨l, hl⟩ : ∃ l, (lx.lexP s 0).1 = l := ⟨_, rfl⟩
    obtain ⟨ft, hft⟩ : ∃ ft, (lx.lexP s 0).2 = ft := ⟨_, rfl⟩
    have hal := lexP_all s
    rw [hl] at hal
    have HAL := Lib.hid hal
    have HLL : Hid (l.length ≤ 20001) := by show _ ≤ _; have := hal.2; omega
    have HPO : Hid (pOut s = pRes l ft s.size (P l pF 1 0)) := by show _ = _; unfold pOut; rw [if_neg hbig, hl, hft]
    have HLY : Hid (∀ W, Calls Tryz.prog 56 #[.string s] W fun e w' => ∃ a c, e = .returned (.tuple #[.slice a l.length c, .int .i64 ft]) ∧ Lr w' a l ∧ l.length ≤ c ∧ c ≤ maxLen ∧ (∀ x, a = some x → x.block < w'.heap.size) ∧ Below W.heap.size W w') := fun W => by
      refine (HLX.out W).mono ?_
      rintro e w' ⟨v, h1, h2, h3⟩
      rw [if_neg hbig, hft] at h1
      rw [if_neg hbig, if_neg hbig, hl] at h2
      obtain ⟨a, c, e1, k⟩ := lex_Lr h2
      rw [e1] at h1
      exact ⟨a, c, h1, k.1, k.2.1, k.2.2.1, k.2.2.2, h3⟩
    clear hal hl hft HLX hbig
    go_enter Tryz.func36, Tryz.ntmps36
    go_wp2_with (go_at_call 56; rw [← HW1.out]; refine (HLY.out w1).mono ?_; rintro e w2 ⟨a, cp, rfl, hlr, hlc, hcm, hbk, hb2⟩; refine Hid.out ?_)
    refine Lib.hid ?_
    obtain ⟨w3, hw3⟩ : ∃ W, W = w2.alloc (.cells #[.slice a l.length cp, .int .i64 0, .bool false] 138) := ⟨_, rfl⟩
    obtain ⟨rb, hrb⟩ : ∃ r, w2.heap.size = r := ⟨_, rfl⟩
    have hb3 : Below w2.heap.size w2 w3 := by rw [hw3]; exact (Below.refl _ _).alloc (Nat.le_refl _) _
    have hsr : Sr w3 rb a l.length cp 0 false := by
      rw [hw3, ← hrb]
      exact World.rowIs_alloc w2 #[.slice a l.length cp, .int .i64 0, .bool false] _ _ fun i hi => by
        match i, hi with
        | 0, _ => rfl
        | 1, _ => rfl
        | 2, _ => rfl
    have hrd0 : Rd w2.drew rb a cp l 0 false ∨ True := .inr trivial
    have hrd : Rd w3 rb a cp l 0 false := by
      refine ⟨hsr, Nat.zero_le _, ?_, fun x e _ => by have := hbk x e; omega, ⟨hlc, hcm, HLL.out⟩, HAL.out.1⟩
      rcases hlr with e | ⟨lb, e, hc⟩
      · exact .inl e
      · refine .inr ⟨lb, e, fun i x hx => ?_⟩
        obtain ⟨h0, h1, h2, h3⟩ := hc i x hx
        have k : ∀ {o u}, w2.cell? ⟨lb, o, none⟩ = some u → w3.cell? ⟨lb, o, none⟩ = some u := fun {o u} hq => (hb3.cell (p := ⟨lb, o, none⟩) (World.block_lt_of_cell? _ _ hq)).trans hq
        exact ⟨k h0, k h1, k h2, k h3⟩
    have HRDX : Hid (Calls Tryz.prog 57 #[.pointer (some ⟨rb, 0, none⟩)] w3 fun e w' => SRes w3 w' rb a cp l (P l pF 1 0) e) := by
      have h1 := (all_any pF).1 w3 rb cp 0 a l false hrd (fun _ => by have := HLL.out; unfold FC pF; omega)
      rw [if_neg (by decide)] at h1
      exact h1
    have HB3 : Hid (Below w1.heap.size w1 w3) := hb2.trans (hb3.mono hb2.size)
    have HRB : Hid (w1.heap.size ≤ rb) := by show _ ≤ _; have := hb2.size; omega
    have HW3 := Lib.hid hw3
    clear hlr hlc hcm hbk hb2 hw3 hb3 hsr hrd hrd0
    go_wp2_with (go_at_call 57; (first | rw [hrb, ← HW3.out] | rw [← HW3.out]); refine HRDX.out.mono ?_; rintro e w4 ⟨i, b, L, ⟨g, c, rfl, ho, hgo⟩, hk, hr⟩; refine Hid.out ?_)
    refine Lib.hid ?_
    have HB4 : Hid (Below w1.heap.size w1 w4) := HB3.out.grown hgo.2 HB3.out.size (fun q hq => by have h1 := HRB.out; have h2 := Option.some.inj hq; omega)
    have HO := Lib.hid ho
    have HM := Lib.hid hgo.1
    have c1 := hgo.1.rd.sr.c1
    have c2 := hgo.1.rd.sr.c2
    have f2 := hgo.1.rd.sr.f 2
    have HIL := Lib.hid hgo.1.rd.le
    clear ho hgo HRDX hrb
    have HPR : Hid (pOut s = pRes l ft s.size (if b = true then .bad i else P l pF 1 0) ∧ (b = false → ∃ t, P l pF 1 0 = .ok t i ∧ Xx L (fl t))) := by
      show _ ∧ _
      rw [HPO.out]
      have h1 := hr.out
      cases hm : P l pF 1 0 with
      | bad j =>
        rw [hm] at h1
        obtain ⟨h2, h3⟩ := h1
        subst h2 h3
        rw [if_pos rfl]
        exact ⟨rfl, fun e => by cases e⟩
      | ok t j =>
        rw [hm] at h1
        obtain ⟨h2, h3, h4⟩ := h1
        subst h2 h3
        rw [if_neg (by decide)]
        exact ⟨rfl, fun _ => ⟨t, rfl, h4⟩⟩
    by_cases hil : i < l.length
    · have hil' : (i : Int) < (l.length : Int) := by omega
      have h0 : (0 : Int) ≤ (i : Int) := by omega
      obtain ⟨x, hx⟩ : ∃ x, l[i]? = some x := ⟨_, List.getElem?_eq_getElem hil⟩
      have HPX : Hid (([], (x.2 : Int)) = pOut s) := by
        show _ = _
        rw [HPR.out.1]
        cases b with
        | true => rw [if_pos rfl]; unfold pRes; simp only; rw [hx]
        | false =>
          rw [if_neg (by decide)]
          obtain ⟨t, ht, _⟩ := HPR.out.2 rfl
          rw [ht]
          unfold pRes
          simp only
          rw [hx]
      obtain ⟨lb, hla, _, _, _, g3⟩ := HM.out.rd.at hx
      subst hla
      obtain ⟨V, hV⟩ : ∃ V, (x.2 : Int) = V := ⟨_, rfl⟩
      rw [hV] at g3 HPX
      obtain ⟨n, hn⟩ : ∃ n, l.length = n := ⟨_, rfl⟩
      rw [hn] at hil'
      have hlb : lb ≠ rb := HM.out.rd.ne _ rfl (by intro e; rw [e] at hil; simp at hil)
      cases b with
      | true =>
        have d1 : w4.drew.cell? ⟨rb, 1, none⟩ = some (.int .i64 (i : Int)) := c1
        have d3 : w4.drew.cell? ⟨lb, i * 4 + 3, none⟩ = some (.int .i64 V) := g3
        have HFI : Hid (ParseIs s w (.returned (.tuple #[.slice (some ⟨w.heap.size, 0, none⟩) 0 0, .int .i64 V])) w4.drew) := HNO.out _ _ HB4.out.drew HPX.out
        clear hil hx hV HPR HM
        go_upto_region 10 with fail
        go_region
        go_wp2
        go_ret2
        exact HFI.out
      | false =>
        obtain ⟨w5, hw5⟩ : ∃ W, W = w4.setCell ⟨rb, 2, none⟩ (.bool true) := ⟨_, rfl⟩
        have HB5 : Hid (Below w1.heap.size w1 w5) := by rw [hw5]; exact HB4.out.setCell (p := ⟨rb, 2, none⟩) HRB.out _
        have hrd5 := HM.out.rd.setb true
        rw [← hw5] at hrd5
        obtain ⟨lb2, hlb2, _, _, _, g35⟩ := hrd5.at hx
        cases hlb2
        rw [hV] at g35
        have e1 : w5.cell? ⟨rb, 1, none⟩ = some (.int .i64 (i : Int)) := hrd5.sr.c1
        have e2 : w5.cell? ⟨rb, 2, none⟩ = some (.bool true) := hrd5.sr.c2
        have HW5 := Lib.hid hw5
        have d1 : w5.drew.cell? ⟨rb, 1, none⟩ = some (.int .i64 (i : Int)) := e1
        have d3 : w5.drew.cell? ⟨lb, i * 4 + 3, none⟩ = some (.int .i64 V) := g35
        have HFI : Hid (ParseIs s w (.returned (.tuple #[.slice (some ⟨w.heap.size, 0, none⟩) 0 0, .int .i64 V])) w5.drew) := HNO.out _ _ HB5.out.drew HPX.out
        clear hil hx hV HPR HM hrd5 hw5 g3
        go_upto_region 9 with fail
        rw [← HW5.out]
        clear c1 c2 f2
        go_upto_region 10 with fail
        go_region
        go_wp2
        go_ret2
        exact HFI.out
    · have hil' : ¬ (i : Int) < (l.length : Int) := by omega
      have hx : l[i]? = none := List.getElem?_eq_none (by omega)
      obtain ⟨n, hn⟩ : ∃ n, l.length = n := ⟨_, rfl⟩
      rw [hn] at hil'
      by_cases hf : 0 ≤ ft
      · have HPX : Hid (([], ft) = pOut s) := by
          show _ = _
          rw [HPR.out.1]
          cases b with
          | true => rw [if_pos rfl]; unfold pRes; simp only; rw [hx]; simp only; rw [if_pos hf]
          | false =>
            rw [if_neg (by decide)]
            obtain ⟨t, ht, _⟩ := HPR.out.2 rfl
            rw [ht]
            unfold pRes
            simp only
            rw [hx]
            simp only
            rw [if_pos hf]
        have HFI : Hid (ParseIs s w (.returned (.tuple #[.slice (some ⟨w.heap.size, 0, none⟩) 0 0, .int .i64 ft])) w4) := HNO.out _ _ HB4.out HPX.out
        clear hil hx HPR HM
        cases b with
        | true => go_wp2; go_ret2; exact HFI.out
        | false => go_wp2; go_ret2; exact HFI.out
      · cases b with
        | true =>
          have HPX : Hid (([], (s.size : Int)) = pOut s) := by
            show _ = _
            rw [HPR.out.1, if_pos rfl]; unfold pRes; simp only; rw [hx]; simp only; rw [if_neg hf]
          have HFI : Hid (ParseIs s w (.returned (.tuple #[.slice (some ⟨w.heap.size, 0, none⟩) 0 0, .int .i64 (s.size : Int)])) w4) := HNO.out _ _ HB4.out HPX.out
          clear hil hx HPR HM
          go_wp2
          go_ret2
          exact HFI.out
        | false =>
          obtain ⟨t, ht, hxx⟩ := HPR.out.2 rfl
          have hok := xx_ok hxx
          have HPX : Hid (pOut s = if okL L = true then (L, -1) else ([], (s.size : Int))) := by
            show _ = _
            rw [HPR.out.1, if_neg (by decide), ht]
            unfold pRes
            simp only
            rw [hx]
            simp only
            rw [if_neg hf, ← hok.1]
            cases h9 : okL L with
            | true => rw [if_pos rfl, if_pos rfl, hok.2 h9]
            | false => rw [if_neg (by decide), if_neg (by decide)]
          have HOK := Lib.hid (ok_ow HO.out hk.out (by decide))
          have HLZ : Hid (w.heap.size ≤ w3.heap.size) := by show _ ≤ _; have h1 := HWZ.out; have h2 := HB3.out.size; omega
          cases h9 : okL L with
          | true =>
            rw [h9] at HOK
            have HFI : Hid (∀ w5, Below w4.heap.size w4 w5 → ParseIs s w (.returned (.tuple #[.slice (some ⟨g, 0, none⟩) L.length c, .int .i64 (-1)])) w5) := fun w5 hb => ⟨g, c, L, -1, rfl, (HO.out.mono HLZ.out).below hb, (HB1.out.trans (HB4.out.mono HB1.out.size)).trans (hb.mono (by have h1 := HLZ.out; have h2 := HB4.out.size; have h3 := HWZ.out; omega)), hk.out, by rw [HPX.out, if_pos h9]⟩
            clear hil hx HPR HM ht hxx hok h9
            go_wp2_with (go_at_call 7; refine HOK.out.mono ?_; rintro e w5 ⟨rfl, hb5⟩; have HFF := Lib.hid (HFI.out w5 hb5); clear hb5)
            go_ret2
            exact HFF.out
          | false =>
            rw [h9] at HOK
            have HFI : Hid (∀ w5, Below w4.heap.size w4 w5 → ParseIs s w (.returned (.tuple #[.slice (some ⟨w.heap.size, 0, none⟩) 0 0, .int .i64 (s.size : Int)])) w5) := fun w5 hb => HNO.out _ _ (HB4.out.trans (hb.mono HB4.out.size)) (by rw [HPX.out, if_neg (by rw [h9]; decide)])
            clear hil hx HPR HM ht hxx hok h9
            go_wp2_with (go_at_call 7; refine HOK.out.mono ?_; rintro e w5 ⟨rfl, hb5⟩; have HFF := Lib.hid (HFI.out w5 hb5); clear hb5)
            go_ret2
            exact HFF.out
end Go.Proofs.YtifgaaemdojmpaaGreatDoor.pr
