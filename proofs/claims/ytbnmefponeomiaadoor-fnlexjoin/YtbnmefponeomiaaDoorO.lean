import Derived.Test.YtbnmefponeomiaaDoorN
namespace Go.Proofs.YtbnmefponeomiaaDoor.lx
open Go.ChangeShapes Go.WideShapes Go.ChangeAt Go.RowKit Go.Deep
set_option linter.unusedVariables false
set_option linter.unusedSimpArgs false

def lxV (x : Lx) (p : Nat) : Value := .agg #[.int .i64 x.kind, .string ⟨x.text.toArray⟩, .int .i64 x.num, .int .i64 (p : Int)]

/-- What l2One answers at a place. -/
def OneIs (l : List UInt8) (p : Nat) (e : Ending) : Prop :=
  (∃ x, one l = some x ∧ e = .returned (.tuple #[lxV x p, .int .i64 ((p + x.size : Nat) : Int)])) ∨
  (one l = none ∧ ∃ a b c d, e = .returned (.tuple #[.agg #[.int .i64 a, .string b, .int .i64 c, .int .i64 d], .int .i64 (-1)]))

theorem isWord_first {b : UInt8} (h : isFirst b = true) : isWord b = true := by
  simp only [isFirst, isWord, Bool.or_eq_true] at *
  rcases h with h | h <;> simp [h]

theorem one_first {s : ByteArray} {p : Nat} (hp : p < s.size) (h : isFirst s[p] = true) : one (suf s p) = word (suf s p) := by
  rw [suf_cons hp]; simp [one, h]
theorem one_digit {s : ByteArray} {p : Nat} (hp : p < s.size) (h : isFirst s[p] = false) (h2 : isDig s[p] = true) : one (suf s p) = int (suf s p) := by
  rw [suf_cons hp]; simp [one, h, h2]
theorem one_text {s : ByteArray} {p : Nat} (hp : p < s.size) (h : isFirst s[p] = false) (h2 : isDig s[p] = false) (h3 : isB 34 s[p] = true) : one (suf s p) = text (suf s p) := by
  rw [suf_cons hp]; simp [one, h, h2, h3]
theorem one_sign {s : ByteArray} {p : Nat} (hp : p < s.size) (h : isFirst s[p] = false) (h2 : isDig s[p] = false) (h3 : isB 34 s[p] = false) : one (suf s p) = sign (suf s p) := by
  rw [suf_cons hp]; simp [one, h, h2, h3]

theorem ext_take {s : ByteArray} {p n : Nat} (h : p + n ≤ s.size) : s.extract p (p + n) = ⟨((suf s p).take n).toArray⟩ := by
  apply ByteArray.ext
  apply Array.toList_inj.1
  rw [Lib.extract_data]
  simp [suf]

theorem two_bel (w : World) (x y : Obj) : Below w.heap.size w ((w.alloc x).alloc y) := ((Below.refl _ _).alloc (Nat.le_refl _) _).alloc (by simp) _

theorem word_no {s : ByteArray} {p k : Nat} {a : Int} {b : ByteArray} {c d : Int} (h1 : one (suf s p) = word (suf s p)) (hk : k = run isWord (suf s p)) (hb : 60 < k) :
    OneIs (suf s p) p (.returned (.tuple #[.agg #[.int .i64 a, .string b, .int .i64 c, .int .i64 d], .int .i64 (-1)])) :=
  .inr ⟨by rw [h1, word, ← hk, if_pos hb], _, _, _, _, rfl⟩

theorem word_yes {s : ByteArray} {p k : Nat} (h1 : one (suf s p) = word (suf s p)) (hk : k = run isWord (suf s p)) (hb : ¬ 60 < k) (hl : p + k ≤ s.size) :
    OneIs (suf s p) p (.returned (.tuple #[.agg #[.int .i64 1, .string (s.extract p (p + k)), .int .i64 0, .int .i64 (p : Int)], .int .i64 ((p : Int) + (k : Int))])) := by
  refine .inl ⟨⟨1, (suf s p).take k, 0, k⟩, by rw [h1, word, ← hk, if_neg hb], ?_⟩
  unfold lxV
  rw [← ext_take hl]
  rfl

set_option maxHeartbeats 1000000 in
theorem one_word (s : ByteArray) (hs : s.size ≤ 20000) (p : Nat) (hp : p < s.size) (hf : isFirst s[p] = true) (w : World) :
    Calls Tryd.prog 41 #[.string s, .int .i64 (p : Int)] w fun e w' => OneIs (suf s p) p e ∧ Below w.heap.size w w' := by
  have hsl := suf_len s p
  have H1 : Hid (one (suf s p) = word (suf s p)) := one_first hp hf
  have hrl := run_le isWord (suf s p)
  have hpi : (p : Int) < (s.size : Int) := by omega
  have HF : Hid (isWord s[p] = true) := isWord_first hf
  have hF2 : (isLet s[p] || ((s[p].toNat : Int) == 95)) = true := hf
  have hcase : isLet s[p] = true ∨ (isLet s[p] = false ∧ ((s[p].toNat : Int) == 95) = true) := by
    cases h : isLet s[p]
    · right; rw [h] at hF2; exact ⟨rfl, by simpa using hF2⟩
    · left; rfl
  clear hF2 hf
  rcases hcase with hL | ⟨hL, hU⟩
  all_goals
    go_enter Tryd.func41, Tryd.ntmps41
    go_wp2_with (go_at_call 35; refine (letter_any _ _).mono ?_; rintro e w' ⟨rfl, rfl⟩)
    go_loop [8] (fun i => ∃ k : Nat, k ≤ run isWord (suf s p) ∧ i = .int .i64 ((p + k : Nat) : Int)) (fun i => s.size - (intOf i).toNat)
    case atStart => exact ⟨0, Nat.zero_le _, rfl⟩
    case round =>
      obtain ⟨k, hk, rfl⟩ := hrel
      by_cases hlt : p + k < s.size
      · have HG : Hid ((suf s p)[k]? = some s[p + k]) := suf_get hlt
        have hlti : ((p + k : Nat) : Int) < (s.size : Int) := by omega
        cases hw : isWord s[p + k] with
        | true =>
          have hk2 := run_lt hk HG.out hw
          go_wp2_with (go_at_call 49; refine (wordByte_any _ _).mono ?_; rintro e w' ⟨rfl, rfl⟩)
          go_round
          case rel => exact ⟨k + 1, by omega, by go_num⟩
          case measure => simp [intOf]; omega
        | false =>
          have HK : Hid (k = run isWord (suf s p)) := run_stop hk HG.out hw
          by_cases hb : 60 < k
          · go_wp2_with (go_at_call 49; refine (wordByte_any _ _).mono ?_; rintro e w' ⟨rfl, rfl⟩)
            exact bodyPost_ret (v := .tuple #[.agg #[.int .i64 0, .string ⟨#[]⟩, .int .i64 0, .int .i64 (p : Int)], .int .i64 (-1)]) (by simp [results, Tryd.results41, go_sem]) rfl ⟨word_no H1.out HK.out hb, two_bel _ _ _⟩
          · go_wp2_with (go_at_call 49; refine (wordByte_any _ _).mono ?_; rintro e w' ⟨rfl, rfl⟩)
            exact bodyPost_ret (v := .tuple #[.agg #[.int .i64 1, .string (s.extract p (p + k)), .int .i64 0, .int .i64 (p : Int)], .int .i64 ((p : Int) + (k : Int))]) (by simp [results, Tryd.results41, go_sem]) rfl ⟨word_yes H1.out HK.out hb (by omega), two_bel _ _ _⟩
      · have HK : Hid (k = run isWord (suf s p)) := run_all hk (by omega)
        have hlti : ¬ ((p + k : Nat) : Int) < (s.size : Int) := by omega
        by_cases hb : 60 < k
        · go_wp2
          exact bodyPost_ret (v := .tuple #[.agg #[.int .i64 0, .string ⟨#[]⟩, .int .i64 0, .int .i64 (p : Int)], .int .i64 (-1)]) (by simp [results, Tryd.results41, go_sem]) rfl ⟨word_no H1.out HK.out hb, two_bel _ _ _⟩
        · go_wp2
          exact bodyPost_ret (v := .tuple #[.agg #[.int .i64 1, .string (s.extract p (p + k)), .int .i64 0, .int .i64 (p : Int)], .int .i64 ((p : Int) + (k : Int))]) (by simp [results, Tryd.results41, go_sem]) rfl ⟨word_yes H1.out HK.out hb (by omega), two_bel _ _ _⟩

end Go.Proofs.YtbnmefponeomiaaDoor.lx
