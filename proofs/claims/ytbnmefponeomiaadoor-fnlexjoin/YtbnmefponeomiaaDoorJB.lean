import Derived.Test.YtbnmefponeomiaaDoorJ
namespace Go.Proofs.YtbnmefponeomiaaDoor.lx
open Go.RowKit
set_option linter.unusedVariables false
set_option linter.unusedSimpArgs false

theorem take_back {l r : List UInt8} {n : Nat} (h : n ≤ l.length) : (l.take n ++ r).take n = l.take n := by
  rw [List.take_append_of_le_length (by simp; omega), List.take_take, Nat.min_self]

theorem get_back {l r : List UInt8} {n k : Nat} (h : n ≤ l.length) (hk : k < n) : (l.take n ++ r)[k]? = l[k]? := by
  rw [List.getElem?_append_left (by simp; omega), List.getElem?_take_of_lt hk]

theorem head_take {b : UInt8} {t : List UInt8} {n : Nat} (h : 1 ≤ n) : (b :: t).take n = b :: t.take (n - 1) := by
  cases n with
  | zero => omega
  | succ n => rfl

/-- A lexeme's piece, alone or with a blank behind it, is that lexeme. -/
theorem back {l : List UInt8} {x : Lx} (h : one l = some x) {r : List UInt8} (hr : r = [] ∨ ∃ t, r = 32 :: t) :
    one (piece l x ++ r) = some { x with size := (piece l x).length } ∧ ∃ b t, piece l x = b :: t ∧ isBlank b = false ∧ isB 35 b = false := by
  have hw : r = [] ∨ ∃ b t, r = b :: t ∧ isWord b = false := by
    rcases hr with h | ⟨t, h⟩
    · exact .inl h
    · exact .inr ⟨32, t, h, by decide⟩
  have hdg : r = [] ∨ ∃ b t, r = b :: t ∧ isDig b = false := by
    rcases hr with h | ⟨t, h⟩
    · exact .inl h
    · exact .inr ⟨32, t, h, by decide⟩
  have hsz := one_size h
  cases l with
  | nil => cases h
  | cons b t =>
    cases hf : isFirst b with
    | true =>
      have hb : b :: t ≠ [] := by simp
      simp only [one, hf, if_true] at h
      unfold word at h
      split at h
      · cases h
      · rename_i h60
        cases h
        have hp : piece (b :: t) ⟨1, (b :: t).take (run isWord (b :: t)), 0, run isWord (b :: t)⟩ = (b :: t).take (run isWord (b :: t)) := by simp [piece]
        rw [hp]
        have hn := run_le isWord (b :: t)
        have h1 := hsz.1
        have hl : ((b :: t).take (run isWord (b :: t))).length = run isWord (b :: t) := by rw [List.length_take]; exact Nat.min_eq_left hn
        refine ⟨?_, b, _, head_take h1, (first_free hf).1, (first_free hf).2⟩
        have hr2 := run_app isWord hw (b :: t)
        have e : one ((b :: t).take (run isWord (b :: t)) ++ r) = word ((b :: t).take (run isWord (b :: t)) ++ r) := by
          rw [head_take h1]
          simp [one, hf]
        rw [e]
        unfold word
        rw [hr2, if_neg h60, take_back hn, hl]
    | false =>
      cases hd : isDig b with
      | true =>
        simp only [one, hf, hd, if_true, Bool.false_eq_true, if_false] at h
        unfold int at h
        split at h
        · cases h
        · rename_i h60
          cases h
          have hp : piece (b :: t) ⟨2, [], (val (b :: t) (run isDig (b :: t)) : Int), run isDig (b :: t)⟩ = (b :: t).take (run isDig (b :: t)) := by simp [piece]
          rw [hp]
          have hn := run_le isDig (b :: t)
          have h1 := hsz.1
          have hl : ((b :: t).take (run isDig (b :: t))).length = run isDig (b :: t) := by rw [List.length_take]; exact Nat.min_eq_left hn
          refine ⟨?_, b, _, head_take h1, (dig_free hd).1, (dig_free hd).2⟩
          have hr2 := run_app isDig hdg (b :: t)
          have e : one ((b :: t).take (run isDig (b :: t)) ++ r) = int ((b :: t).take (run isDig (b :: t)) ++ r) := by
            rw [head_take h1]
            simp [one, hf, hd]
          have hv := val_congr (l := (b :: t).take (run isDig (b :: t)) ++ r) (m := b :: t) (run isDig (b :: t)) (fun k hk => get_back hn hk)
          rw [e]
          unfold int
          rw [hr2, hv, if_neg h60, hl]
      | false =>
        cases hq : isB 34 b with
        | true =>
          simp only [one, hf, hd, hq, if_true, Bool.false_eq_true, if_false] at h
          unfold text at h
          split at h
          · rename_i acc n ht
            cases h
            have hok : acc.length ≤ 4000 ∧ ∀ b ∈ acc, es.shB b ≠ [] := by
              unfold txt at ht
              split at ht
              · rename_i o ac hst
                split at ht
                · cases ht; exact st_ok hst
                · cases ht
              · cases ht
            have hp : piece (b :: t) ⟨3, acc, 0, n⟩ = 34 :: (sh acc ++ [34]) := by simp [piece]
            rw [hp]
            refine ⟨?_, 34, _, rfl, by decide, by decide⟩
            have e : one (34 :: (sh acc ++ [34]) ++ r) = text (34 :: (sh acc ++ 34 :: r)) := by
              have : 34 :: (sh acc ++ [34]) ++ r = 34 :: (sh acc ++ 34 :: r) := by simp
              rw [this]
              rfl
            rw [e]
            unfold text
            rw [txt_shown acc r hok.1 hok.2]
            simp
          · cases h
        | false =>
          simp only [one, hf, hd, hq, Bool.false_eq_true, if_false] at h
          unfold sign at h
          split at h
          · rename_i k hk
            cases h
            have hk29 := sgn_lt hk
            have hpre : sigL k <+: b :: t := by
              have := sgn_at hk
              unfold sgAt at this
              rwa [List.isPrefixOf_iff_prefix] at this
            have hp : piece (b :: t) ⟨4, sigL k, 0, (sigL k).length⟩ = sigL k := by
              simp only [piece]
              rw [if_neg (by decide)]
              exact (List.prefix_iff_eq_take.1 hpre).symm
            rw [hp]
            have hfree := sig_free k hk29
            obtain ⟨c, u, hc⟩ : ∃ c u, sigL k = c :: u := by
              cases hs : sigL k with
              | nil => rw [hs] at hfree; cases hfree
              | cons c u => exact ⟨c, u, rfl⟩
            have hcb : c = b := by
              rw [hc] at hpre
              exact (List.cons_prefix_cons.1 hpre).1
            subst hcb
            rw [hc] at hfree
            simp at hfree
            refine ⟨?_, c, u, hc, hfree.1, hfree.2⟩
            have hb2 := sgn_back hk29 hr
            have e : one (sigL k ++ r) = sign (sigL k ++ r) := by
              rw [hc]
              simp [one, hf, hd, hq]
            rw [e]
            unfold sign
            rw [hb2]
          · cases h

/-- The pieces, with blanks between. -/
def joinP : List (List UInt8) → List UInt8
  | [] => []
  | [p] => p
  | p :: q :: t => p ++ 32 :: joinP (q :: t)

/-- A piece that is one lexeme, alone or with a blank behind it. -/
def IsPiece (p : List UInt8) (x : Lx) : Prop := (∀ r, (r = [] ∨ ∃ t, r = 32 :: t) → one (p ++ r) = some { x with size := p.length }) ∧ ∃ b t, p = b :: t ∧ isBlank b = false ∧ isB 35 b = false

theorem lex_join {s : ByteArray} : ∀ (ps : List (List UInt8 × Lx)) (q : Nat), (∀ y ∈ ps, IsPiece y.1 y.2) → suf s q = joinP (ps.map (·.1)) →
    (lexP s q).2 = -1 ∧ (lexP s q).1.map (fun z => (z.1.kind, z.1.text, z.1.num)) = ps.map (fun y => (y.2.kind, y.2.text, y.2.num)) := by
  intro ps
  induction ps with
  | nil =>
    intro q _ hs
    have : s.size ≤ q := by
      have h := suf_len s q
      rw [hs] at h
      simp [joinP] at h
      omega
    rw [lexP_end this]
    exact ⟨rfl, rfl⟩
  | cons y t ih =>
    intro q hp hs
    obtain ⟨hone, b, u, hb, hb1, hb2⟩ := hp y (by simp)
    obtain ⟨r, hr, hsr, hrest⟩ : ∃ r, (r = [] ∨ ∃ t, r = 32 :: t) ∧ suf s q = y.1 ++ r ∧ ((r = [] ∧ t = []) ∨ r = 32 :: joinP (t.map (·.1))) := by
      cases t with
      | nil => exact ⟨[], .inl rfl, by rw [hs]; simp [joinP], .inl ⟨rfl, rfl⟩⟩
      | cons z v => exact ⟨32 :: joinP ((z :: v).map (·.1)), .inr ⟨_, rfl⟩, by rw [hs]; rfl, .inr rfl⟩
    have hlt : q < s.size := by
      have h := suf_len s q
      rw [hsr, hb] at h
      simp at h
      omega
    have hc := suf_cons hlt
    have hbq : s[q] = b := by
      have h := hc.symm.trans hsr
      rw [hb] at h
      simp at h
      exact h.1
    have h1 := hone r hr
    rw [← hsr] at h1
    have hx := lexP_some hlt (by rw [hbq]; exact hb1) (by rw [hbq]; exact hb2) h1
    have hd : suf s (q + y.1.length) = r := by rw [← suf_drop, hsr]; simp
    rcases hrest with ⟨rfl, rfl⟩ | rfl
    · have := ih (q + y.1.length) (by simp) (by rw [hd]; rfl)
      rw [hx]
      exact ⟨this.1, by simpa using this.2⟩
    · have hlt2 : q + y.1.length < s.size := by
        have h := suf_len s (q + y.1.length)
        rw [hd] at h
        simp at h
        omega
      have hc2 := suf_cons hlt2
      have h32 : s[q + y.1.length] = 32 := by
        have h := hc2.symm.trans hd
        simp at h
        exact h.1
      have hbl := lexP_blank hlt2 (by rw [h32]; decide)
      have hd2 : suf s (q + y.1.length + 1) = joinP (t.map (·.1)) := by
        have h := hc2.symm.trans hd
        simp at h
        exact h.2
      have := ih (q + y.1.length + 1) (fun z hz => hp z (by simp [hz])) hd2
      rw [hx]
      simp only
      rw [hbl]
      exact ⟨this.1, by simpa using this.2⟩

end Go.Proofs.YtbnmefponeomiaaDoor.lx
