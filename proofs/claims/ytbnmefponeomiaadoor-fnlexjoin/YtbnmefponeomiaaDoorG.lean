import Derived.Test.YtbnmefponeomiaaDoorE
import Derived.Test.YtbnmefponeomiaaDoorJC
import Derived.Test.YtbnmefponeomiaaDoorD5
import Derived.Test.YtbnmefponeomiaaDoorH
import Derived.Deep.Cut
namespace Go.Proofs.YtbnmefponeomiaaDoor.lx
open Go.ChangeShapes Go.WideShapes Go.ChangeAt Go.RowKit Go.Deep
set_option linter.unusedVariables false
set_option linter.unusedSimpArgs false

theorem big_any (a : Option Addr) (n cap : Nat) (w : World) : Calls Tryd.prog 5 #[.slice a n cap] w fun e w' => e = .returned (.bool (decide (1048576 < (n : Int)))) ∧ w' = w := by
  go_enter Tryd.func5, Tryd.ntmps5
  go_wp2
  go_ret
  exact ⟨rfl, rfl⟩

theorem lexed_s (s : ByteArray) (hs : s.size ≤ 20000) (w : World) (hE : es.EscB w) (hS : SigB w) (h2 : 2 < w.heap.size ∧ 1 < w.heap.size) :
    Calls Tryd.prog 19 #[.string s] w fun e w' => Lexed (lexP s 0).1 (lexP s 0).2 w e w' := by
  refine (iLex_any s (by omega) w hE hS h2).mono ?_
  rintro e w' ⟨v, rfl, ho, hb⟩
  have hn : ¬ 20000 < s.size := by omega
  simp only [hn, if_false] at ho
  obtain ⟨a, c, rfl, h1, h3⟩ := own_Ls ho
  refine ⟨a, c, by rw [if_neg hn], h1, ?_, hb⟩
  rcases h3 with h3 | h3
  · exact .inl (by rw [h3]; rfl)
  · exact .inr h3
theorem slexed_s (s : ByteArray) (hs : s.size ≤ 20000) (w : World) :
    Calls Tryd.prog 21 #[.string s] w fun e w' => Lexed (lexP s 0).1 (lexP s 0).2 w e w' := by
  refine (sLex_any s (by omega) w).mono ?_
  rintro e w' ⟨v, rfl, ho, hb⟩
  have hn : ¬ 20000 < s.size := by omega
  simp only [hn, if_false] at ho
  obtain ⟨a, c, rfl, h1, h3⟩ := own_Ls ho
  refine ⟨a, c, by rw [if_neg hn], h1, ?_, hb⟩
  rcases h3 with h3 | h3
  · exact .inl (by rw [h3]; rfl)
  · exact .inr h3

theorem one_of_map {l : List (Lx × Nat)} {k m : Int} {t : List UInt8} (h : l.map (fun z => (z.1.kind, z.1.text, z.1.num)) = [(k, t, m)]) : ∃ z, l = [z] ∧ z.1.kind = k ∧ z.1.text = t ∧ z.1.num = m := by
  match l, h with
  | [z], h =>
    simp at h
    exact ⟨z, rfl, h.1, h.2.1, h.2.2⟩

theorem lexed_one {z : Lx × Nat} {p : Int} {w w' : World} {e : Ending} (h : Lexed [z] p w e w') : ∃ g c, e = .returned (.tuple #[.slice (some ⟨g, 0, none⟩) 1 c, .int .i64 p]) ∧ w'.cell? ⟨g, 0, none⟩ = some (.int .i64 z.1.kind) ∧ w'.cell? ⟨g, 1, none⟩ = some (.string ⟨z.1.text.toArray⟩) ∧ Below w.heap.size w w' := by
  obtain ⟨a, c, rfl, r, _, b⟩ := h
  rcases r with h | ⟨g, rfl, r⟩
  · cases h
  · obtain ⟨q0, q1, _, _⟩ := r 0 (by simp)
    exact ⟨g, c, rfl, by simpa using q0, by simpa using q1, b⟩

theorem a1_lex : (lexP ⟨#[97, 49]⟩ 0).2 = -1 ∧ (lexP ⟨#[97, 49]⟩ 0).1.length = 1 := by decide

theorem emp_of {t : ByteArray} (h : (!t.toList.isEmpty) = true) : ¬ t = ⟨#[]⟩ := by
  intro e
  subst e
  revert h
  decide +kernel

/-- What both tables are good for. -/
structure Ready (w : World) : Prop where
  esc : es.EscB w
  sig : SigB w
  room : 2 < w.heap.size ∧ 1 < w.heap.size
theorem Ready.below {w w' : World} (h : Ready w) (hb : Below w.heap.size w w') : Ready w' := ⟨h.esc.below hb, h.sig.below hb, by have := hb.size; have := h.room; omega⟩

theorem a1_any (w : World) (R : Ready w) : Calls Tryd.prog 19 #[.string ⟨#[97, 49]⟩] w fun e w' => ∃ a c, e = .returned (.tuple #[.slice a 1 c, .int .i64 (-1)]) ∧ Below w.heap.size w w' := by
  have h := lexed_s ⟨#[97, 49]⟩ (by decide) w R.esc R.sig R.room
  refine h.mono ?_
  rintro e w' ⟨a, c, rfl, _, _, b⟩
  rw [a1_lex.1, a1_lex.2]
  exact ⟨a, c, rfl, b⟩

/-- All that the walk wants of the lexemes. -/
structure Facts (src : ByteArray) (l : List (Lx × Nat)) (p : Int) : Prop where
  pl : Places src 0 (l, p)
  len : l.length ≤ 20001
  step : ∀ i (h : i < l.length), JT src (i + 1) = JT src i ++ ((if 0 < i then [32] else []) ++ piece (suf src l[i].2) l[i].1)
  bound : ∀ i, i ≤ l.length → (JT src i).length ≤ 12000
  whole : ∀ t : ByteArray, t.data.toList = JT src l.length → (lexP t 0).2 = -1 ∧ (lexP t 0).1.map (fun z => (z.1.kind, z.1.text, z.1.num)) = l.map (fun z => (z.1.kind, z.1.text, z.1.num))

theorem facts (src : ByteArray) (h : src.size ≤ 4000) : Facts src (lexP src 0).1 (lexP src 0).2 := by
  refine ⟨places src, ?_, fun i hi => JT_step hi, fun i hi => ?_, fun t ht => join_back src t ht⟩
  · have := lexF_len src (src.size + 1) 0
    unfold lexP
    omega
  · rcases Nat.lt_or_ge i (lexP src 0).1.length with h1 | h1
    · have h2 := (JT_len src i h1).1
      obtain ⟨_, _, c, _, _⟩ := (places src).1 i h1
      have c' : (lexP src 0).1[i].2 + (lexP src 0).1[i].1.size ≤ src.size := c
      omega
    · obtain rfl : i = (lexP src 0).1.length := by omega
      have := JT_size src
      omega

theorem jt1 {src t y : ByteArray} {k : Nat} {P : List UInt8} (h0 : 0 < k) (ht : t.data.toList = JT src k) (hs : JT src (k + 1) = JT src k ++ ((if 0 < k then [32] else []) ++ P)) (hy : y.data.toList = P) : (t ++ ⟨#[32]⟩ ++ y).data.toList = JT src (k + 1) := by
  rw [hs, ← ht, ← hy]
  simp [h0]
theorem jtD1 {src t u : ByteArray} {k : Nat} {P Q : List UInt8} (h0 : 0 < k) (ht : t.data.toList = JT src k) (hs : JT src (k + 1) = JT src k ++ ((if 0 < k then [32] else []) ++ P)) (hp : P = Q) (hu : u.data.toList = (t ++ ⟨#[32]⟩).data.toList ++ Q) : u.data.toList = JT src (k + 1) := by
  rw [hs, ← ht, hp, hu]
  simp [h0]
theorem jtD0 {src t u : ByteArray} {k : Nat} {P Q : List UInt8} (h0 : ¬ 0 < k) (ht : t.data.toList = JT src k) (hs : JT src (k + 1) = JT src k ++ ((if 0 < k then [32] else []) ++ P)) (hp : P = Q) (hu : u.data.toList = t.data.toList ++ Q) : u.data.toList = JT src (k + 1) := by
  rw [hs, ← ht, hp, hu]
  simp [h0]
theorem dig_step {src u : ByteArray} {q j : Nat} {A : List UInt8} (hu : u.data.toList = A ++ (suf src q).take j) (h : q + j < src.size) : (u ++ src.extract (q + j) (q + j + 1)).data.toList = A ++ (suf src q).take (j + 1) := by
  rw [ext_take (p := q + j) (n := 1) (by omega), List.take_add, suf_drop]
  simp [hu]
theorem not_dig {b : UInt8} (h : isDig b = false) : ¬ (48 ≤ (b.toNat : Int) ∧ (b.toNat : Int) ≤ 57) := fun h2 => by
  have : isDig b = true := by simpa [isDig] using h2
  rw [h] at this
  cases this
theorem jt0 {src t y : ByteArray} {k : Nat} {P : List UInt8} (h0 : ¬ 0 < k) (ht : t.data.toList = JT src k) (hs : JT src (k + 1) = JT src k ++ ((if 0 < k then [32] else []) ++ P)) (hy : y.data.toList = P) : (t ++ y).data.toList = JT src (k + 1) := by
  rw [hs, ← ht, ← hy]
  simp [h0]

theorem code_below {w w' : World} {a : Option Addr} {n : Nat} (h : dr.CodeB w a n) (hb : Below w.heap.size w w') (hlt : ∀ x, a = some x → 0 < n → x.block < w.heap.size) : dr.CodeB w' a n := by
  rcases h with h | ⟨b, off, rfl, h⟩
  · exact .inl h
  · refine .inr ⟨b, off, rfl, fun i hi => ?_⟩
    obtain ⟨x, hx, hc⟩ := h i hi
    exact ⟨x, hx, (hb.cell (p := ⟨b, off + i, none⟩) (hlt ⟨b, off, none⟩ rfl (by omega))).trans hc⟩

set_option maxRecDepth 100000 in
set_option maxHeartbeats 0 in
theorem join_walk (a : Option Addr) (n cap : Nat) (w : World) (hb : dr.CodeB w a n) (hlt : ∀ x, a = some x → 0 < n → x.block < w.heap.size) (R : Ready w) :
    Calls Tryd.prog 4 #[.slice a n cap] w fun e w' => e = .returned (.bool true) ∧ Below w.heap.size w w' := by
  by_cases hn : 1048576 < n
  · have hn' : (1048576 : Int) < (n : Int) := by omega
    go_enter Tryd.func4, Tryd.ntmps4
    go_wp2_with (go_at_call 5; refine (big_any _ _ _ _).mono ?_; rintro e w' ⟨rfl, hw⟩; have hw2 := hw.symm; subst hw2; clear hw)
    go_ret
    exact ⟨rfl, Below.refl _ _⟩
  · have hn' : ¬ (1048576 : Int) < (n : Int) := by omega
    go_enter Tryd.func4, Tryd.ntmps4
    go_upto_if 34 with (first
      | (go_at_call 5; refine (big_any _ _ _ _).mono ?_; rintro e w' ⟨rfl, hw⟩; have hw2 := hw.symm; subst hw2; clear hw)
      | (go_at_call 16; refine (dr.drawShow a n cap w hb (by omega) hlt).mono ?_; rintro e w1 ⟨s, rfl, hs, b1⟩; have R1 := R.below b1; have HS : Hid (s.size ≤ 5000) := hs; clear hs)
      | (go_at_call 17; refine (es.impl_any s (by have := HS.out; omega) w1 R1.esc).mono ?_; rintro e w2 ⟨rfl, b2⟩; have R2 := R1.below b2)
      | (go_at_call 18; refine (es.spec_any s (by have := HS.out; omega) w2).mono ?_; rintro e w3 ⟨rfl, b3⟩; have R3 := R2.below b3))
    have B3 : Below w.heap.size w w3 := (b1.trans (b2.mono b1.size)).trans (b3.mono (Nat.le_trans b1.size b2.size))
    go_cut [4, 5, 6] from 21 (fun _ _ _ wc => Below w.heap.size w wc)
    case first =>
      go_wp2_with fail
      · have hne : ¬ es.showA s = ⟨#[]⟩ := emp_of (by assumption)
        obtain ⟨hsz, e2, e1⟩ := show_lex hne
        obtain ⟨z, hz, hk, ht, hm⟩ := one_of_map e1
        have hzt : (⟨z.1.text.toArray⟩ : ByteArray) = s := by rw [ht]
        have HL : Hid (Calls Tryd.prog 19 #[.string (es.showA s)] w3 fun e w' => ∃ g c, e = .returned (.tuple #[.slice (some ⟨g, 0, none⟩) 1 c, .int .i64 (-1)]) ∧ w'.cell? ⟨g, 0, none⟩ = some (.int .i64 3) ∧ w'.cell? ⟨g, 1, none⟩ = some (.string s) ∧ Below w3.heap.size w3 w') := by
          have := lexed_s _ hsz w3 R3.esc R3.sig R3.room
          rw [hz, e2] at this
          refine this.mono fun e w' h => ?_
          obtain ⟨g, c, h1, h2, h3, h4⟩ := lexed_one h
          exact ⟨g, c, h1, by rw [h2, hk], by rw [h3, hzt], h4⟩
        clear e1 e2 hz hsz hne hk ht hm hzt
        go_wp2_with (go_at_call 19; refine HL.out.mono ?_; rintro e w4 ⟨g4, c4, rfl, q0, q1, b4⟩; have R4 := R3.below b4)
        clear HL q0 q1
        have B4 : Below w.heap.size w w4 := ((b1.trans (b2.mono b1.size)).trans (b3.mono (Nat.le_trans b1.size b2.size))).trans (b4.mono (Nat.le_trans (Nat.le_trans b1.size b2.size) b3.size))
        clear b1 b2 b3 b4 R1 R2 R3
        go_wp2_with fail
        go_meet
        case rel => exact B4
      · go_meet
        case rel => exact B3
    case rest =>
      have B4 := hcut
      have R4 := R.below hcut
      clear b1 b2 b3 R1 R2 R3 B3 hcut
      go_wp2_with (go_at_call 20; refine (dr.drawLex a n cap _ (code_below hb B4 hlt) (by omega) (fun x e h0 => Nat.lt_of_lt_of_le (hlt x e h0) B4.size)).mono ?_; rintro e w5 ⟨src, rfl, hsrc, b5⟩; have R5 := R4.below b5; have B5 := B4.trans (b5.mono B4.size); clear b5)
      clear R4 B4
      by_cases h4 : 4000 < src.size
      · obtain ⟨l, p, hl, HSp, HI⟩ := lexed src (by omega)
        have h4i : (4000 : Int) < (src.size : Int) := by omega
        go_wp2_with (go_at_call 19; refine (HI _ R5.esc R5.sig R5.room).mono ?_; rintro e w6 ⟨a6, c6, rfl, _, _, b6⟩; have R6 := R5.below b6; have B6 := B5.trans (b6.mono B5.size); clear b6)
        go_wp2_with (go_at_call 21; refine (HSp _).mono ?_; rintro e w7 ⟨a7, c7, rfl, _, _, b7⟩; have R7 := R6.below b7; have B7 := B6.trans (b7.mono B6.size); clear b7)
        go_wp2_with (go_at_call 19; refine (a1_any _ R7).mono ?_; rintro e w8 ⟨a8, c8, rfl, b8⟩; have B8 := B7.trans (b8.mono B7.size))
        go_ret
        exact ⟨rfl, B8⟩
      · have h4i : ¬ (4000 : Int) < (src.size : Int) := by omega
        have HI : Hid (Calls Tryd.prog 19 #[.string src] w5 fun e w' => Lexed (lexP src 0).1 (lexP src 0).2 w5 e w') := lexed_s src (by omega) w5 R5.esc R5.sig R5.room
        have HP : Hid (∀ w, Calls Tryd.prog 21 #[.string src] w fun e w' => Lexed (lexP src 0).1 (lexP src 0).2 w e w') := fun w => slexed_s src (by omega) w
        have HQ : Hid (Facts src (lexP src 0).1 (lexP src 0).2) := facts src (by omega)
        generalize (lexP src 0).1 = l at HI HP HQ
        generalize (lexP src 0).2 = p at HI HP HQ
        go_wp2_with (go_at_call 19; refine HI.out.mono ?_; rintro e w6 ⟨a6, c6, rfl, L6, _, b6⟩; have R6 := R5.below b6; have B6 := B5.trans (b6.mono B5.size); clear b6 HI)
        go_wp2_with (go_at_call 21; refine (HP.out _).mono ?_; rintro e w7 ⟨a7, c7, rfl, _, _, b7⟩; have R7 := R6.below b7; have B7 := B6.trans (b7.mono B6.size); have L7 := L6.below b7; clear b7 HP)
        go_wp2_with (go_at_call 19; refine (a1_any _ R7).mono ?_; rintro e w8 ⟨a8, c8, rfl, b8⟩; have R8 := R7.below b8; have B8 := B7.trans (b8.mono B7.size); have L8 := L7.below b8; clear b8)
        clear L6 L7 R5 R6 R7 B5 B6 B7
        go_loopw [14, 15, 16, 17] (fun jn i _ _ wr => ∃ (k : Nat) (t : ByteArray), k ≤ l.length ∧ jn = .string t ∧ t.data.toList = JT src k ∧ i = .int .i64 (k : Int) ∧ Below w8.heap.size w8 wr) (fun _ i _ _ _ => l.length - (intOf i).toNat)
        case atStart => exact ⟨0, ⟨#[]⟩, Nat.zero_le _, rfl, by rw [JT_zero], rfl, Below.refl _ _⟩
        case round =>
          obtain ⟨k, t, hk, rfl, ht, rfl, bel⟩ := hrel
          have HT : Hid (t.data.toList = JT src k) := ht
          clear ht
          by_cases hkl : k < l.length
          · have hkl' : (k : Int) < (l.length : Int) := by omega
            have hl20 := HQ.out.len
            obtain ⟨hone, _, hqs, hnext, hat⟩ := HQ.out.pl.1 k hkl
            have hstep := HQ.out.step k hkl
            have hbd := HQ.out.bound (k + 1) (by omega)
            have HO : Hid (one (suf src l[k].2) = some l[k].1) := hone
            have HN : Hid (∀ h2 : k + 1 < l.length, l[k].2 + l[k].1.size ≤ l[k + 1].2) := hnext
            have HA : Hid (p = -1 ∨ ((l[k].2 + l[k].1.size : Nat) : Int) ≤ p) := hat
            have HS2 : Hid (JT src (k + 1) = JT src k ++ ((if 0 < k then [32] else []) ++ piece (suf src l[k].2) l[k].1)) := hstep
            have hlen : t.size + ((if 0 < k then [32] else ([] : List UInt8)).length + (piece (suf src l[k].2) l[k].1).length) ≤ 12000 := by
              rw [hstep, List.length_append, List.length_append, ← HT.out] at hbd
              simpa using hbd
            have HB : Hid (t.size + ((if 0 < k then [32] else ([] : List UInt8)).length + (piece (suf src l[k].2) l[k].1).length) ≤ 12000) := hlen
            have ht12 : t.size ≤ 12000 := by omega
            clear hone hnext hat hstep hbd hlen
            obtain ⟨b, rfl, hc⟩ := (L8.below bel).resolve_left (fun h => by rw [h] at hkl; simp at hkl)
            obtain ⟨g0, g1, g2, g3⟩ := hc k hkl
            have hcat1 : ¬ 9223372036854775807 < t.size + 1 := by omega
            by_cases h3 : l[k].1.kind = 3
            · obtain ⟨y, hy⟩ : ∃ y : ByteArray, y = es.showA ⟨l[k].1.text.toArray⟩ := ⟨_, rfl⟩
              have hyl : y.data.toList = piece (suf src l[k].2) l[k].1 := by rw [hy]; exact show_piece HO.out h3
              have hyz : y.size = (piece (suf src l[k].2) l[k].1).length := by rw [← hyl]; simp
              have hys : t.size + y.size + 1 ≤ 12001 := by
                have := HB.out
                rw [← hyz] at this
                split at this <;> simp at this <;> omega
              have hx4 := (kind3 HO.out h3).1
              have HSh : Hid (Calls Tryd.prog 17 #[.string ⟨l[k].1.text.toArray⟩] wr fun e w' => e = .returned (.string y) ∧ Below wr.heap.size wr w') := by
                rw [hy]
                exact es.impl_any _ (by simp [ByteArray.size]; omega) wr (R8.below bel).esc
              clear hy
              have hcat2 : ¬ 9223372036854775807 < t.size + y.size := by omega
              have hcat3 : ¬ 9223372036854775807 < t.size + 1 + y.size := by omega
              by_cases hk1 : k + 1 < l.length
              · obtain ⟨_, _, _, n3⟩ := hc (k + 1) hk1
                have hk1' : (k : Int) + 1 < (l.length : Int) := by omega
                by_cases h0 : 0 < k
                · as_aux_lemma =>
                  have h0' : 0 < (k : Int) := by omega
                  go_wp2_with (go_at_call 17; refine HSh.out.mono ?_; rintro e wq ⟨rfl, bq⟩)
                  all_goals (
                    go_roundw
                    case rel => exact ⟨k + 1, t ++ ⟨#[32]⟩ ++ y, by omega, rfl, jt1 h0 HT.out HS2.out hyl, by go_num, bel.trans (bq.mono bel.size)⟩
                    case measure => simp [intOf]; omega)
                · as_aux_lemma =>
                  have h0' : ¬ 0 < (k : Int) := by omega
                  go_wp2_with (go_at_call 17; refine HSh.out.mono ?_; rintro e wq ⟨rfl, bq⟩)
                  all_goals (
                    go_roundw
                    case rel => exact ⟨k + 1, t ++ y, by omega, rfl, jt0 h0 HT.out HS2.out hyl, by go_num, bel.trans (bq.mono bel.size)⟩
                    case measure => simp [intOf]; omega)
              · have hk1' : ¬ (k : Int) + 1 < (l.length : Int) := by omega
                by_cases h0 : 0 < k
                · as_aux_lemma =>
                  have h0' : 0 < (k : Int) := by omega
                  go_wp2_with (go_at_call 17; refine HSh.out.mono ?_; rintro e wq ⟨rfl, bq⟩)
                  all_goals (
                    go_roundw
                    case rel => exact ⟨k + 1, t ++ ⟨#[32]⟩ ++ y, by omega, rfl, jt1 h0 HT.out HS2.out hyl, by go_num, bel.trans (bq.mono bel.size)⟩
                    case measure => simp [intOf]; omega)
                · as_aux_lemma =>
                  have h0' : ¬ 0 < (k : Int) := by omega
                  go_wp2_with (go_at_call 17; refine HSh.out.mono ?_; rintro e wq ⟨rfl, bq⟩)
                  all_goals (
                    go_roundw
                    case rel => exact ⟨k + 1, t ++ y, by omega, rfl, jt0 h0 HT.out HS2.out hyl, by go_num, bel.trans (bq.mono bel.size)⟩
                    case measure => simp [intOf]; omega)
            · by_cases h2 : l[k].1.kind = 2
              · obtain ⟨hrn0, hpp⟩ := kind2 HO.out h2
                have HRN : Hid (l[k].1.size = run isDig (suf src l[k].2)) := hrn0
                clear hrn0
                have hqs' : l[k].2 + l[k].1.size ≤ src.size := hqs
                have HPP : Hid (piece (suf src l[k].2) l[k].1 = (suf src l[k].2).take l[k].1.size) := hpp
                clear hpp
                by_cases hp0 : 0 ≤ p
                · by_cases hk1 : k + 1 < l.length
                  · obtain ⟨_, _, _, n3⟩ := hc (k + 1) hk1
                    have hk1' : (k : Int) + 1 < (l.length : Int) := by omega
                    have hE1 := HN.out hk1
                    have hE2 : l[k + 1].2 ≤ src.size := Nat.le_trans (Nat.le_add_right _ _) (HQ.out.pl.1 (k + 1) hk1).2.2.1
                    by_cases h0 : 0 < k
                    · as_aux_lemma =>
                      have h0' : 0 < (k : Int) := by omega
                      go_wp2
                      go_loop [14, 17] (fun jn kk => ∃ (j : Nat) (u : ByteArray), j ≤ l[k].1.size ∧ jn = .string u ∧ kk = .int .i64 ((l[k].2 : Int) + (j : Int)) ∧ u.data.toList = (t ++ ⟨#[32]⟩).data.toList ++ (suf src l[k].2).take j) (fun _ kk => src.size - (intOf kk).toNat)
                      case atStart => exact ⟨0, t ++ ⟨#[32]⟩, Nat.zero_le _, rfl, by go_num, by simp⟩
                      case round =>
                        obtain ⟨j, u, hj, rfl, rfl, hu⟩ := hrel
                        have HU : Hid (u.data.toList = (t ++ ⟨#[32]⟩).data.toList ++ (suf src l[k].2).take j) := hu
                        have hus : u.size ≤ 20000 := by
                          have h := congrArg List.length hu
                          simp at h
                          omega
                        clear hu
                        have hcu : ¬ 9223372036854775807 < u.size + 1 := by omega
                        by_cases hjn : j < l[k].1.size
                        · have hlt2 : l[k].2 + j < src.size := by omega
                          have hd := run_in isDig (suf src l[k].2) j _ (by have := HRN.out; omega) (suf_get hlt2)
                          have hd2 : 48 ≤ (src[l[k].2 + j].toNat : Int) ∧ (src[l[k].2 + j].toNat : Int) ≤ 57 := by simpa [isDig] using hd
                          obtain ⟨hd3, hd4⟩ := hd2
                          clear hd
                          have hE3 : (l[k].2 : Int) + (j : Int) < (l[k + 1].2 : Int) := by omega
                          have hE4 : (l[k].2 : Int) + (j : Int) < (src.size : Int) := by omega
                          go_wp2
                          go_round
                          case rel => exact ⟨j + 1, u ++ src.extract (l[k].2 + j) (l[k].2 + j + 1), by omega, rfl, by go_num, dig_step HU.out hlt2⟩
                          case measure => simp [intOf]; omega
                        · have hje : j = l[k].1.size := by omega
                          have HJE : Hid (j = l[k].1.size) := hje
                          have hjs : l[k].1.size ≤ j := by omega
                          clear hje
                          by_cases hE5 : (l[k].2 : Int) + (j : Int) < (l[k + 1].2 : Int)
                          · have hlt2 : l[k].2 + j < src.size := by omega
                            have hE4 : (l[k].2 : Int) + (j : Int) < (src.size : Int) := by omega
                            have hd := run_end isDig (suf src l[k].2) _ (by rw [← HRN.out, ← HJE.out]; exact suf_get hlt2)
                            have hd2 : ¬ (48 ≤ (src[l[k].2 + j].toNat : Int) ∧ (src[l[k].2 + j].toNat : Int) ≤ 57) := not_dig hd
                            clear hd
                            by_cases h48 : 48 ≤ (src[l[k].2 + j].toNat : Int)
                            · have h57 : ¬ (src[l[k].2 + j].toNat : Int) ≤ 57 := fun h => hd2 ⟨h48, h⟩
                              clear hd2
                              go_wp2
                              go_roundw
                              case rel => exact ⟨k + 1, u, by omega, rfl, jtD1 h0 HT.out HS2.out HPP.out (by rw [← HJE.out]; exact HU.out), by go_num, bel⟩
                              case measure => simp [intOf]; omega
                            · clear hd2
                              go_wp2
                              go_roundw
                              case rel => exact ⟨k + 1, u, by omega, rfl, jtD1 h0 HT.out HS2.out HPP.out (by rw [← HJE.out]; exact HU.out), by go_num, bel⟩
                              case measure => simp [intOf]; omega
                          · go_wp2
                            go_roundw
                            case rel => exact ⟨k + 1, u, by omega, rfl, jtD1 h0 HT.out HS2.out HPP.out (by rw [← HJE.out]; exact HU.out), by go_num, bel⟩
                            case measure => simp [intOf]; omega
                    · as_aux_lemma =>
                      have h0' : ¬ 0 < (k : Int) := by omega
                      go_wp2
                      go_loop [14, 17] (fun jn kk => ∃ (j : Nat) (u : ByteArray), j ≤ l[k].1.size ∧ jn = .string u ∧ kk = .int .i64 ((l[k].2 : Int) + (j : Int)) ∧ u.data.toList = (t).data.toList ++ (suf src l[k].2).take j) (fun _ kk => src.size - (intOf kk).toNat)
                      case atStart => exact ⟨0, t, Nat.zero_le _, rfl, by go_num, by simp⟩
                      case round =>
                        obtain ⟨j, u, hj, rfl, rfl, hu⟩ := hrel
                        have HU : Hid (u.data.toList = (t).data.toList ++ (suf src l[k].2).take j) := hu
                        have hus : u.size ≤ 20000 := by
                          have h := congrArg List.length hu
                          simp at h
                          omega
                        clear hu
                        have hcu : ¬ 9223372036854775807 < u.size + 1 := by omega
                        by_cases hjn : j < l[k].1.size
                        · have hlt2 : l[k].2 + j < src.size := by omega
                          have hd := run_in isDig (suf src l[k].2) j _ (by have := HRN.out; omega) (suf_get hlt2)
                          have hd2 : 48 ≤ (src[l[k].2 + j].toNat : Int) ∧ (src[l[k].2 + j].toNat : Int) ≤ 57 := by simpa [isDig] using hd
                          obtain ⟨hd3, hd4⟩ := hd2
                          clear hd
                          have hE3 : (l[k].2 : Int) + (j : Int) < (l[k + 1].2 : Int) := by omega
                          have hE4 : (l[k].2 : Int) + (j : Int) < (src.size : Int) := by omega
                          go_wp2
                          go_round
                          case rel => exact ⟨j + 1, u ++ src.extract (l[k].2 + j) (l[k].2 + j + 1), by omega, rfl, by go_num, dig_step HU.out hlt2⟩
                          case measure => simp [intOf]; omega
                        · have hje : j = l[k].1.size := by omega
                          have HJE : Hid (j = l[k].1.size) := hje
                          have hjs : l[k].1.size ≤ j := by omega
                          clear hje
                          by_cases hE5 : (l[k].2 : Int) + (j : Int) < (l[k + 1].2 : Int)
                          · have hlt2 : l[k].2 + j < src.size := by omega
                            have hE4 : (l[k].2 : Int) + (j : Int) < (src.size : Int) := by omega
                            have hd := run_end isDig (suf src l[k].2) _ (by rw [← HRN.out, ← HJE.out]; exact suf_get hlt2)
                            have hd2 : ¬ (48 ≤ (src[l[k].2 + j].toNat : Int) ∧ (src[l[k].2 + j].toNat : Int) ≤ 57) := not_dig hd
                            clear hd
                            by_cases h48 : 48 ≤ (src[l[k].2 + j].toNat : Int)
                            · have h57 : ¬ (src[l[k].2 + j].toNat : Int) ≤ 57 := fun h => hd2 ⟨h48, h⟩
                              clear hd2
                              go_wp2
                              go_roundw
                              case rel => exact ⟨k + 1, u, by omega, rfl, jtD0 h0 HT.out HS2.out HPP.out (by rw [← HJE.out]; exact HU.out), by go_num, bel⟩
                              case measure => simp [intOf]; omega
                            · clear hd2
                              go_wp2
                              go_roundw
                              case rel => exact ⟨k + 1, u, by omega, rfl, jtD0 h0 HT.out HS2.out HPP.out (by rw [← HJE.out]; exact HU.out), by go_num, bel⟩
                              case measure => simp [intOf]; omega
                          · go_wp2
                            go_roundw
                            case rel => exact ⟨k + 1, u, by omega, rfl, jtD0 h0 HT.out HS2.out HPP.out (by rw [← HJE.out]; exact HU.out), by go_num, bel⟩
                            case measure => simp [intOf]; omega
                  · have hk1' : ¬ (k : Int) + 1 < (l.length : Int) := by omega
                    have hE1 : ((l[k].2 + l[k].1.size : Nat) : Int) ≤ p := HA.out.resolve_left (by omega)
                    have hE2 : p ≤ (src.size : Int) := (HQ.out.pl.2.resolve_left (by show ¬ p = -1; omega)).2
                    by_cases h0 : 0 < k
                    · as_aux_lemma =>
                      have h0' : 0 < (k : Int) := by omega
                      go_wp2
                      go_loop [14, 17] (fun jn kk => ∃ (j : Nat) (u : ByteArray), j ≤ l[k].1.size ∧ jn = .string u ∧ kk = .int .i64 ((l[k].2 : Int) + (j : Int)) ∧ u.data.toList = (t ++ ⟨#[32]⟩).data.toList ++ (suf src l[k].2).take j) (fun _ kk => src.size - (intOf kk).toNat)
                      case atStart => exact ⟨0, t ++ ⟨#[32]⟩, Nat.zero_le _, rfl, by go_num, by simp⟩
                      case round =>
                        obtain ⟨j, u, hj, rfl, rfl, hu⟩ := hrel
                        have HU : Hid (u.data.toList = (t ++ ⟨#[32]⟩).data.toList ++ (suf src l[k].2).take j) := hu
                        have hus : u.size ≤ 20000 := by
                          have h := congrArg List.length hu
                          simp at h
                          omega
                        clear hu
                        have hcu : ¬ 9223372036854775807 < u.size + 1 := by omega
                        by_cases hjn : j < l[k].1.size
                        · have hlt2 : l[k].2 + j < src.size := by omega
                          have hd := run_in isDig (suf src l[k].2) j _ (by have := HRN.out; omega) (suf_get hlt2)
                          have hd2 : 48 ≤ (src[l[k].2 + j].toNat : Int) ∧ (src[l[k].2 + j].toNat : Int) ≤ 57 := by simpa [isDig] using hd
                          obtain ⟨hd3, hd4⟩ := hd2
                          clear hd
                          have hE3 : (l[k].2 : Int) + (j : Int) < p := by omega
                          have hE4 : (l[k].2 : Int) + (j : Int) < (src.size : Int) := by omega
                          go_wp2
                          go_round
                          case rel => exact ⟨j + 1, u ++ src.extract (l[k].2 + j) (l[k].2 + j + 1), by omega, rfl, by go_num, dig_step HU.out hlt2⟩
                          case measure => simp [intOf]; omega
                        · have hje : j = l[k].1.size := by omega
                          have HJE : Hid (j = l[k].1.size) := hje
                          have hjs : l[k].1.size ≤ j := by omega
                          clear hje
                          by_cases hE5 : (l[k].2 : Int) + (j : Int) < p
                          · have hlt2 : l[k].2 + j < src.size := by omega
                            have hE4 : (l[k].2 : Int) + (j : Int) < (src.size : Int) := by omega
                            have hd := run_end isDig (suf src l[k].2) _ (by rw [← HRN.out, ← HJE.out]; exact suf_get hlt2)
                            have hd2 : ¬ (48 ≤ (src[l[k].2 + j].toNat : Int) ∧ (src[l[k].2 + j].toNat : Int) ≤ 57) := not_dig hd
                            clear hd
                            by_cases h48 : 48 ≤ (src[l[k].2 + j].toNat : Int)
                            · have h57 : ¬ (src[l[k].2 + j].toNat : Int) ≤ 57 := fun h => hd2 ⟨h48, h⟩
                              clear hd2
                              go_wp2
                              go_roundw
                              case rel => exact ⟨k + 1, u, by omega, rfl, jtD1 h0 HT.out HS2.out HPP.out (by rw [← HJE.out]; exact HU.out), by go_num, bel⟩
                              case measure => simp [intOf]; omega
                            · clear hd2
                              go_wp2
                              go_roundw
                              case rel => exact ⟨k + 1, u, by omega, rfl, jtD1 h0 HT.out HS2.out HPP.out (by rw [← HJE.out]; exact HU.out), by go_num, bel⟩
                              case measure => simp [intOf]; omega
                          · go_wp2
                            go_roundw
                            case rel => exact ⟨k + 1, u, by omega, rfl, jtD1 h0 HT.out HS2.out HPP.out (by rw [← HJE.out]; exact HU.out), by go_num, bel⟩
                            case measure => simp [intOf]; omega
                    · as_aux_lemma =>
                      have h0' : ¬ 0 < (k : Int) := by omega
                      go_wp2
                      go_loop [14, 17] (fun jn kk => ∃ (j : Nat) (u : ByteArray), j ≤ l[k].1.size ∧ jn = .string u ∧ kk = .int .i64 ((l[k].2 : Int) + (j : Int)) ∧ u.data.toList = (t).data.toList ++ (suf src l[k].2).take j) (fun _ kk => src.size - (intOf kk).toNat)
                      case atStart => exact ⟨0, t, Nat.zero_le _, rfl, by go_num, by simp⟩
                      case round =>
                        obtain ⟨j, u, hj, rfl, rfl, hu⟩ := hrel
                        have HU : Hid (u.data.toList = (t).data.toList ++ (suf src l[k].2).take j) := hu
                        have hus : u.size ≤ 20000 := by
                          have h := congrArg List.length hu
                          simp at h
                          omega
                        clear hu
                        have hcu : ¬ 9223372036854775807 < u.size + 1 := by omega
                        by_cases hjn : j < l[k].1.size
                        · have hlt2 : l[k].2 + j < src.size := by omega
                          have hd := run_in isDig (suf src l[k].2) j _ (by have := HRN.out; omega) (suf_get hlt2)
                          have hd2 : 48 ≤ (src[l[k].2 + j].toNat : Int) ∧ (src[l[k].2 + j].toNat : Int) ≤ 57 := by simpa [isDig] using hd
                          obtain ⟨hd3, hd4⟩ := hd2
                          clear hd
                          have hE3 : (l[k].2 : Int) + (j : Int) < p := by omega
                          have hE4 : (l[k].2 : Int) + (j : Int) < (src.size : Int) := by omega
                          go_wp2
                          go_round
                          case rel => exact ⟨j + 1, u ++ src.extract (l[k].2 + j) (l[k].2 + j + 1), by omega, rfl, by go_num, dig_step HU.out hlt2⟩
                          case measure => simp [intOf]; omega
                        · have hje : j = l[k].1.size := by omega
                          have HJE : Hid (j = l[k].1.size) := hje
                          have hjs : l[k].1.size ≤ j := by omega
                          clear hje
                          by_cases hE5 : (l[k].2 : Int) + (j : Int) < p
                          · have hlt2 : l[k].2 + j < src.size := by omega
                            have hE4 : (l[k].2 : Int) + (j : Int) < (src.size : Int) := by omega
                            have hd := run_end isDig (suf src l[k].2) _ (by rw [← HRN.out, ← HJE.out]; exact suf_get hlt2)
                            have hd2 : ¬ (48 ≤ (src[l[k].2 + j].toNat : Int) ∧ (src[l[k].2 + j].toNat : Int) ≤ 57) := not_dig hd
                            clear hd
                            by_cases h48 : 48 ≤ (src[l[k].2 + j].toNat : Int)
                            · have h57 : ¬ (src[l[k].2 + j].toNat : Int) ≤ 57 := fun h => hd2 ⟨h48, h⟩
                              clear hd2
                              go_wp2
                              go_roundw
                              case rel => exact ⟨k + 1, u, by omega, rfl, jtD0 h0 HT.out HS2.out HPP.out (by rw [← HJE.out]; exact HU.out), by go_num, bel⟩
                              case measure => simp [intOf]; omega
                            · clear hd2
                              go_wp2
                              go_roundw
                              case rel => exact ⟨k + 1, u, by omega, rfl, jtD0 h0 HT.out HS2.out HPP.out (by rw [← HJE.out]; exact HU.out), by go_num, bel⟩
                              case measure => simp [intOf]; omega
                          · go_wp2
                            go_roundw
                            case rel => exact ⟨k + 1, u, by omega, rfl, jtD0 h0 HT.out HS2.out HPP.out (by rw [← HJE.out]; exact HU.out), by go_num, bel⟩
                            case measure => simp [intOf]; omega
                · have hp0' : p < 0 := by omega
                  by_cases hk1 : k + 1 < l.length
                  · obtain ⟨_, _, _, n3⟩ := hc (k + 1) hk1
                    have hk1' : (k : Int) + 1 < (l.length : Int) := by omega
                    have hE1 := HN.out hk1
                    have hE2 : l[k + 1].2 ≤ src.size := Nat.le_trans (Nat.le_add_right _ _) (HQ.out.pl.1 (k + 1) hk1).2.2.1
                    by_cases h0 : 0 < k
                    · as_aux_lemma =>
                      have h0' : 0 < (k : Int) := by omega
                      go_wp2
                      go_loop [14, 17] (fun jn kk => ∃ (j : Nat) (u : ByteArray), j ≤ l[k].1.size ∧ jn = .string u ∧ kk = .int .i64 ((l[k].2 : Int) + (j : Int)) ∧ u.data.toList = (t ++ ⟨#[32]⟩).data.toList ++ (suf src l[k].2).take j) (fun _ kk => src.size - (intOf kk).toNat)
                      case atStart => exact ⟨0, t ++ ⟨#[32]⟩, Nat.zero_le _, rfl, by go_num, by simp⟩
                      case round =>
                        obtain ⟨j, u, hj, rfl, rfl, hu⟩ := hrel
                        have HU : Hid (u.data.toList = (t ++ ⟨#[32]⟩).data.toList ++ (suf src l[k].2).take j) := hu
                        have hus : u.size ≤ 20000 := by
                          have h := congrArg List.length hu
                          simp at h
                          omega
                        clear hu
                        have hcu : ¬ 9223372036854775807 < u.size + 1 := by omega
                        by_cases hjn : j < l[k].1.size
                        · have hlt2 : l[k].2 + j < src.size := by omega
                          have hd := run_in isDig (suf src l[k].2) j _ (by have := HRN.out; omega) (suf_get hlt2)
                          have hd2 : 48 ≤ (src[l[k].2 + j].toNat : Int) ∧ (src[l[k].2 + j].toNat : Int) ≤ 57 := by simpa [isDig] using hd
                          obtain ⟨hd3, hd4⟩ := hd2
                          clear hd
                          have hE3 : (l[k].2 : Int) + (j : Int) < (l[k + 1].2 : Int) := by omega
                          have hE4 : (l[k].2 : Int) + (j : Int) < (src.size : Int) := by omega
                          go_wp2
                          go_round
                          case rel => exact ⟨j + 1, u ++ src.extract (l[k].2 + j) (l[k].2 + j + 1), by omega, rfl, by go_num, dig_step HU.out hlt2⟩
                          case measure => simp [intOf]; omega
                        · have hje : j = l[k].1.size := by omega
                          have HJE : Hid (j = l[k].1.size) := hje
                          have hjs : l[k].1.size ≤ j := by omega
                          clear hje
                          by_cases hE5 : (l[k].2 : Int) + (j : Int) < (l[k + 1].2 : Int)
                          · have hlt2 : l[k].2 + j < src.size := by omega
                            have hE4 : (l[k].2 : Int) + (j : Int) < (src.size : Int) := by omega
                            have hd := run_end isDig (suf src l[k].2) _ (by rw [← HRN.out, ← HJE.out]; exact suf_get hlt2)
                            have hd2 : ¬ (48 ≤ (src[l[k].2 + j].toNat : Int) ∧ (src[l[k].2 + j].toNat : Int) ≤ 57) := not_dig hd
                            clear hd
                            by_cases h48 : 48 ≤ (src[l[k].2 + j].toNat : Int)
                            · have h57 : ¬ (src[l[k].2 + j].toNat : Int) ≤ 57 := fun h => hd2 ⟨h48, h⟩
                              clear hd2
                              go_wp2
                              go_roundw
                              case rel => exact ⟨k + 1, u, by omega, rfl, jtD1 h0 HT.out HS2.out HPP.out (by rw [← HJE.out]; exact HU.out), by go_num, bel⟩
                              case measure => simp [intOf]; omega
                            · clear hd2
                              go_wp2
                              go_roundw
                              case rel => exact ⟨k + 1, u, by omega, rfl, jtD1 h0 HT.out HS2.out HPP.out (by rw [← HJE.out]; exact HU.out), by go_num, bel⟩
                              case measure => simp [intOf]; omega
                          · go_wp2
                            go_roundw
                            case rel => exact ⟨k + 1, u, by omega, rfl, jtD1 h0 HT.out HS2.out HPP.out (by rw [← HJE.out]; exact HU.out), by go_num, bel⟩
                            case measure => simp [intOf]; omega
                    · as_aux_lemma =>
                      have h0' : ¬ 0 < (k : Int) := by omega
                      go_wp2
                      go_loop [14, 17] (fun jn kk => ∃ (j : Nat) (u : ByteArray), j ≤ l[k].1.size ∧ jn = .string u ∧ kk = .int .i64 ((l[k].2 : Int) + (j : Int)) ∧ u.data.toList = (t).data.toList ++ (suf src l[k].2).take j) (fun _ kk => src.size - (intOf kk).toNat)
                      case atStart => exact ⟨0, t, Nat.zero_le _, rfl, by go_num, by simp⟩
                      case round =>
                        obtain ⟨j, u, hj, rfl, rfl, hu⟩ := hrel
                        have HU : Hid (u.data.toList = (t).data.toList ++ (suf src l[k].2).take j) := hu
                        have hus : u.size ≤ 20000 := by
                          have h := congrArg List.length hu
                          simp at h
                          omega
                        clear hu
                        have hcu : ¬ 9223372036854775807 < u.size + 1 := by omega
                        by_cases hjn : j < l[k].1.size
                        · have hlt2 : l[k].2 + j < src.size := by omega
                          have hd := run_in isDig (suf src l[k].2) j _ (by have := HRN.out; omega) (suf_get hlt2)
                          have hd2 : 48 ≤ (src[l[k].2 + j].toNat : Int) ∧ (src[l[k].2 + j].toNat : Int) ≤ 57 := by simpa [isDig] using hd
                          obtain ⟨hd3, hd4⟩ := hd2
                          clear hd
                          have hE3 : (l[k].2 : Int) + (j : Int) < (l[k + 1].2 : Int) := by omega
                          have hE4 : (l[k].2 : Int) + (j : Int) < (src.size : Int) := by omega
                          go_wp2
                          go_round
                          case rel => exact ⟨j + 1, u ++ src.extract (l[k].2 + j) (l[k].2 + j + 1), by omega, rfl, by go_num, dig_step HU.out hlt2⟩
                          case measure => simp [intOf]; omega
                        · have hje : j = l[k].1.size := by omega
                          have HJE : Hid (j = l[k].1.size) := hje
                          have hjs : l[k].1.size ≤ j := by omega
                          clear hje
                          by_cases hE5 : (l[k].2 : Int) + (j : Int) < (l[k + 1].2 : Int)
                          · have hlt2 : l[k].2 + j < src.size := by omega
                            have hE4 : (l[k].2 : Int) + (j : Int) < (src.size : Int) := by omega
                            have hd := run_end isDig (suf src l[k].2) _ (by rw [← HRN.out, ← HJE.out]; exact suf_get hlt2)
                            have hd2 : ¬ (48 ≤ (src[l[k].2 + j].toNat : Int) ∧ (src[l[k].2 + j].toNat : Int) ≤ 57) := not_dig hd
                            clear hd
                            by_cases h48 : 48 ≤ (src[l[k].2 + j].toNat : Int)
                            · have h57 : ¬ (src[l[k].2 + j].toNat : Int) ≤ 57 := fun h => hd2 ⟨h48, h⟩
                              clear hd2
                              go_wp2
                              go_roundw
                              case rel => exact ⟨k + 1, u, by omega, rfl, jtD0 h0 HT.out HS2.out HPP.out (by rw [← HJE.out]; exact HU.out), by go_num, bel⟩
                              case measure => simp [intOf]; omega
                            · clear hd2
                              go_wp2
                              go_roundw
                              case rel => exact ⟨k + 1, u, by omega, rfl, jtD0 h0 HT.out HS2.out HPP.out (by rw [← HJE.out]; exact HU.out), by go_num, bel⟩
                              case measure => simp [intOf]; omega
                          · go_wp2
                            go_roundw
                            case rel => exact ⟨k + 1, u, by omega, rfl, jtD0 h0 HT.out HS2.out HPP.out (by rw [← HJE.out]; exact HU.out), by go_num, bel⟩
                            case measure => simp [intOf]; omega
                  · have hk1' : ¬ (k : Int) + 1 < (l.length : Int) := by omega
                    by_cases h0 : 0 < k
                    · as_aux_lemma =>
                      have h0' : 0 < (k : Int) := by omega
                      go_wp2
                      go_loop [14, 17] (fun jn kk => ∃ (j : Nat) (u : ByteArray), j ≤ l[k].1.size ∧ jn = .string u ∧ kk = .int .i64 ((l[k].2 : Int) + (j : Int)) ∧ u.data.toList = (t ++ ⟨#[32]⟩).data.toList ++ (suf src l[k].2).take j) (fun _ kk => src.size - (intOf kk).toNat)
                      case atStart => exact ⟨0, t ++ ⟨#[32]⟩, Nat.zero_le _, rfl, by go_num, by simp⟩
                      case round =>
                        obtain ⟨j, u, hj, rfl, rfl, hu⟩ := hrel
                        have HU : Hid (u.data.toList = (t ++ ⟨#[32]⟩).data.toList ++ (suf src l[k].2).take j) := hu
                        have hus : u.size ≤ 20000 := by
                          have h := congrArg List.length hu
                          simp at h
                          omega
                        clear hu
                        have hcu : ¬ 9223372036854775807 < u.size + 1 := by omega
                        by_cases hjn : j < l[k].1.size
                        · have hlt2 : l[k].2 + j < src.size := by omega
                          have hd := run_in isDig (suf src l[k].2) j _ (by have := HRN.out; omega) (suf_get hlt2)
                          have hd2 : 48 ≤ (src[l[k].2 + j].toNat : Int) ∧ (src[l[k].2 + j].toNat : Int) ≤ 57 := by simpa [isDig] using hd
                          obtain ⟨hd3, hd4⟩ := hd2
                          clear hd
                          have hE3 : (l[k].2 : Int) + (j : Int) < (src.size : Int) := by omega
                          have hE4 : (l[k].2 : Int) + (j : Int) < (src.size : Int) := by omega
                          go_wp2
                          go_round
                          case rel => exact ⟨j + 1, u ++ src.extract (l[k].2 + j) (l[k].2 + j + 1), by omega, rfl, by go_num, dig_step HU.out hlt2⟩
                          case measure => simp [intOf]; omega
                        · have hje : j = l[k].1.size := by omega
                          have HJE : Hid (j = l[k].1.size) := hje
                          have hjs : l[k].1.size ≤ j := by omega
                          clear hje
                          by_cases hE5 : (l[k].2 : Int) + (j : Int) < (src.size : Int)
                          · have hlt2 : l[k].2 + j < src.size := by omega
                            have hE4 : (l[k].2 : Int) + (j : Int) < (src.size : Int) := by omega
                            have hd := run_end isDig (suf src l[k].2) _ (by rw [← HRN.out, ← HJE.out]; exact suf_get hlt2)
                            have hd2 : ¬ (48 ≤ (src[l[k].2 + j].toNat : Int) ∧ (src[l[k].2 + j].toNat : Int) ≤ 57) := not_dig hd
                            clear hd
                            by_cases h48 : 48 ≤ (src[l[k].2 + j].toNat : Int)
                            · have h57 : ¬ (src[l[k].2 + j].toNat : Int) ≤ 57 := fun h => hd2 ⟨h48, h⟩
                              clear hd2
                              go_wp2
                              go_roundw
                              case rel => exact ⟨k + 1, u, by omega, rfl, jtD1 h0 HT.out HS2.out HPP.out (by rw [← HJE.out]; exact HU.out), by go_num, bel⟩
                              case measure => simp [intOf]; omega
                            · clear hd2
                              go_wp2
                              go_roundw
                              case rel => exact ⟨k + 1, u, by omega, rfl, jtD1 h0 HT.out HS2.out HPP.out (by rw [← HJE.out]; exact HU.out), by go_num, bel⟩
                              case measure => simp [intOf]; omega
                          · go_wp2
                            go_roundw
                            case rel => exact ⟨k + 1, u, by omega, rfl, jtD1 h0 HT.out HS2.out HPP.out (by rw [← HJE.out]; exact HU.out), by go_num, bel⟩
                            case measure => simp [intOf]; omega
                    · as_aux_lemma =>
                      have h0' : ¬ 0 < (k : Int) := by omega
                      go_wp2
                      go_loop [14, 17] (fun jn kk => ∃ (j : Nat) (u : ByteArray), j ≤ l[k].1.size ∧ jn = .string u ∧ kk = .int .i64 ((l[k].2 : Int) + (j : Int)) ∧ u.data.toList = (t).data.toList ++ (suf src l[k].2).take j) (fun _ kk => src.size - (intOf kk).toNat)
                      case atStart => exact ⟨0, t, Nat.zero_le _, rfl, by go_num, by simp⟩
                      case round =>
                        obtain ⟨j, u, hj, rfl, rfl, hu⟩ := hrel
                        have HU : Hid (u.data.toList = (t).data.toList ++ (suf src l[k].2).take j) := hu
                        have hus : u.size ≤ 20000 := by
                          have h := congrArg List.length hu
                          simp at h
                          omega
                        clear hu
                        have hcu : ¬ 9223372036854775807 < u.size + 1 := by omega
                        by_cases hjn : j < l[k].1.size
                        · have hlt2 : l[k].2 + j < src.size := by omega
                          have hd := run_in isDig (suf src l[k].2) j _ (by have := HRN.out; omega) (suf_get hlt2)
                          have hd2 : 48 ≤ (src[l[k].2 + j].toNat : Int) ∧ (src[l[k].2 + j].toNat : Int) ≤ 57 := by simpa [isDig] using hd
                          obtain ⟨hd3, hd4⟩ := hd2
                          clear hd
                          have hE3 : (l[k].2 : Int) + (j : Int) < (src.size : Int) := by omega
                          have hE4 : (l[k].2 : Int) + (j : Int) < (src.size : Int) := by omega
                          go_wp2
                          go_round
                          case rel => exact ⟨j + 1, u ++ src.extract (l[k].2 + j) (l[k].2 + j + 1), by omega, rfl, by go_num, dig_step HU.out hlt2⟩
                          case measure => simp [intOf]; omega
                        · have hje : j = l[k].1.size := by omega
                          have HJE : Hid (j = l[k].1.size) := hje
                          have hjs : l[k].1.size ≤ j := by omega
                          clear hje
                          by_cases hE5 : (l[k].2 : Int) + (j : Int) < (src.size : Int)
                          · have hlt2 : l[k].2 + j < src.size := by omega
                            have hE4 : (l[k].2 : Int) + (j : Int) < (src.size : Int) := by omega
                            have hd := run_end isDig (suf src l[k].2) _ (by rw [← HRN.out, ← HJE.out]; exact suf_get hlt2)
                            have hd2 : ¬ (48 ≤ (src[l[k].2 + j].toNat : Int) ∧ (src[l[k].2 + j].toNat : Int) ≤ 57) := not_dig hd
                            clear hd
                            by_cases h48 : 48 ≤ (src[l[k].2 + j].toNat : Int)
                            · have h57 : ¬ (src[l[k].2 + j].toNat : Int) ≤ 57 := fun h => hd2 ⟨h48, h⟩
                              clear hd2
                              go_wp2
                              go_roundw
                              case rel => exact ⟨k + 1, u, by omega, rfl, jtD0 h0 HT.out HS2.out HPP.out (by rw [← HJE.out]; exact HU.out), by go_num, bel⟩
                              case measure => simp [intOf]; omega
                            · clear hd2
                              go_wp2
                              go_roundw
                              case rel => exact ⟨k + 1, u, by omega, rfl, jtD0 h0 HT.out HS2.out HPP.out (by rw [← HJE.out]; exact HU.out), by go_num, bel⟩
                              case measure => simp [intOf]; omega
                          · go_wp2
                            go_roundw
                            case rel => exact ⟨k + 1, u, by omega, rfl, jtD0 h0 HT.out HS2.out HPP.out (by rw [← HJE.out]; exact HU.out), by go_num, bel⟩
                            case measure => simp [intOf]; omega
              · obtain ⟨y, hy⟩ : ∃ y : ByteArray, y = ⟨l[k].1.text.toArray⟩ := ⟨_, rfl⟩
                have hyl : y.data.toList = piece (suf src l[k].2) l[k].1 := by rw [kind14 HO.out h3 h2, hy]
                have hyz : y.size = (piece (suf src l[k].2) l[k].1).length := by rw [← hyl]; simp
                have hys : t.size + y.size + 1 ≤ 12001 := by
                  have := HB.out
                  rw [← hyz] at this
                  split at this <;> simp at this <;> omega
                rw [← hy] at g1
                clear hy
                have hcat2 : ¬ 9223372036854775807 < t.size + y.size := by omega
                have hcat3 : ¬ 9223372036854775807 < t.size + 1 + y.size := by omega
                by_cases hk1 : k + 1 < l.length
                · obtain ⟨_, _, _, n3⟩ := hc (k + 1) hk1
                  have hk1' : (k : Int) + 1 < (l.length : Int) := by omega
                  by_cases h0 : 0 < k
                  · as_aux_lemma =>
                    have h0' : 0 < (k : Int) := by omega
                    go_wp2
                    all_goals (
                      go_roundw
                      case rel => exact ⟨k + 1, t ++ ⟨#[32]⟩ ++ y, by omega, rfl, jt1 h0 HT.out HS2.out hyl, by go_num, bel⟩
                      case measure => simp [intOf]; omega)
                  · as_aux_lemma =>
                    have h0' : ¬ 0 < (k : Int) := by omega
                    go_wp2
                    all_goals (
                      go_roundw
                      case rel => exact ⟨k + 1, t ++ y, by omega, rfl, jt0 h0 HT.out HS2.out hyl, by go_num, bel⟩
                      case measure => simp [intOf]; omega)
                · have hk1' : ¬ (k : Int) + 1 < (l.length : Int) := by omega
                  by_cases h0 : 0 < k
                  · as_aux_lemma =>
                    have h0' : 0 < (k : Int) := by omega
                    go_wp2
                    all_goals (
                      go_roundw
                      case rel => exact ⟨k + 1, t ++ ⟨#[32]⟩ ++ y, by omega, rfl, jt1 h0 HT.out HS2.out hyl, by go_num, bel⟩
                      case measure => simp [intOf]; omega)
                  · as_aux_lemma =>
                    have h0' : ¬ 0 < (k : Int) := by omega
                    go_wp2
                    all_goals (
                      go_roundw
                      case rel => exact ⟨k + 1, t ++ y, by omega, rfl, jt0 h0 HT.out HS2.out hyl, by go_num, bel⟩
                      case measure => simp [intOf]; omega)
          · have hkl' : ¬ (k : Int) < (l.length : Int) := by omega
            obtain rfl : k = l.length := by omega
            obtain ⟨e2, e1⟩ := HQ.out.whole t HT.out
            have htz : t.size ≤ 12000 := by have h := HQ.out.bound l.length (Nat.le_refl _); rw [← HT.out] at h; simpa using h
            have R9 := R8.below bel
            have HM : Hid (Calls Tryd.prog 19 #[.string t] wr fun e w' => Lexed (lexP t 0).1 (lexP t 0).2 wr e w') := lexed_s t (by omega) wr R9.esc R9.sig R9.room
            rw [e2] at HM
            generalize (lexP t 0).1 = m at HM e1
            have hml : m.length = l.length := by have := congrArg List.length e1; simpa using this
            have HE : Hid (m.map (fun z => (z.1.kind, z.1.text, z.1.num)) = l.map (fun z => (z.1.kind, z.1.text, z.1.num))) := e1
            clear e1 e2
            go_wp2_with (go_at_call 19; refine HM.out.mono ?_; rintro e w9 ⟨a9, c9, rfl, L9, _, b9⟩; rw [hml]; have L10 := (L8.below bel).below b9; clear HM)
            have hl20 := HQ.out.len
            clear R8 R9 HT HQ
            have B9 : Below w.heap.size w w9 := (B8.trans (bel.mono B8.size)).trans (b9.mono (Nat.le_trans B8.size bel.size))
            clear B8 bel b9 L8
            go_loopw [20] (fun i wq => ∃ k : Nat, k ≤ l.length ∧ i = .int .i64 (k : Int) ∧ Below w9.heap.size w9 wq) (fun i _ => l.length - (intOf i).toNat)
            case atStart => exact ⟨0, Nat.zero_le _, rfl, Below.refl _ _⟩
            case round =>
              obtain ⟨k, hk, rfl, belq⟩ := hrel
              by_cases hkl : k < l.length
              · have hi' : (k : Int) < (l.length : Int) := by omega
                obtain ⟨b, rfl, hc⟩ := L10.resolve_left (fun h => by rw [h] at hkl; simp at hkl)
                obtain ⟨b', rfl, hc'⟩ := L9.resolve_left (fun h => by rw [h] at hml; simp at hml; omega)
                obtain ⟨g0, g1, g2, g3⟩ := (hc k hkl).below belq
                obtain ⟨k0, k1, k2, k3⟩ := (hc' k (by omega)).below belq
                obtain ⟨f0, f1, f2⟩ := map_get HE.out k hkl (by omega)
                rw [f0] at k0
                rw [f1] at k1
                rw [f2] at k2
                clear hc hc' f0 f1 f2
                go_wp2
                go_region_with (go_at_call 22; refine (same_any _ _ _ _ _ _).mono ?_; rintro e w1' ⟨rfl, hl1⟩)
                all_goals (
                  go_wp2
                  go_roundw
                  case rel => exact ⟨k + 1, by omega, by go_num, belq.trans ((show Below wr.heap.size wr w1' from ⟨hl1.os, hl1.tape, hl1.output, hl1.size, hl1.block⟩).mono belq.size)⟩
                  case measure => simp [intOf]; omega)
              · have hi' : ¬ (k : Int) < (l.length : Int) := by omega
                go_wp2
                go_ret
                exact ⟨rfl, B9.trans (belq.mono B9.size)⟩

end Go.Proofs.YtbnmefponeomiaaDoor.lx
