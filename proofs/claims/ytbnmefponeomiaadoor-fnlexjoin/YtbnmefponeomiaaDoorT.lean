import Derived.Test.YtbnmefponeomiaaDoorR
namespace Go.Proofs.YtbnmefponeomiaaDoor.lx
open Go.ChangeShapes Go.WideShapes Go.ChangeAt Go.RowKit Go.Deep
set_option linter.unusedVariables false
set_option linter.unusedSimpArgs false

theorem infoLx : (Tryd.prog.info? 39).map (fun i => (i.zero, i.size, i.bytes)) = some (some (.agg #[.int .i64 0, .string ⟨#[]⟩, .int .i64 0, .int .i64 0]), 4, 40) := by kernel_rfl

theorem own_emptyL (w : World) : (w.alloc (.cells #[] 39)).ownsRow w.heap.size 39 4 (.slice (some ⟨w.heap.size, 0, none⟩) 0 0) 0 (lxCs []) := World.ownsRow_made w #[] 0 (Nat.le_refl _) (by decide) rfl

theorem four_new (w : World) (a b c d : Value) (e : TypeId) : ∀ j v, [a, b, c, d][j]? = some v → (w.alloc (.cells #[a, b, c, d] e)).cell? ((⟨w.heap.size, 0, none⟩ : Addr).add j) = some v := by
  intro j v h
  match j, h with
  | 0, h =>
    obtain rfl : a = v := by simpa using h
    simp [Addr.add]
  | 1, h =>
    obtain rfl : b = v := by simpa using h
    simp [Addr.add]
  | 2, h =>
    obtain rfl : c = v := by simpa using h
    simp [Addr.add]
  | 3, h =>
    obtain rfl : d = v := by simpa using h
    simp [Addr.add]

theorem four_new1 (w : World) (O : Obj) (a b c d : Value) (e : TypeId) : ∀ j v, [a, b, c, d][j]? = some v → ((w.alloc O).alloc (.cells #[a, b, c, d] e)).cell? ((⟨w.heap.size + 1, 0, none⟩ : Addr).add j) = some v := by
  have h := four_new (w.alloc O) a b c d e
  have hz : (w.alloc O).heap.size = w.heap.size + 1 := by simp
  rw [hz] at h
  exact h

theorem lxC_oneCell (y : Lx × Nat) : ∀ u ∈ lxC y, u.oneCell' = true := by
  intro u hu
  simp [lxC] at hu
  rcases hu with rfl | rfl | rfl | rfl <;> rfl

/-- What is left behind a part: the whole is the part and the rest. -/
def Rest (s : ByteArray) (acc : List (Lx × Nat)) (p : Nat) : Prop := lexP s 0 = (acc ++ (lexP s p).1, (lexP s p).2) ∧ acc.length ≤ p

/-- What Lex answers: the lexemes, in a row of its own, and the place. -/
def LexIs (s : ByteArray) (w : World) (e : Ending) (w' : World) : Prop :=
  ∃ v, e = .returned (.tuple #[v, .int .i64 (if 20000 < s.size then 0 else (lexP s 0).2)]) ∧
    w'.ownsRow w.heap.size 39 4 v (if 20000 < s.size then 0 else (lexP s 0).1.length) (lxCs (if 20000 < s.size then [] else (lexP s 0).1)) ∧ Below w.heap.size w w'

theorem lex_end {s : ByteArray} {w w' : World} {v : Value} {acc : List (Lx × Nat)} {p : Nat} (hs : ¬ 20000 < s.size) (hr : Rest s acc p) (hp : s.size ≤ p) (ho : w'.ownsRow w.heap.size 39 4 v acc.length (lxCs acc)) (hb : Below w.heap.size w w') :
    LexIs s w (.returned (.tuple #[v, .int .i64 (-1)])) w' := by
  have e := hr.1
  rw [lexP_end hp, List.append_nil] at e
  refine ⟨v, ?_, ?_, hb⟩
  · rw [if_neg hs, e]
  · rw [if_neg hs, if_neg hs, e]
    exact ho

theorem lex_fail {s : ByteArray} {w w' : World} {v : Value} {acc : List (Lx × Nat)} {p : Nat} (hs : ¬ 20000 < s.size) (hr : Rest s acc p) (h : lexP s p = ([], (p : Int))) (ho : w'.ownsRow w.heap.size 39 4 v acc.length (lxCs acc)) (hb : Below w.heap.size w w') :
    LexIs s w (.returned (.tuple #[v, .int .i64 (p : Int)])) w' := by
  have e := hr.1
  rw [h, List.append_nil] at e
  refine ⟨v, ?_, ?_, hb⟩
  · rw [if_neg hs, e]
  · rw [if_neg hs, if_neg hs, e]
    exact ho

theorem lex_big {s : ByteArray} {w : World} (hs : 20000 < s.size) : LexIs s w (.returned (.tuple #[.slice (some ⟨w.heap.size, 0, none⟩) 0 0, .int .i64 0])) (w.alloc (.cells #[] 39)) := by
  refine ⟨_, by rw [if_pos hs], ?_, (Below.refl _ _).alloc (Nat.le_refl _) _⟩
  rw [if_pos hs, if_pos hs]
  exact own_emptyL w

theorem rest_same {s : ByteArray} {acc : List (Lx × Nat)} {p q : Nat} (hr : Rest s acc p) (h : lexP s p = lexP s q) (hq : p ≤ q) : Rest s acc q := ⟨by rw [← h]; exact hr.1, by have := hr.2; omega⟩

theorem rest_one {s : ByteArray} {acc : List (Lx × Nat)} {p : Nat} {x : Lx} (hr : Rest s acc p) (h : lexP s p = ((x, p) :: (lexP s (p + x.size)).1, (lexP s (p + x.size)).2)) (hx : 1 ≤ x.size) : Rest s (acc ++ [(x, p)]) (p + x.size) := by
  refine ⟨?_, by have := hr.2; simp; omega⟩
  have := hr.1
  rw [h] at this
  rw [this]
  simp

theorem one_split {s : ByteArray} {p : Nat} {G : Prop} (h : ∀ w, Calls Tryd.prog 41 #[.string s, .int .i64 (p : Int)] w fun e w' => OneIs (suf s p) p e ∧ Below w.heap.size w w')
    (h1 : (one (suf s p) = none ∧ ∀ w, Calls Tryd.prog 41 #[.string s, .int .i64 (p : Int)] w fun e w' => (∃ a b c d, e = .returned (.tuple #[.agg #[.int .i64 a, .string b, .int .i64 c, .int .i64 d], .int .i64 (-1)])) ∧ Below w.heap.size w w') → G)
    (h2 : ∀ x, one (suf s p) = some x → (∀ w, Calls Tryd.prog 41 #[.string s, .int .i64 (p : Int)] w fun e w' => e = .returned (.tuple #[lxV x p, .int .i64 ((p + x.size : Nat) : Int)]) ∧ Below w.heap.size w w') → G) : G := by
  cases ho : one (suf s p) with
  | none =>
    refine h1 ⟨ho, fun w => (h w).mono fun e w' ⟨he, hb⟩ => ⟨?_, hb⟩⟩
    rcases he with ⟨x, hx, _⟩ | ⟨_, he⟩
    · rw [ho] at hx; cases hx
    · exact he
  | some x =>
    refine h2 x ho (fun w => (h w).mono fun e w' ⟨he, hb⟩ => ⟨?_, hb⟩)
    rcases he with ⟨y, hy, he⟩ | ⟨hn, _⟩
    · rw [ho] at hy; cases hy; exact he
    · rw [ho] at hn; cases hn

set_option maxHeartbeats 2000000 in
theorem sLex_any (s : ByteArray) (hs : s.size ≤ 1048576) (w : World) :
    Calls Tryd.prog 21 #[.string s] w fun e w' => LexIs s w e w' := by
  by_cases hbig : 20000 < s.size
  · go_enter Tryd.func21, Tryd.ntmps21
    go_wp2
    go_ret2
    exact lex_big hbig
  have hsz2 : s.size ≤ 20000 := by omega
  go_enter Tryd.func21, Tryd.ntmps21
  go_wp2
  go_loopw [4, 5, 6, 7] (fun v i _ _ wr => ∃ (p : Nat) (acc : List (Lx × Nat)), p ≤ s.size ∧ i = .int .i64 (p : Int) ∧ Rest s acc p ∧ wr.ownsRow w.heap.size 39 4 v acc.length (lxCs acc) ∧ Below w.heap.size w wr) (fun _ i _ _ _ => s.size - (intOf i).toNat)
  case atStart => exact ⟨0, [], Nat.zero_le _, rfl, ⟨by simp, Nat.le_refl _⟩, own_emptyL w, (Below.refl _ _).alloc (Nat.le_refl _) _⟩
  case round =>
    obtain ⟨p, acc, hp, rfl, hr, hown, hbel⟩ := hrel
    have HR : Hid (Rest s acc p) := hr
    have hal := hr.2
    clear hr
    have hsz := hbel.size
    by_cases hlt : p < s.size
    · have hlti : (p : Int) < (s.size : Int) := by omega
      cases hbl : isBlank s[p] with
      | true =>
        have HE : Hid (lexP s p = lexP s (p + 1)) := lexP_blank hlt hbl
        go_wp2_with (go_at_call 40; refine (blank_any _ _).mono ?_; rintro e w' ⟨rfl, rfl⟩)
        go_roundw
        case rel => exact ⟨p + 1, acc, by omega, by go_num, rest_same HR.out HE.out (by omega), hown, hbel⟩
        case measure => simp [intOf]; omega
      | false =>
        cases hh : isB 35 s[p] with
        | true =>
          have HE : Hid (lexP s p = lexP s (p + run notNl (suf s p))) := lexP_hash hlt hbl hh
          have hh' : ((s[p].toNat : Int) == 35) = true := hh
          have hrl := run_le notNl (suf s p)
          have hsl := suf_len s p
          have hrp : 1 ≤ run notNl (suf s p) := by rw [suf_cons hlt]; exact run_pos (hash_nl hh)
          clear hh
          go_wp2_with (go_at_call 40; refine (blank_any _ _).mono ?_; rintro e w' ⟨rfl, rfl⟩)
          go_loop [5] (fun i => ∃ k : Nat, k ≤ run notNl (suf s p) ∧ i = .int .i64 ((p + k : Nat) : Int)) (fun i => s.size - (intOf i).toNat)
          case atStart => exact ⟨0, Nat.zero_le _, rfl⟩
          case round =>
            obtain ⟨k, hk, rfl⟩ := hrel
            by_cases hl2 : p + k < s.size
            · have HG : Hid ((suf s p)[k]? = some s[p + k]) := suf_get hl2
              have hl2i : ((p + k : Nat) : Int) < (s.size : Int) := by omega
              cases hn : notNl s[p + k] with
              | true =>
                have hk2 := run_lt hk HG.out hn
                have hne : ((s[p + k].toNat : Int) != 10) = true := hn
                go_wp2
                go_round
                case rel => exact ⟨k + 1, by omega, by go_num⟩
                case measure => simp [intOf]; omega
              | false =>
                have HK : Hid (k = run notNl (suf s p)) := run_stop hk HG.out hn
                have hne : ((s[p + k].toNat : Int) != 10) = false := hn
                go_wp2
                go_roundw
                case rel => exact ⟨p + k, acc, by omega, by go_num, rest_same HR.out (by rw [HK.out]; exact HE.out) (by omega), hown, hbel⟩
                case measure => have := HK.out; simp [intOf]; omega
            · have HK : Hid (k = run notNl (suf s p)) := run_all hk (by omega)
              have hl2i : ¬ ((p + k : Nat) : Int) < (s.size : Int) := by omega
              go_wp2
              go_roundw
              case rel => exact ⟨p + k, acc, by omega, by go_num, rest_same HR.out (by rw [HK.out]; exact HE.out) (by omega), hown, hbel⟩
              case measure => have := HK.out; simp [intOf]; omega
        | false =>
          have hh' : ((s[p].toNat : Int) == 35) = false := hh
          have HH : Hid (isB 35 s[p] = false) := hh
          have HL : Hid (isBlank s[p] = false) := hbl
          clear hh
          refine one_split (one_any s hsz2 p hlt) (fun H => ?_) (fun x hx H => ?_)
          · have HO : Hid (one (suf s p) = none) := H.1
            have HC : Hid (∀ w, Calls Tryd.prog 41 #[.string s, .int .i64 (p : Int)] w fun e w' => (∃ a b c d, e = .returned (.tuple #[.agg #[.int .i64 a, .string b, .int .i64 c, .int .i64 d], .int .i64 (-1)])) ∧ Below w.heap.size w w') := H.2
            clear H
            go_wp2_with (first
              | (go_at_call 40; refine (blank_any _ _).mono ?_; rintro e w' ⟨rfl, rfl⟩)
              | (go_at_call 41; refine (HC.out _).mono ?_; rintro e w1 ⟨⟨a, b, c, d, rfl⟩, hl1⟩))
            go_ret2
            have hb1 := hbel.trans (hl1.mono hsz)
            have hs1 := hl1.size
            exact lex_fail hbig HR.out (lexP_none hlt HL.out HH.out HO.out) ((own_below hown hl1).alloc _) (hb1.alloc (by omega) _)
          · have HO : Hid (one (suf s p) = some x) := hx
            have HC : Hid (∀ w, Calls Tryd.prog 41 #[.string s, .int .i64 (p : Int)] w fun e w' => e = .returned (.tuple #[lxV x p, .int .i64 ((p + x.size : Nat) : Int)]) ∧ Below w.heap.size w w') := H
            have hxs := one_size hx
            have hsl := suf_len s p
            have hti : ¬ ((p + x.size : Nat) : Int) < 0 := by omega
            clear H hx
            go_wp2_with (first
              | (go_at_call 40; refine (blank_any _ _).mono ?_; rintro e w' ⟨rfl, rfl⟩)
              | (go_at_call 41; refine (HC.out _).mono ?_; rintro e w1 ⟨rfl, hl1⟩; unfold lxV)
              | (at_builtin; refine app_ownS _ rfl _ _ 35 rfl w.heap.size 39 (.agg #[.int .i64 0, .string ⟨#[]⟩, .int .i64 0, .int .i64 0]) 4 40 Tryd.underlying35 infoLx rfl (by decide) _ _ _ rfl (((own_below hown hl1).alloc _).alloc _) ⟨w1.heap.size + 1, 0, none⟩ 1 1 (lxC (x, p)) rfl rfl ?c1 (lxC_oneCell _) ?c3 ?c4 ?c5 ?_)
              | go_in)
            case c1 => exact four_new1 _ _ _ _ _ _ _
            case c3 => unfold maxLen; omega
            case c4 => omega
            case c5 => have := hl1.size; simp; omega
            intro v' w2 hown' hg
            have hs1 := hl1.size
            have hb1 := (hbel.trans (hl1.mono hsz)).alloc (by omega) (.cells #[.int .i64 x.kind, .string ⟨x.text.toArray⟩, .int .i64 x.num, .int .i64 (p : Int)] 39)
            have hb2 := hb1.alloc (by simp; omega) (.cells #[.int .i64 x.kind, .string ⟨x.text.toArray⟩, .int .i64 x.num, .int .i64 (p : Int)] 39)
            have hb' := below_grownS hb2 (((own_below hown hl1).alloc _).alloc _) hg (by simp; omega)
            rw [← lxCs_snoc] at hown'
            have HX : Hid (Rest s (acc ++ [(x, p)]) (p + x.size)) := rest_one HR.out (lexP_some hlt HL.out HH.out HO.out) hxs.1
            clear hb1 hb2
            go_wp2
            go_roundw
            case rel => exact ⟨p + x.size, acc ++ [(x, p)], by omega, by go_num, HX.out, by rw [List.length_append]; exact hown', hb'⟩
            case measure => simp [intOf]; omega
    · have hlti : ¬ (p : Int) < (s.size : Int) := by omega
      go_wp2
      go_ret2
      exact lex_end hbig HR.out (by omega) hown hbel

end Go.Proofs.YtbnmefponeomiaaDoor.lx
