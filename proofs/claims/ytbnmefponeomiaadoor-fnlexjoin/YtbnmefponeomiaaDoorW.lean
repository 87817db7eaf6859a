import Derived.Test.YtbnmefponeomiaaDoorV
namespace Go.Proofs.YtbnmefponeomiaaDoor.lx
open Go.ChangeShapes Go.WideShapes Go.ChangeAt Go.RowKit Go.Deep
set_option linter.unusedVariables false
set_option linter.unusedSimpArgs false

def SIGC : Array Value := #[.string ⟨#[46, 46, 46]⟩, .string ⟨#[45, 62]⟩, .string ⟨#[47, 47]⟩, .string ⟨#[43, 43]⟩, .string ⟨#[38, 38]⟩, .string ⟨#[124, 124]⟩, .string ⟨#[61, 61]⟩, .string ⟨#[33, 61]⟩, .string ⟨#[60, 61]⟩, .string ⟨#[62, 61]⟩, .string ⟨#[123]⟩, .string ⟨#[125]⟩, .string ⟨#[91]⟩, .string ⟨#[93]⟩, .string ⟨#[40]⟩, .string ⟨#[41]⟩, .string ⟨#[59]⟩, .string ⟨#[58]⟩, .string ⟨#[44]⟩, .string ⟨#[46]⟩, .string ⟨#[63]⟩, .string ⟨#[61]⟩, .string ⟨#[60]⟩, .string ⟨#[62]⟩, .string ⟨#[43]⟩, .string ⟨#[45]⟩, .string ⟨#[42]⟩, .string ⟨#[47]⟩, .string ⟨#[33]⟩]

/-- The table of signs, in its own block. -/
def SigB (w : World) : Prop := ∃ t fr, w.heap[2]? = some (.cells SIGC t fr)

theorem SigB.below {w w' : World} (h : SigB w) (hb : Below w.heap.size w w') : SigB w' := by
  obtain ⟨t, fr, h⟩ := h
  exact ⟨t, fr, by rw [hb.block 2 (Array.getElem?_eq_some_iff.1 h).1]; exact h⟩

theorem six0 (w : World) : (Instr.index 82 (.agg SIGC) (.int .i64 0)).run Tryd.prog w = .ok (.string (sigA 0)) w := by kernel_rfl
theorem six1 (w : World) : (Instr.index 82 (.agg SIGC) (.int .i64 1)).run Tryd.prog w = .ok (.string (sigA 1)) w := by kernel_rfl
theorem six2 (w : World) : (Instr.index 82 (.agg SIGC) (.int .i64 2)).run Tryd.prog w = .ok (.string (sigA 2)) w := by kernel_rfl
theorem six3 (w : World) : (Instr.index 82 (.agg SIGC) (.int .i64 3)).run Tryd.prog w = .ok (.string (sigA 3)) w := by kernel_rfl
theorem six4 (w : World) : (Instr.index 82 (.agg SIGC) (.int .i64 4)).run Tryd.prog w = .ok (.string (sigA 4)) w := by kernel_rfl
theorem six5 (w : World) : (Instr.index 82 (.agg SIGC) (.int .i64 5)).run Tryd.prog w = .ok (.string (sigA 5)) w := by kernel_rfl
theorem six6 (w : World) : (Instr.index 82 (.agg SIGC) (.int .i64 6)).run Tryd.prog w = .ok (.string (sigA 6)) w := by kernel_rfl
theorem six7 (w : World) : (Instr.index 82 (.agg SIGC) (.int .i64 7)).run Tryd.prog w = .ok (.string (sigA 7)) w := by kernel_rfl
theorem six8 (w : World) : (Instr.index 82 (.agg SIGC) (.int .i64 8)).run Tryd.prog w = .ok (.string (sigA 8)) w := by kernel_rfl
theorem six9 (w : World) : (Instr.index 82 (.agg SIGC) (.int .i64 9)).run Tryd.prog w = .ok (.string (sigA 9)) w := by kernel_rfl
theorem six10 (w : World) : (Instr.index 82 (.agg SIGC) (.int .i64 10)).run Tryd.prog w = .ok (.string (sigA 10)) w := by kernel_rfl
theorem six11 (w : World) : (Instr.index 82 (.agg SIGC) (.int .i64 11)).run Tryd.prog w = .ok (.string (sigA 11)) w := by kernel_rfl
theorem six12 (w : World) : (Instr.index 82 (.agg SIGC) (.int .i64 12)).run Tryd.prog w = .ok (.string (sigA 12)) w := by kernel_rfl
theorem six13 (w : World) : (Instr.index 82 (.agg SIGC) (.int .i64 13)).run Tryd.prog w = .ok (.string (sigA 13)) w := by kernel_rfl
theorem six14 (w : World) : (Instr.index 82 (.agg SIGC) (.int .i64 14)).run Tryd.prog w = .ok (.string (sigA 14)) w := by kernel_rfl
theorem six15 (w : World) : (Instr.index 82 (.agg SIGC) (.int .i64 15)).run Tryd.prog w = .ok (.string (sigA 15)) w := by kernel_rfl
theorem six16 (w : World) : (Instr.index 82 (.agg SIGC) (.int .i64 16)).run Tryd.prog w = .ok (.string (sigA 16)) w := by kernel_rfl
theorem six17 (w : World) : (Instr.index 82 (.agg SIGC) (.int .i64 17)).run Tryd.prog w = .ok (.string (sigA 17)) w := by kernel_rfl
theorem six18 (w : World) : (Instr.index 82 (.agg SIGC) (.int .i64 18)).run Tryd.prog w = .ok (.string (sigA 18)) w := by kernel_rfl
theorem six19 (w : World) : (Instr.index 82 (.agg SIGC) (.int .i64 19)).run Tryd.prog w = .ok (.string (sigA 19)) w := by kernel_rfl
theorem six20 (w : World) : (Instr.index 82 (.agg SIGC) (.int .i64 20)).run Tryd.prog w = .ok (.string (sigA 20)) w := by kernel_rfl
theorem six21 (w : World) : (Instr.index 82 (.agg SIGC) (.int .i64 21)).run Tryd.prog w = .ok (.string (sigA 21)) w := by kernel_rfl
theorem six22 (w : World) : (Instr.index 82 (.agg SIGC) (.int .i64 22)).run Tryd.prog w = .ok (.string (sigA 22)) w := by kernel_rfl
theorem six23 (w : World) : (Instr.index 82 (.agg SIGC) (.int .i64 23)).run Tryd.prog w = .ok (.string (sigA 23)) w := by kernel_rfl
theorem six24 (w : World) : (Instr.index 82 (.agg SIGC) (.int .i64 24)).run Tryd.prog w = .ok (.string (sigA 24)) w := by kernel_rfl
theorem six25 (w : World) : (Instr.index 82 (.agg SIGC) (.int .i64 25)).run Tryd.prog w = .ok (.string (sigA 25)) w := by kernel_rfl
theorem six26 (w : World) : (Instr.index 82 (.agg SIGC) (.int .i64 26)).run Tryd.prog w = .ok (.string (sigA 26)) w := by kernel_rfl
theorem six27 (w : World) : (Instr.index 82 (.agg SIGC) (.int .i64 27)).run Tryd.prog w = .ok (.string (sigA 27)) w := by kernel_rfl
theorem six28 (w : World) : (Instr.index 82 (.agg SIGC) (.int .i64 28)).run Tryd.prog w = .ok (.string (sigA 28)) w := by kernel_rfl
theorem six_at (k : Nat) (hk : k < 29) (w : World) : (Instr.index 82 (.agg SIGC) (.int .i64 ((k : Nat) : Int))).run Tryd.prog w = .ok (.string (sigA k)) w := by
  have h : k = 0 ∨ k = 1 ∨ k = 2 ∨ k = 3 ∨ k = 4 ∨ k = 5 ∨ k = 6 ∨ k = 7 ∨ k = 8 ∨ k = 9 ∨ k = 10 ∨ k = 11 ∨ k = 12 ∨ k = 13 ∨ k = 14 ∨ k = 15 ∨ k = 16 ∨ k = 17 ∨ k = 18 ∨ k = 19 ∨ k = 20 ∨ k = 21 ∨ k = 22 ∨ k = 23 ∨ k = 24 ∨ k = 25 ∨ k = 26 ∨ k = 27 ∨ k = 28 := by omega
  rcases h with rfl | rfl | rfl | rfl | rfl | rfl | rfl | rfl | rfl | rfl | rfl | rfl | rfl | rfl | rfl | rfl | rfl | rfl | rfl | rfl | rfl | rfl | rfl | rfl | rfl | rfl | rfl | rfl | rfl
  · exact six0 w
  · exact six1 w
  · exact six2 w
  · exact six3 w
  · exact six4 w
  · exact six5 w
  · exact six6 w
  · exact six7 w
  · exact six8 w
  · exact six9 w
  · exact six10 w
  · exact six11 w
  · exact six12 w
  · exact six13 w
  · exact six14 w
  · exact six15 w
  · exact six16 w
  · exact six17 w
  · exact six18 w
  · exact six19 w
  · exact six20 w
  · exact six21 w
  · exact six22 w
  · exact six23 w
  · exact six24 w
  · exact six25 w
  · exact six26 w
  · exact six27 w
  · exact six28 w

theorem has_fit {r : ByteArray} {k : Nat} (h : (sigA k).size ≤ r.size) : sgAt (suf r 0) k = ((r.extract 0 (sigA k).size).toList == (sigA k).toList) := by
  have := sg_fit (s := r) (p := 0) (k := k) (by omega)
  rwa [Nat.zero_add] at this

theorem shas_any (r : ByteArray) (k : Nat) (w : World) :
    Calls Tryd.prog 63 #[.string r, .string (sigA k)] w fun e w' => e = .returned (.bool (sgAt (suf r 0) k)) ∧ w' = w := by
  by_cases h : (sigA k).size ≤ r.size
  · have HF : Hid (sgAt (suf r 0) k = ((r.extract 0 (sigA k).size).toList == (sigA k).toList)) := has_fit h
    have hi : ((sigA k).size : Int) ≤ (r.size : Int) := by omega
    go_enter Tryd.func63, Tryd.ntmps63
    go_wp2
    all_goals go_ret
    all_goals exact ⟨ret_bool (by rw [HF.out]), rfl⟩
  · have HF : Hid (sgAt (suf r 0) k = false) := sg_nofit (Nat.zero_le _) (by omega)
    have hi : ¬ ((sigA k).size : Int) ≤ (r.size : Int) := by omega
    go_enter Tryd.func63, Tryd.ntmps63
    go_wp2
    all_goals go_ret
    all_goals exact ⟨ret_bool (by rw [HF.out]), rfl⟩

theorem has_any (r : ByteArray) (k : Nat) (w : World) :
    Calls Tryd.prog 61 #[.string r, .string (sigA k)] w fun e w' => e = .returned (.bool (sgAt (suf r 0) k)) ∧ w' = w := by
  go_enter Tryd.func61, Tryd.ntmps61
  go_wp2_with (go_at_call 63; refine (shas_any _ _ _).mono ?_; rintro e w' ⟨rfl, rfl⟩)
  go_ret
  exact ⟨rfl, rfl⟩

theorem sign_noV {l : List UInt8} (h : sgn l 29 = none) : optV (sign l) = .tuple #[.agg #[.int .i64 0, .string ⟨#[]⟩, .int .i64 0, .int .i64 0], .int .i64 0] := by rw [sign, h]; rfl
theorem sign_yesV {l : List UInt8} {k : Nat} (h : sgn l 29 = some k) : optV (sign l) = .tuple #[.agg #[.int .i64 4, .string (sigA k), .int .i64 0, .int .i64 0], .int .i64 ((sigA k).size : Int)] := by rw [sign, h, sig_len]; rfl

set_option maxHeartbeats 1000000 in
theorem signOf_any (r : ByteArray) (hs : r.size ≤ 20000) (w : World) (hS : SigB w) :
    Calls Tryd.prog 58 #[.string r] w fun e w' => e = .returned (optV (sign (suf r 0))) ∧ Below w.heap.size w w' := by
  have hb0 : Below w.heap.size w (w.alloc (.cells #[.int .i64 0, .string ⟨#[]⟩, .int .i64 0, .int .i64 0] 39)) := (Below.refl _ _).alloc (Nat.le_refl _) _
  obtain ⟨tt, fr, hg1⟩ := hS.below hb0
  go_enter Tryd.func58, Tryd.ntmps58
  go_wp2_with (refine wpList_load_row rfl 82 _ rfl 2 rfl tt SIGC fr _ hg1 Tryd.underlying82 rfl (by kernel_rfl) ?_)
  clear hg1
  go_loop [5, 7] (fun _ i => ∃ k : Nat, k ≤ 29 ∧ i = .int .i64 k ∧ sgn (suf r 0) k = none) (fun _ i => 29 - (intOf i).toNat)
  case atStart => exact ⟨0, by omega, rfl, rfl⟩
  case round =>
    obtain ⟨k, hk, rfl, hno⟩ := hrel
    have HN : Hid (sgn (suf r 0) k = none) := hno
    clear hno
    by_cases hlt : k < 29
    · have hix := six_at k hlt
      cases he : sgAt (suf r 0) k with
      | true =>
        have HV : Hid (optV (sign (suf r 0)) = .tuple #[.agg #[.int .i64 4, .string (sigA k), .int .i64 0, .int .i64 0], .int .i64 ((sigA k).size : Int)]) := sign_yesV (sgn_hit hlt HN.out he)
        go_wp2_with (go_at_call 61; refine (has_any _ _ _).mono ?_; rintro e w' ⟨rfl, rfl⟩)
        exact ret_two Tryd.results58 rfl rfl (four_lit _ _ _ _ _ _) ⟨congrArg Ending.returned HV.out.symm, (Below.refl _ _).alloc (Nat.le_refl _) _⟩
      | false =>
        have HH : Hid (sgn (suf r 0) (k + 1) = none) := sgn_miss HN.out he
        go_wp2_with (go_at_call 61; refine (has_any _ _ _).mono ?_; rintro e w' ⟨rfl, rfl⟩)
        go_round
        case rel => exact ⟨k + 1, by omega, by go_num, HH.out⟩
        case measure => simp [intOf]; omega
    · obtain rfl : k = 29 := by omega
      have HV : Hid (optV (sign (suf r 0)) = .tuple #[.agg #[.int .i64 0, .string ⟨#[]⟩, .int .i64 0, .int .i64 0], .int .i64 0]) := sign_noV HN.out
      go_wp2
      exact ret_two Tryd.results58 rfl rfl (four_lit _ _ _ _ _ _) ⟨congrArg Ending.returned HV.out.symm, (Below.refl _ _).alloc (Nat.le_refl _) _⟩

theorem optV_shape (o : Option Lx) : ∃ a b c z, optV o = .tuple #[.agg #[.int .i64 a, .string b, .int .i64 c, .int .i64 0], .int .i64 z] := by
  cases o with
  | none => exact ⟨_, _, _, _, rfl⟩
  | some x => exact ⟨_, _, _, _, rfl⟩

set_option maxHeartbeats 2000000 in
theorem lexAt_any (s : ByteArray) (hs : s.size ≤ 20000) (p : Nat) (hp : p < s.size) (w : World) (hE : es.EscB w) (hS : SigB w) :
    Calls Tryd.prog 46 #[.string s, .int .i64 (p : Int)] w fun e w' => e = .returned (optV (one (suf s p))) ∧ Below w.heap.size w w' := by
  obtain ⟨r, HRr⟩ : ∃ r, Hid (r = s.extract p s.size) := ⟨_, rfl⟩
  have hrs : r.size = s.size - p := by rw [HRr.out]; simp
  have HX : Hid (suf r 0 = suf s p) := by show suf r 0 = _; rw [HRr.out, suf_ext]
  have hr0 : 0 < r.size := by omega
  have hr2 : r.size ≤ 20000 := by omega
  have hsl : ∀ W : World, (Instr.slice 9 (.string s) (some (.int .i64 (p : Int))) none none).run Tryd.prog W = .ok (.string r) W := fun W => by
    have hle : (p : Int) ≤ (s.size : Int) := by omega
    rw [HRr.out]
    simp [go_sem, hle]
  have hb255 : (r[0].toNat : Int) ≤ 255 := by have := r[0].toNat_lt; omega
  have hr0i : (0 : Int) < (r.size : Int) := by omega
  have HO : Hid (one (suf s p) = one (suf r 0)) := by show one _ = _; rw [HX.out]
  have hb0 : Below w.heap.size w (w.alloc (.cells #[.int .i64 0, .string ⟨#[]⟩, .int .i64 0, .int .i64 0] 39)) := (Below.refl _ _).alloc (Nat.le_refl _) _
  have hE1 := hE.below hb0
  have hS1 := hS.below hb0
  cases h1 : isFirst r[0] with
  | true =>
    have HV : Hid (one (suf s p) = word (suf r 0)) := by show one _ = _; rw [HO.out]; exact one_first hr0 h1
    obtain ⟨a, b, c, z, hsh⟩ := optV_shape (word (suf r 0))
    have HC := wordOf_any r hr2 hr0 h1 (w.alloc (.cells #[.int .i64 0, .string ⟨#[]⟩, .int .i64 0, .int .i64 0] 39))
    rw [hsh] at HC
    have HC' : Hid (Calls Tryd.prog 55 #[.string r] (w.alloc (.cells #[.int .i64 0, .string ⟨#[]⟩, .int .i64 0, .int .i64 0] 39)) fun e w' => e = .returned (.tuple #[.agg #[.int .i64 a, .string b, .int .i64 c, .int .i64 0], .int .i64 z]) ∧ Below (w.alloc (.cells #[.int .i64 0, .string ⟨#[]⟩, .int .i64 0, .int .i64 0] 39)).heap.size (w.alloc (.cells #[.int .i64 0, .string ⟨#[]⟩, .int .i64 0, .int .i64 0] 39)) w') := HC
    have HR : Hid (optV (one (suf s p)) = .tuple #[.agg #[.int .i64 a, .string b, .int .i64 c, .int .i64 0], .int .i64 z]) := by show optV _ = _; rw [HV.out, hsh]
    clear hsh HC hE1 hS1 hb0
    go_enter Tryd.func46, Tryd.ntmps46
    go_wp2_with (first
      | (go_at_call 54; refine (inWord_yes _ _).mono ?_; rintro e w' ⟨rfl, rfl⟩)
      | (go_at_call 55; refine HC'.out.mono ?_; rintro e w1 ⟨rfl, hl1⟩; obtain ⟨hc1, hfz1⟩ := bcell hl1))
    have hso := some4 hl1
    exact ret_two Tryd.results46 rfl rfl (four_set (hso 0 (by omega)) (hso 1 (by omega)) (hso 2 (by omega)) (hso 3 (by omega))) ⟨congrArg Ending.returned HR.out.symm, below4 (bel_lit hl1) (Nat.le_refl _)⟩
  | false =>
    cases h2 : isDig r[0] with
    | true =>
      have HV : Hid (one (suf s p) = int (suf r 0)) := by show one _ = _; rw [HO.out]; exact one_digit hr0 h1 h2
      obtain ⟨a, b, c, z, hsh⟩ := optV_shape (int (suf r 0))
      have HC := intOf_any r hr2 (w.alloc (.cells #[.int .i64 0, .string ⟨#[]⟩, .int .i64 0, .int .i64 0] 39))
      rw [hsh] at HC
      have HC' : Hid (Calls Tryd.prog 56 #[.string r] (w.alloc (.cells #[.int .i64 0, .string ⟨#[]⟩, .int .i64 0, .int .i64 0] 39)) fun e w' => e = .returned (.tuple #[.agg #[.int .i64 a, .string b, .int .i64 c, .int .i64 0], .int .i64 z]) ∧ Below (w.alloc (.cells #[.int .i64 0, .string ⟨#[]⟩, .int .i64 0, .int .i64 0] 39)).heap.size (w.alloc (.cells #[.int .i64 0, .string ⟨#[]⟩, .int .i64 0, .int .i64 0] 39)) w') := HC
      have HR : Hid (optV (one (suf s p)) = .tuple #[.agg #[.int .i64 a, .string b, .int .i64 c, .int .i64 0], .int .i64 z]) := by show optV _ = _; rw [HV.out, hsh]
      clear hsh HC hE1 hS1 hb0
      go_enter Tryd.func46, Tryd.ntmps46
      go_wp2_with (first
        | (go_at_call 54; refine (inWord_yes _ _).mono ?_; rintro e w' ⟨rfl, rfl⟩)
        | (go_at_call 52; refine (isDigit_any _ _).mono ?_; rintro e w' ⟨rfl, rfl⟩)
        | (go_at_call 56; refine HC'.out.mono ?_; rintro e w1 ⟨rfl, hl1⟩; obtain ⟨hc1, hfz1⟩ := bcell hl1))
      have hso := some4 hl1
      exact ret_two Tryd.results46 rfl rfl (four_set (hso 0 (by omega)) (hso 1 (by omega)) (hso 2 (by omega)) (hso 3 (by omega))) ⟨congrArg Ending.returned HR.out.symm, below4 (bel_lit hl1) (Nat.le_refl _)⟩
    | false =>
      cases h3 : isB 34 r[0] with
      | true =>
        have q34 : ((r[0].toNat : Int) == 34) = true := h3
        have HV : Hid (one (suf s p) = text (suf r 0)) := by show one _ = _; rw [HO.out]; exact one_text hr0 h1 h2 h3
        obtain ⟨a, b, c, z, hsh⟩ := optV_shape (text (suf r 0))
        have HC := textOf_any r hr2 hr0 (w.alloc (.cells #[.int .i64 0, .string ⟨#[]⟩, .int .i64 0, .int .i64 0] 39)) hE1
        rw [hsh] at HC
        have HC' : Hid (Calls Tryd.prog 57 #[.string r] (w.alloc (.cells #[.int .i64 0, .string ⟨#[]⟩, .int .i64 0, .int .i64 0] 39)) fun e w' => e = .returned (.tuple #[.agg #[.int .i64 a, .string b, .int .i64 c, .int .i64 0], .int .i64 z]) ∧ Below (w.alloc (.cells #[.int .i64 0, .string ⟨#[]⟩, .int .i64 0, .int .i64 0] 39)).heap.size (w.alloc (.cells #[.int .i64 0, .string ⟨#[]⟩, .int .i64 0, .int .i64 0] 39)) w') := HC
        have HR : Hid (optV (one (suf s p)) = .tuple #[.agg #[.int .i64 a, .string b, .int .i64 c, .int .i64 0], .int .i64 z]) := by show optV _ = _; rw [HV.out, hsh]
        clear hsh HC hE1 hS1 hb0
        go_enter Tryd.func46, Tryd.ntmps46
        go_wp2_with (first
          | (go_at_call 54; refine (inWord_yes _ _).mono ?_; rintro e w' ⟨rfl, rfl⟩)
          | (go_at_call 52; refine (isDigit_any _ _).mono ?_; rintro e w' ⟨rfl, rfl⟩)
          | (go_at_call 57; refine HC'.out.mono ?_; rintro e w1 ⟨rfl, hl1⟩; obtain ⟨hc1, hfz1⟩ := bcell hl1))
        have hso := some4 hl1
        exact ret_two Tryd.results46 rfl rfl (four_set (hso 0 (by omega)) (hso 1 (by omega)) (hso 2 (by omega)) (hso 3 (by omega))) ⟨congrArg Ending.returned HR.out.symm, below4 (bel_lit hl1) (Nat.le_refl _)⟩
      | false =>
        have q34 : ((r[0].toNat : Int) == 34) = false := h3
        have HV : Hid (one (suf s p) = sign (suf r 0)) := by show one _ = _; rw [HO.out]; exact one_sign hr0 h1 h2 h3
        obtain ⟨a, b, c, z, hsh⟩ := optV_shape (sign (suf r 0))
        have HC := signOf_any r hr2 (w.alloc (.cells #[.int .i64 0, .string ⟨#[]⟩, .int .i64 0, .int .i64 0] 39)) hS1
        rw [hsh] at HC
        have HC' : Hid (Calls Tryd.prog 58 #[.string r] (w.alloc (.cells #[.int .i64 0, .string ⟨#[]⟩, .int .i64 0, .int .i64 0] 39)) fun e w' => e = .returned (.tuple #[.agg #[.int .i64 a, .string b, .int .i64 c, .int .i64 0], .int .i64 z]) ∧ Below (w.alloc (.cells #[.int .i64 0, .string ⟨#[]⟩, .int .i64 0, .int .i64 0] 39)).heap.size (w.alloc (.cells #[.int .i64 0, .string ⟨#[]⟩, .int .i64 0, .int .i64 0] 39)) w') := HC
        have HR : Hid (optV (one (suf s p)) = .tuple #[.agg #[.int .i64 a, .string b, .int .i64 c, .int .i64 0], .int .i64 z]) := by show optV _ = _; rw [HV.out, hsh]
        clear hsh HC hE1 hS1 hb0
        go_enter Tryd.func46, Tryd.ntmps46
        go_wp2_with (first
          | (go_at_call 54; refine (inWord_yes _ _).mono ?_; rintro e w' ⟨rfl, rfl⟩)
          | (go_at_call 52; refine (isDigit_any _ _).mono ?_; rintro e w' ⟨rfl, rfl⟩)
          | (go_at_call 58; refine HC'.out.mono ?_; rintro e w1 ⟨rfl, hl1⟩; obtain ⟨hc1, hfz1⟩ := bcell hl1))
        have hso := some4 hl1
        exact ret_two Tryd.results46 rfl rfl (four_set (hso 0 (by omega)) (hso 1 (by omega)) (hso 2 (by omega)) (hso 3 (by omega))) ⟨congrArg Ending.returned HR.out.symm, below4 (bel_lit hl1) (Nat.le_refl _)⟩

theorem lineEnd_any (s : ByteArray) (hs : s.size ≤ 20000) (p : Nat) (hp : p ≤ s.size) (w : World) :
    Calls Tryd.prog 53 #[.string s, .int .i64 (p : Int)] w fun e w' => e = .returned (.int .i64 ((p + run notNl (suf s p) : Nat) : Int)) ∧ w' = w := by
  have hsl := suf_len s p
  have hrl := run_le notNl (suf s p)
  go_enter Tryd.func53, Tryd.ntmps53
  go_wp2
  go_loop [1] (fun i => ∃ k : Nat, k ≤ run notNl (suf s p) ∧ i = .int .i64 ((p + k : Nat) : Int)) (fun i => s.size - (intOf i).toNat)
  case atStart => exact ⟨0, Nat.zero_le _, rfl⟩
  case round =>
    obtain ⟨k, hk, rfl⟩ := hrel
    by_cases hl2 : p + k < s.size
    · have HG : Hid ((suf s p)[k]? = some s[p + k]) := suf_get hl2
      have hl2i : ((p + k : Nat) : Int) < (s.size : Int) := by omega
      cases hn : notNl s[p + k] with
      | true =>
        have hk2 := run_lt hk HG.out hn
        have hne : ((s[p + k].toNat : Int) != 10) = true := hn
        go_wp2
        go_round
        case rel => exact ⟨k + 1, by omega, by go_num⟩
        case measure => simp [intOf]; omega
      | false =>
        have HK : Hid (k = run notNl (suf s p)) := run_stop hk HG.out hn
        have hne : ((s[p + k].toNat : Int) != 10) = false := hn
        go_wp2
        go_ret
        exact ⟨ret_int (by have := HK.out; omega), rfl⟩
    · have HK : Hid (k = run notNl (suf s p)) := run_all hk (by omega)
      have hl2i : ¬ ((p + k : Nat) : Int) < (s.size : Int) := by omega
      go_wp2
      go_ret
      exact ⟨ret_int (by have := HK.out; omega), rfl⟩

/-- Where pastBlanks ends. -/
def Past (s : ByteArray) (p q : Nat) : Prop := p ≤ q ∧ q ≤ s.size ∧ lexP s p = lexP s q ∧ ∀ (h : q < s.size), isBlank s[q] = false ∧ isB 35 s[q] = false

theorem past_any (s : ByteArray) (hs : s.size ≤ 20000) (p : Nat) (hp : p ≤ s.size) (w : World) :
    Calls Tryd.prog 45 #[.string s, .int .i64 (p : Int)] w fun e w' => ∃ q : Nat, e = .returned (.int .i64 (q : Int)) ∧ Past s p q ∧ w' = w := by
  go_enter Tryd.func45, Tryd.ntmps45
  go_wp2
  go_loop [1] (fun i => ∃ q : Nat, p ≤ q ∧ q ≤ s.size ∧ i = .int .i64 (q : Int) ∧ lexP s p = lexP s q) (fun i => s.size - (intOf i).toNat)
  case atStart => exact ⟨p, Nat.le_refl _, hp, rfl, rfl⟩
  case round =>
    obtain ⟨q, h1, h2, rfl, he⟩ := hrel
    have HE : Hid (lexP s p = lexP s q) := he
    clear he
    by_cases hlt : q < s.size
    · have hlti : (q : Int) < (s.size : Int) := by omega
      cases hb : isBlank s[q] with
      | true =>
        have HX : Hid (lexP s p = lexP s (q + 1)) := HE.out.trans (lexP_blank hlt hb)
        have hb' : ((s[q].toNat : Int) == 32) = true ∨ (((s[q].toNat : Int) == 32) = false ∧ ((s[q].toNat : Int) == 9) = true) ∨ (((s[q].toNat : Int) == 32) = false ∧ ((s[q].toNat : Int) == 9) = false ∧ ((s[q].toNat : Int) == 10) = true) := by
          simp only [isBlank, isB, Bool.or_eq_true] at hb
          cases h32 : ((s[q].toNat : Int) == 32)
          · cases h9 : ((s[q].toNat : Int) == 9)
            · right; right; rw [h32, h9] at hb; exact ⟨rfl, rfl, by simpa using hb⟩
            · right; left; exact ⟨rfl, rfl⟩
          · left; rfl
        clear hb
        rcases hb' with q32 | ⟨q32, q9⟩ | ⟨q32, q9, q10⟩
        all_goals
          go_wp2
          go_round
          case rel => exact ⟨q + 1, by omega, by omega, by go_num, HX.out⟩
          case measure => simp [intOf]; omega
      | false =>
        have hb' : ((s[q].toNat : Int) == 32) = false ∧ ((s[q].toNat : Int) == 9) = false ∧ ((s[q].toNat : Int) == 10) = false := by
          simp only [isBlank, isB, Bool.or_eq_false_iff] at hb
          exact ⟨hb.1.1, hb.1.2, hb.2⟩
        obtain ⟨q32, q9, q10⟩ := hb'
        have HB : Hid (isBlank s[q] = false) := hb
        clear hb
        cases hh : isB 35 s[q] with
        | true =>
          have q35 : ((s[q].toNat : Int) == 35) = true := hh
          have hsl := suf_len s q
          have hrl := run_le notNl (suf s q)
          have hrp : 1 ≤ run notNl (suf s q) := by rw [suf_cons hlt]; exact run_pos (hash_nl hh)
          have HX : Hid (lexP s p = lexP s (q + run notNl (suf s q))) := HE.out.trans (lexP_hash hlt HB.out hh)
          go_wp2_with (go_at_call 53; refine (lineEnd_any _ hs _ h2 _).mono ?_; rintro e w' ⟨rfl, rfl⟩)
          go_round
          case rel => exact ⟨q + run notNl (suf s q), by omega, by omega, by go_num, HX.out⟩
          case measure => simp [intOf]; omega
        | false =>
          have q35 : ((s[q].toNat : Int) == 35) = false := hh
          have HH : Hid (isB 35 s[q] = false) := hh
          clear hh
          go_wp2
          go_ret
          exact ⟨q, rfl, ⟨h1, h2, HE.out, fun _ => ⟨HB.out, HH.out⟩⟩, rfl⟩
    · have hlti : ¬ (q : Int) < (s.size : Int) := by omega
      go_wp2
      go_ret
      exact ⟨q, rfl, ⟨h1, h2, HE.out, fun h => absurd h hlt⟩, rfl⟩

end Go.Proofs.YtbnmefponeomiaaDoor.lx
