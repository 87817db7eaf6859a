import Derived.Test.YthklplfpnciodaaGreatDoorM
import Derived.Test.YthklplfpnciodaaGreatDoorK
namespace Go.Proofs.YthklplfpnciodaaGreatDoor.lx
open Go.ChangeShapes Go.WideShapes Go.ChangeAt Go.RowKit Go.Deep
set_option linter.unusedVariables false
set_option linter.unusedSimpArgs false

theorem letter_any (b : UInt8) (w : World) :
    Calls Tryz.prog 75 #[.int .u8 (b.toNat : Int)] w fun e w' => e = .returned (.bool (isLet b)) ∧ w' = w := by
  go_enter Tryz.func75, Tryz.ntmps75
  go_wp2
  all_goals go_ret
  all_goals refine ⟨ret_bool ?_, rfl⟩
  all_goals (rw [Bool.eq_iff_iff]; simp [isLet]; omega)

theorem digit_any (b : UInt8) (w : World) :
    Calls Tryz.prog 87 #[.int .u8 (b.toNat : Int)] w fun e w' => e = .returned (.bool (isDig b)) ∧ w' = w := by
  go_enter Tryz.func87, Tryz.ntmps87
  go_wp2
  all_goals go_ret
  all_goals refine ⟨ret_bool ?_, rfl⟩
  all_goals (rw [Bool.eq_iff_iff]; simp [isDig]; omega)

theorem wordByte_any (b : UInt8) (w : World) :
    Calls Tryz.prog 77 #[.int .u8 (b.toNat : Int)] w fun e w' => e = .returned (.bool (isWord b)) ∧ w' = w := by
  go_enter Tryz.func77, Tryz.ntmps77
  go_wp2_with (first
    | (go_at_call 75; refine (letter_any _ _).mono ?_; rintro e w' ⟨rfl, rfl⟩)
    | (go_at_call 87; refine (digit_any _ _).mono ?_; rintro e w' ⟨rfl, rfl⟩))
  all_goals go_ret
  all_goals refine ⟨ret_bool ?_, rfl⟩
  all_goals simp [isWord, isB, *]

theorem isWord_first {b : UInt8} (h : isFirst b = true) : isWord b = true := by
  simp only [isFirst, isWord, Bool.or_eq_true] at *
  rcases h with h | h <;> simp [h]

theorem ext_take {s : ByteArray} {p n : Nat} (h : p + n ≤ s.size) : s.extract p (p + n) = ⟨((suf s p).take n).toArray⟩ := by
  apply ByteArray.ext
  apply Array.toList_inj.1
  rw [Lib.extract_data]
  simp [suf]

theorem set_one {W : World} {b i : Nat} {v : Value} (h : (W.cell? ⟨b, i, none⟩).isSome = true) : (W.setCell ⟨b, i, none⟩ v).cell? ⟨b, i, none⟩ = some v := World.cell?_setCell_same' _ _ _ h
theorem set_oth {W : World} {b c i j : Nat} {v : Value} (h : ¬ (b = c ∧ i = j)) : (W.setCell ⟨c, j, none⟩ v).cell? ⟨b, i, none⟩ = W.cell? ⟨b, i, none⟩ :=
  World.cell?_setCell_other _ _ _ _ (fun e => h ⟨(congrArg Addr.block e).symm, (congrArg Addr.off e).symm⟩)

theorem four_set {W : World} {b : Nat} {v0 v1 v2 v3 : Value} (h0 : (W.cell? ⟨b, 0, none⟩).isSome = true) (h1 : (W.cell? ⟨b, 1, none⟩).isSome = true) (h2 : (W.cell? ⟨b, 2, none⟩).isSome = true) (h3 : (W.cell? ⟨b, 3, none⟩).isSome = true) :
    ((((W.setCell ⟨b, 0, none⟩ v0).setCell ⟨b, 1, none⟩ v1).setCell ⟨b, 2, none⟩ v2).setCell ⟨b, 3, none⟩ v3).cell? ⟨b, 0, none⟩ = some v0 ∧
    ((((W.setCell ⟨b, 0, none⟩ v0).setCell ⟨b, 1, none⟩ v1).setCell ⟨b, 2, none⟩ v2).setCell ⟨b, 3, none⟩ v3).cell? ⟨b, 1, none⟩ = some v1 ∧
    ((((W.setCell ⟨b, 0, none⟩ v0).setCell ⟨b, 1, none⟩ v1).setCell ⟨b, 2, none⟩ v2).setCell ⟨b, 3, none⟩ v3).cell? ⟨b, 2, none⟩ = some v2 ∧
    ((((W.setCell ⟨b, 0, none⟩ v0).setCell ⟨b, 1, none⟩ v1).setCell ⟨b, 2, none⟩ v2).setCell ⟨b, 3, none⟩ v3).cell? ⟨b, 3, none⟩ = some v3 := by
  refine ⟨?_, ?_, ?_, ?_⟩
  · rw [set_oth (by omega), set_oth (by omega), set_oth (by omega), set_one h0]
  · rw [set_oth (by omega), set_oth (by omega), set_one]
    rw [set_oth (by omega)]; exact h1
  · rw [set_oth (by omega), set_one]
    rw [set_oth (by omega), set_oth (by omega)]; exact h2
  · rw [set_one]
    rw [set_oth (by omega), set_oth (by omega), set_oth (by omega)]; exact h3

theorem run_pos {f : UInt8 → Bool} {b : UInt8} {r : List UInt8} (h : f b = true) : 1 ≤ run f (b :: r) := by
  unfold run
  simp [List.takeWhile_cons, h]

theorem isLetter_any (b : UInt8) (w : World) :
    Calls Tryz.prog 94 #[.int .i32 (b.toNat : Int)] w fun e w' => e = .returned (.bool (isLet b)) ∧ w' = w := by
  go_enter Tryz.func94, Tryz.ntmps94
  go_wp2
  all_goals go_ret
  all_goals refine ⟨ret_bool ?_, rfl⟩
  all_goals (rw [Bool.eq_iff_iff]; simp [isLet]; omega)

theorem isDigit_any (b : UInt8) (w : World) :
    Calls Tryz.prog 93 #[.int .i32 (b.toNat : Int)] w fun e w' => e = .returned (.bool (isDig b)) ∧ w' = w := by
  go_enter Tryz.func93, Tryz.ntmps93
  go_wp2
  all_goals go_ret
  all_goals refine ⟨ret_bool ?_, rfl⟩
  all_goals (rw [Bool.eq_iff_iff]; simp [isDig]; omega)

theorem first_no {b : UInt8} (h : ((b.toNat : Int) == 45) = true ∨ ((b.toNat : Int) == 39) = true ∨ isDig b = true) : false = isFirst b := by
  symm
  simp only [isFirst, isLet, isB, isDig, beq_iff_eq, decide_eq_true_eq, Bool.or_eq_false_iff, decide_eq_false_iff_not, beq_eq_false_iff_ne] at *
  omega

theorem inWord_no (b : UInt8) (w : World) :
    Calls Tryz.prog 89 #[.int .i32 (b.toNat : Int), .bool false] w fun e w' => e = .returned (.bool (isWord b)) ∧ w' = w := by
  go_enter Tryz.func89, Tryz.ntmps89
  go_wp2_with (first
    | (go_at_call 94; refine (isLetter_any _ _).mono ?_; rintro e w' ⟨rfl, rfl⟩)
    | (go_at_call 93; refine (isDigit_any _ _).mono ?_; rintro e w' ⟨rfl, rfl⟩))
  all_goals go_ret
  all_goals refine ⟨ret_bool ?_, rfl⟩
  all_goals simp [isWord, isB, *]

theorem inWord_yes (b : UInt8) (w : World) :
    Calls Tryz.prog 89 #[.int .i32 (b.toNat : Int), .bool true] w fun e w' => e = .returned (.bool (isFirst b)) ∧ w' = w := by
  go_enter Tryz.func89, Tryz.ntmps89
  go_wp2_with (first
    | (go_at_call 94; refine (isLetter_any _ _).mono ?_; rintro e w' ⟨rfl, rfl⟩)
    | (go_at_call 93; refine (isDigit_any _ _).mono ?_; rintro e w' ⟨rfl, rfl⟩))
  all_goals go_ret
  all_goals refine ⟨ret_bool ?_, rfl⟩
  all_goals first | exact first_no (.inl ‹_›) | exact first_no (.inr (.inl ‹_›)) | exact first_no (.inr (.inr ‹_›)) | (simp [isFirst, isB, *]; done)

/-- What a part of lexemeAt answers. -/
def optV : Option Lx → Value
  | some x => .tuple #[.agg #[.int .i64 x.kind, .string ⟨x.text.toArray⟩, .int .i64 x.num, .int .i64 0], .int .i64 (x.size : Int)]
  | none => .tuple #[.agg #[.int .i64 0, .string ⟨#[]⟩, .int .i64 0, .int .i64 0], .int .i64 0]

/-- A return of a Lexeme that lies in memory, and of a number in a slot. -/
theorem ret_two {fn : Func} {i j : Tmp} (hf : fn.results = #[.cell i 159, .tmp j]) {tmps : Array Value} {W : World} {b : Nat} {v0 v1 v2 v3 r : Value} {R : Ending → World → Prop} (h4 : tmps.getD i undef = .pointer (some ⟨b, 0, none⟩)) (h5 : tmps.getD j undef = r)
    (k : W.cell? ⟨b, 0, none⟩ = some v0 ∧ W.cell? ⟨b, 1, none⟩ = some v1 ∧ W.cell? ⟨b, 2, none⟩ = some v2 ∧ W.cell? ⟨b, 3, none⟩ = some v3) (hR : R (.returned (.tuple #[.agg #[v0, v1, v2, v3], r])) W) :
    bodyPost Tryz.prog fn R Exit.ret { tmps := tmps, defers := [] } W := by
  obtain ⟨k0, k1, k2, k3⟩ := k
  have h4' : tmps[i]?.getD undef = .pointer (some ⟨b, 0, none⟩) := by simpa using h4
  have h5' : tmps[j]?.getD undef = r := by simpa using h5
  exact bodyPost_ret (v := .tuple #[.agg #[v0, v1, v2, v3], r]) (by simp [results, hf, go_sem, h4', h5', k0, k1, k2, k3]) rfl hR

theorem four_lit (w : World) (a b c d : Value) (e : TypeId) : (w.alloc (.cells #[a, b, c, d] e)).cell? ⟨w.heap.size, 0, none⟩ = some a ∧ (w.alloc (.cells #[a, b, c, d] e)).cell? ⟨w.heap.size, 1, none⟩ = some b ∧ (w.alloc (.cells #[a, b, c, d] e)).cell? ⟨w.heap.size, 2, none⟩ = some c ∧ (w.alloc (.cells #[a, b, c, d] e)).cell? ⟨w.heap.size, 3, none⟩ = some d := by
  simp [go_sem]

theorem some4 {w w1 : World} {a b c d : Value} {e : TypeId} (h : Below (w.alloc (.cells #[a, b, c, d] e)).heap.size (w.alloc (.cells #[a, b, c, d] e)) w1) : ∀ i, i < 4 → (w1.cell? ⟨w.heap.size, i, none⟩).isSome = true := by
  intro i hi
  rw [h.cell (p := ⟨w.heap.size, i, none⟩) (by simp)]
  obtain ⟨k0, k1, k2, k3⟩ := four_lit w a b c d e
  have h : i = 0 ∨ i = 1 ∨ i = 2 ∨ i = 3 := by omega
  rcases h with rfl | rfl | rfl | rfl
  · rw [k0]; rfl
  · rw [k1]; rfl
  · rw [k2]; rfl
  · rw [k3]; rfl

theorem below4 {B : Nat} {w w1 : World} {b : Nat} {v0 v1 v2 v3 : Value} (h : Below B w w1) (hb : B ≤ b) : Below B w ((((w1.setCell ⟨b, 0, none⟩ v0).setCell ⟨b, 1, none⟩ v1).setCell ⟨b, 2, none⟩ v2).setCell ⟨b, 3, none⟩ v3) :=
  (((h.setCell hb _).setCell hb _).setCell hb _).setCell hb _

theorem bel_lit {w w1 : World} {o : Obj} (h : Below (w.alloc o).heap.size (w.alloc o) w1) : Below w.heap.size w w1 := ((Below.refl _ _).alloc (Nat.le_refl _) _).trans (h.mono (by simp))

theorem ext_zero {r : ByteArray} {n : Nat} (h : n ≤ r.size) : r.extract 0 n = ⟨((suf r 0).take n).toArray⟩ := by
  have := ext_take (s := r) (p := 0) (n := n) (by omega)
  rwa [Nat.zero_add] at this

theorem word_noV {l : List UInt8} {k : Nat} (hk : k = run isWord l) (hb : 60 < k) : optV (word l) = .tuple #[.agg #[.int .i64 0, .string ⟨#[]⟩, .int .i64 0, .int .i64 0], .int .i64 0] := by rw [word, ← hk, if_pos hb]; rfl
theorem word_yesV {r : ByteArray} {k : Nat} (hk : k = run isWord (suf r 0)) (hb : ¬ 60 < k) (hl : k ≤ r.size) : optV (word (suf r 0)) = .tuple #[.agg #[.int .i64 1, .string (r.extract 0 k), .int .i64 0, .int .i64 0], .int .i64 (k : Int)] := by
  rw [word, ← hk, if_neg hb, ext_zero hl]
  rfl

theorem suf_get0 {r : ByteArray} {k : Nat} (h : k < r.size) : (suf r 0)[k]? = some r[k] := by
  have := suf_get (s := r) (p := 0) (k := k) (by omega)
  simpa using this

set_option maxHeartbeats 1000000 in
theorem wordOf_any (r : ByteArray) (hs : r.size ≤ 1048576) (hp : 0 < r.size) (hf : isFirst r[0] = true) (w : World) :
    Calls Tryz.prog 91 #[.string r] w fun e w' => e = .returned (optV (word (suf r 0))) ∧ Below w.heap.size w w' := by
  have hsl := suf_len r 0
  have hrl := run_le isWord (suf r 0)
  have h1 : 1 ≤ run isWord (suf r 0) := by rw [suf_cons hp]; exact run_pos (isWord_first hf)
  go_enter Tryz.func91, Tryz.ntmps91
  go_wp2
  go_loop [4] (fun i => ∃ k : Nat, k ≤ run isWord (suf r 0) ∧ i = .int .i64 (k : Int)) (fun i => r.size - (intOf i).toNat)
  case atStart => exact ⟨1, h1, rfl⟩
  case round =>
    obtain ⟨k, hk, rfl⟩ := hrel
    by_cases hlt : k < r.size
    · have HG : Hid ((suf r 0)[k]? = some r[k]) := suf_get0 hlt
      have hb255 : (r[k].toNat : Int) ≤ 255 := by have := r[k].toNat_lt; omega
      have hlti : (k : Int) < (r.size : Int) := by omega
      cases hw : isWord r[k] with
      | true =>
        have hk2 := run_lt hk HG.out hw
        go_wp2_with (go_at_call 89; refine (inWord_no _ _).mono ?_; rintro e w' ⟨rfl, rfl⟩)
        go_round
        case rel => exact ⟨k + 1, by omega, by go_num⟩
        case measure => simp [intOf]; omega
      | false =>
        have HK : Hid (k = run isWord (suf r 0)) := run_stop hk HG.out hw
        by_cases hb : 60 < k
        · have HV : Hid (optV (word (suf r 0)) = .tuple #[.agg #[.int .i64 0, .string ⟨#[]⟩, .int .i64 0, .int .i64 0], .int .i64 0]) := word_noV HK.out hb
          go_wp2_with (go_at_call 89; refine (inWord_no _ _).mono ?_; rintro e w' ⟨rfl, rfl⟩)
          exact ret_two Tryz.results91 rfl rfl (four_lit _ _ _ _ _ _) ⟨congrArg Ending.returned HV.out.symm, (Below.refl _ _).alloc (Nat.le_refl _) _⟩
        · have HV : Hid (optV (word (suf r 0)) = .tuple #[.agg #[.int .i64 1, .string (r.extract 0 k), .int .i64 0, .int .i64 0], .int .i64 (k : Int)]) := word_yesV HK.out hb (by omega)
          have hlim : Hid ((r.extract 0 k).size ≤ 1099511627776) := by show _ ≤ _; simp; omega
          go_wp2_with (first
            | (go_at_call 89; refine (inWord_no _ _).mono ?_; rintro e w' ⟨rfl, rfl⟩)
            | (go_at_call 22; refine (cl.clone_any _ _ hlim.out).mono ?_; rintro e w1 ⟨rfl, hl1⟩; obtain ⟨hc, hfz⟩ := bcell hl1))
          have hso := some4 hl1
          exact ret_two Tryz.results91 rfl rfl (four_set (hso 0 (by omega)) (hso 1 (by omega)) (hso 2 (by omega)) (hso 3 (by omega))) ⟨congrArg Ending.returned HV.out.symm, below4 (bel_lit hl1) (Nat.le_refl _)⟩
    · have HK : Hid (k = run isWord (suf r 0)) := run_all hk (by omega)
      have hlti : ¬ (k : Int) < (r.size : Int) := by omega
      by_cases hb : 60 < k
      · have HV : Hid (optV (word (suf r 0)) = .tuple #[.agg #[.int .i64 0, .string ⟨#[]⟩, .int .i64 0, .int .i64 0], .int .i64 0]) := word_noV HK.out hb
        go_wp2
        exact ret_two Tryz.results91 rfl rfl (four_lit _ _ _ _ _ _) ⟨congrArg Ending.returned HV.out.symm, (Below.refl _ _).alloc (Nat.le_refl _) _⟩
      · have HV : Hid (optV (word (suf r 0)) = .tuple #[.agg #[.int .i64 1, .string (r.extract 0 k), .int .i64 0, .int .i64 0], .int .i64 (k : Int)]) := word_yesV HK.out hb (by omega)
        have hlim : Hid ((r.extract 0 k).size ≤ 1099511627776) := by show _ ≤ _; simp; omega
        go_wp2_with (first
          | (go_at_call 89; refine (inWord_no _ _).mono ?_; rintro e w' ⟨rfl, rfl⟩)
          | (go_at_call 22; refine (cl.clone_any _ _ hlim.out).mono ?_; rintro e w1 ⟨rfl, hl1⟩; obtain ⟨hc, hfz⟩ := bcell hl1))
        have hso := some4 hl1
        exact ret_two Tryz.results91 rfl rfl (four_set (hso 0 (by omega)) (hso 1 (by omega)) (hso 2 (by omega)) (hso 3 (by omega))) ⟨congrArg Ending.returned HV.out.symm, below4 (bel_lit hl1) (Nat.le_refl _)⟩

end Go.Proofs.YthklplfpnciodaaGreatDoor.lx
