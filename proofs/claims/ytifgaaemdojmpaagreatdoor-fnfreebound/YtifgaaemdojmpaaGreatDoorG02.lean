import Derived.Test.YtifgaaemdojmpaaGreatDoorRows
import Derived.Test.YtifgaaemdojmpaaGreatDoorG01
import Derived.Lib.Strings
import Derived.Lib.Walk
import Derived.Lib.BufferWrite
import Derived.Lib.UnsafeStr
import Derived.Lib.Hide
import Derived.Laws.MakeOwn
namespace Go.Proofs.YtifgaaemdojmpaaGreatDoor.cl
open Go.RowKit
set_option linter.unusedVariables false

theorem info5 : (Tryz.prog.info? 5).map (fun i => (i.zero, i.size, i.bytes)) = some (some (.int .u8 0), 1, 1) := by kernel_rfl

set_option maxHeartbeats 4000000 in
set_option maxRecDepth 100000 in
theorem slite_any (s : ByteArray) (w : World) (hlim : s.size ≤ 1099511627776) :
    Calls Tryz.prog 35 #[.string s] w fun e w' => e = .returned (.string s) ∧ Below w.heap.size w w' := by
  by_cases h0 : s.size = 0
  · have hs : s = ⟨#[]⟩ := by
      apply ByteArray.ext
      exact Array.eq_empty_of_size_eq_zero h0
    subst hs
    go_enter Tryz.func35, Tryz.ntmps35
    go_wp2
    go_ret
    exact ⟨rfl, Below.refl _ _⟩
  · obtain ⟨i0, hi, hz0, hz1, hz2⟩ := info_parts info5
    have hinfo : (Tryz.prog.info? 5).map (·.size) = some 1 := by rw [hi]; simp [hz1]
    have hco : Tryz.prog.cellsOf 5 = 1 := by simp [Program.cellsOf, hi, hz1]
    obtain ⟨M, hM⟩ : ∃ M, M = madeCells (Value.int .u8 0).cells (((s.size : Nat) : Int).toNat * i0.size) := ⟨_, rfl⟩
    have hMs : M.size = s.size := by rw [hM, size_madeCells, hz1]; simp
    have hmk : ∀ W : World, (Instr.makeSlice 22 (.int .i64 (s.size : Int)) (.int .i64 (s.size : Int))).run Tryz.prog W = .ok (.slice (some ⟨W.heap.size, 0, none⟩) s.size s.size) (W.alloc (.cells M 5)) := fun W => by
      have h := run_make (P := Tryz.prog) W 22 5 i0 (.int .u8 0) Tryz.underlying22 hi hz0 .i64 .i64 (s.size : Int) (s.size : Int) (by omega) (by omega) (by rw [hz2]; omega) (by omega)
      rw [← hM] at h
      simpa using h
    clear hM
    have hcp := Lib.run_copy_row_string (P := Tryz.prog) (w.alloc (.cells M 5)) 22 9 3 5 w.heap.size 0 s.size s.size s M 5 Tryz.underlying22 hinfo (heap_alloc_new w _) (Nat.le_refl _) (by omega)
    obtain ⟨Y, hY⟩ : ∃ Y, Y = (M.toList.take 0 ++ Lib.byteCells s.data.toList ++ M.toList.drop (0 + s.size)).toArray := ⟨_, rfl⟩
    rw [← hY] at hcp
    have hYl : Y.toList = Lib.byteCells s.data.toList := by
      rw [hY, List.toList_toArray, List.take_zero, List.nil_append, List.drop_of_length_le (by rw [Array.length_toList]; omega), List.append_nil]
    have hYs : Y.size = s.size := by rw [← Array.length_toList, hYl, Lib.byteCells_length, ← Lib.size_eq]
    have hgY : ((w.alloc (.cells M 5)).setRow w.heap.size Y).heap[w.heap.size]? = some (.cells Y 5 (0, 0)) := setRow_heap _ _ M _ 5 (0, 0) (heap_alloc_new w _)
    have hne : s.data.toList ≠ [] := fun e => h0 (by rw [Lib.size_eq, e]; rfl)
    have hUS := Lib.run_unsafeString_row (P := Tryz.prog) ((w.alloc (.cells M 5)).setRow w.heap.size Y) 132 3 9 5 Tryz.underlying132 hco w.heap.size Y.size (by unfold World.shape?; rw [hgY]) s.data.toList hne (by rw [← Lib.size_eq]; omega) (by rw [← Lib.size_eq]; omega)
      (fun j x hx => Lib.cells_of_row hgY Y.size j _ (by rw [List.take_of_length_le (by rw [Array.length_toList]; exact Nat.le_refl _), hYl]; simp [Lib.byteCells, hx]))
    rw [← Lib.size_eq] at hUS
    clear hY
    go_enter Tryz.func35, Tryz.ntmps35
    go_wp2
    go_ret
    have hb1 : Below w.heap.size w (w.alloc (.cells M 5)) := (Below.refl _ w).alloc (Nat.le_refl _) _
    have hb2 : Below w.heap.size (w.alloc (.cells M 5)) ((w.alloc (.cells M 5)).setRow w.heap.size Y) := ⟨rfl, rfl, rfl, by simp, fun k hk => setRow_other _ _ _ _ (by omega)⟩
    exact ⟨rfl, Lib.below_freeze (hb1.trans hb2) (p := ⟨w.heap.size, 0, none⟩) (Nat.le_refl _) _⟩

theorem clone_any (s : ByteArray) (w : World) (hlim : s.size ≤ 1099511627776) :
    Calls Tryz.prog 15 #[.string s] w fun e w' => e = .returned (.string s) ∧ Below w.heap.size w w' := by
  go_enter Tryz.func15, Tryz.ntmps15
  go_wp2_with (go_at_call 35; refine (slite_any _ _ hlim).mono ?_; rintro e w1 ⟨rfl, hl⟩)
  go_ret
  exact ⟨rfl, hl⟩

end Go.Proofs.YtifgaaemdojmpaaGreatDoor.cl

namespace Go.Proofs.YtifgaaemdojmpaaGreatDoor.lx
open Go.ChangeShapes Go.WideShapes Go.ChangeAt Go.RowKit Go.Deep
set_option linter.unusedVariables false
set_option linter.unusedSimpArgs false

theorem letter_any (b : UInt8) (w : World) :
    Calls Tryz.prog 91 #[.int .u8 (b.toNat : Int)] w fun e w' => e = .returned (.bool (isLet b)) ∧ w' = w := by
  go_enter Tryz.func91, Tryz.ntmps91
  go_wp2
  all_goals go_ret
  all_goals refine ⟨ret_bool ?_, rfl⟩
  all_goals (rw [Bool.eq_iff_iff]; simp [isLet]; omega)

theorem digit_any (b : UInt8) (w : World) :
    Calls Tryz.prog 103 #[.int .u8 (b.toNat : Int)] w fun e w' => e = .returned (.bool (isDig b)) ∧ w' = w := by
  go_enter Tryz.func103, Tryz.ntmps103
  go_wp2
  all_goals go_ret
  all_goals refine ⟨ret_bool ?_, rfl⟩
  all_goals (rw [Bool.eq_iff_iff]; simp [isDig]; omega)

theorem wordByte_any (b : UInt8) (w : World) :
    Calls Tryz.prog 93 #[.int .u8 (b.toNat : Int)] w fun e w' => e = .returned (.bool (isWord b)) ∧ w' = w := by
  go_enter Tryz.func93, Tryz.ntmps93
  go_wp2_with (first
    | (go_at_call 91; refine (letter_any _ _).mono ?_; rintro e w' ⟨rfl, rfl⟩)
    | (go_at_call 103; refine (digit_any _ _).mono ?_; rintro e w' ⟨rfl, rfl⟩))
  all_goals go_ret
  all_goals refine ⟨ret_bool ?_, rfl⟩
  all_goals simp [isWord, isB, *]

theorem isWord_first {b : UInt8} (h : isFirst b = true) : isWord b = true := by
  simp only [isFirst, isWord, Bool.or_eq_true] at *
  rcases h with h | h <;> simp [h]

theorem ext_take {s : ByteArray} {p n : Nat} (h : p + n ≤ s.size) : s.extract p (p + n) = ⟨((suf s p).take n).toArray⟩ := by
  apply ByteArray.ext
  apply Array.toList_inj.1
  rw [Lib.extract_data]
  simp [suf]

theorem set_one {W : World} {b i : Nat} {v : Value} (h : (W.cell? ⟨b, i, none⟩).isSome = true) : (W.setCell ⟨b, i, none⟩ v).cell? ⟨b, i, none⟩ = some v := World.cell?_setCell_same' _ _ _ h
theorem set_oth {W : World} {b c i j : Nat} {v : Value} (h : ¬ (b = c ∧ i = j)) : (W.setCell ⟨c, j, none⟩ v).cell? ⟨b, i, none⟩ = W.cell? ⟨b, i, none⟩ :=
  World.cell?_setCell_other _ _ _ _ (fun e => h ⟨(congrArg Addr.block e).symm, (congrArg Addr.off e).symm⟩)

theorem four_set {W : World} {b : Nat} {v0 v1 v2 v3 : Value} (h0 : (W.cell? ⟨b, 0, none⟩).isSome = true) (h1 : (W.cell? ⟨b, 1, none⟩).isSome = true) (h2 : (W.cell? ⟨b, 2, none⟩).isSome = true) (h3 : (W.cell? ⟨b, 3, none⟩).isSome = true) :
    ((((W.setCell ⟨b, 0, none⟩ v0).setCell ⟨b, 1, none⟩ v1).setCell ⟨b, 2, none⟩ v2).setCell ⟨b, 3, none⟩ v3).cell? ⟨b, 0, none⟩ = some v0 ∧
    ((((W.setCell ⟨b, 0, none⟩ v0).setCell ⟨b, 1, none⟩ v1).setCell ⟨b, 2, none⟩ v2).setCell ⟨b, 3, none⟩ v3).cell? ⟨b, 1, none⟩ = some v1 ∧
    ((((W.setCell ⟨b, 0, none⟩ v0).setCell ⟨b, 1, none⟩ v1).setCell ⟨b, 2, none⟩ v2).setCell ⟨b, 3, none⟩ v3).cell? ⟨b, 2, none⟩ = some v2 ∧
    ((((W.setCell ⟨b, 0, none⟩ v0).setCell ⟨b, 1, none⟩ v1).setCell ⟨b, 2, none⟩ v2).setCell ⟨b, 3, none⟩ v3).cell? ⟨b, 3, none⟩ = some v3 := by
  refine ⟨?_, ?_, ?_, ?_⟩
  · rw [set_oth (by omega), set_oth (by omega), set_oth (by omega), set_one h0]
  · rw [set_oth (by omega), set_oth (by omega), set_one]
    rw [set_oth (by omega)]; exact h1
  · rw [set_oth (by omega), set_one]
    rw [set_oth (by omega), set_oth (by omega)]; exact h2
  · rw [set_one]
    rw [set_oth (by omega), set_oth (by omega), set_oth (by omega)]; exact h3

theorem run_pos {f : UInt8 → Bool} {b : UInt8} {r : List UInt8} (h : f b = true) : 1 ≤ run f (b :: r) := by
  unfold run
  simp [List.takeWhile_cons, h]

theorem isLetter_any (b : UInt8) (w : World) :
    Calls Tryz.prog 120 #[.int .i32 (b.toNat : Int)] w fun e w' => e = .returned (.bool (isLet b)) ∧ w' = w := by
  go_enter Tryz.func120, Tryz.ntmps120
  go_wp2
  all_goals go_ret
  all_goals refine ⟨ret_bool ?_, rfl⟩
  all_goals (rw [Bool.eq_iff_iff]; simp [isLet]; omega)

theorem isDigit_any (b : UInt8) (w : World) :
    Calls Tryz.prog 119 #[.int .i32 (b.toNat : Int)] w fun e w' => e = .returned (.bool (isDig b)) ∧ w' = w := by
  go_enter Tryz.func119, Tryz.ntmps119
  go_wp2
  all_goals go_ret
  all_goals refine ⟨ret_bool ?_, rfl⟩
  all_goals (rw [Bool.eq_iff_iff]; simp [isDig]; omega)

theorem first_no {b : UInt8} (h : ((b.toNat : Int) == 45) = true ∨ ((b.toNat : Int) == 39) = true ∨ isDig b = true) : false = isFirst b := by
  symm
  simp only [isFirst, isLet, isB, isDig, beq_iff_eq, decide_eq_true_eq, Bool.or_eq_false_iff, decide_eq_false_iff_not, beq_eq_false_iff_ne] at *
  omega

theorem inWord_no (b : UInt8) (w : World) :
    Calls Tryz.prog 111 #[.int .i32 (b.toNat : Int), .bool false] w fun e w' => e = .returned (.bool (isWord b)) ∧ w' = w := by
  go_enter Tryz.func111, Tryz.ntmps111
  go_wp2_with (first
    | (go_at_call 120; refine (isLetter_any _ _).mono ?_; rintro e w' ⟨rfl, rfl⟩)
    | (go_at_call 119; refine (isDigit_any _ _).mono ?_; rintro e w' ⟨rfl, rfl⟩))
  all_goals go_ret
  all_goals refine ⟨ret_bool ?_, rfl⟩
  all_goals simp [isWord, isB, *]

theorem inWord_yes (b : UInt8) (w : World) :
    Calls Tryz.prog 111 #[.int .i32 (b.toNat : Int), .bool true] w fun e w' => e = .returned (.bool (isFirst b)) ∧ w' = w := by
  go_enter Tryz.func111, Tryz.ntmps111
  go_wp2_with (first
    | (go_at_call 120; refine (isLetter_any _ _).mono ?_; rintro e w' ⟨rfl, rfl⟩)
    | (go_at_call 119; refine (isDigit_any _ _).mono ?_; rintro e w' ⟨rfl, rfl⟩))
  all_goals go_ret
  all_goals refine ⟨ret_bool ?_, rfl⟩
  all_goals first | exact first_no (.inl ‹_›) | exact first_no (.inr (.inl ‹_›)) | exact first_no (.inr (.inr ‹_›)) | (simp [isFirst, isB, *]; done)

/-- What a part of lexemeAt answers. -/
def optV : Option Lx → Value
  | some x => .tuple #[.agg #[.int .i64 x.kind, .string ⟨x.text.toArray⟩, .int .i64 x.num, .int .i64 0], .int .i64 (x.size : Int)]
  | none => .tuple #[.agg #[.int .i64 0, .string ⟨#[]⟩, .int .i64 0, .int .i64 0], .int .i64 0]

/-- A return of a Lexeme that lies in memory, and of a number in a slot. -/
theorem ret_two {fn : Func} {i j : Tmp} (hf : fn.results = #[.cell i 141, .tmp j]) {tmps : Array Value} {W : World} {b : Nat} {v0 v1 v2 v3 r : Value} {R : Ending → World → Prop} (h4 : tmps.getD i undef = .pointer (some ⟨b, 0, none⟩)) (h5 : tmps.getD j undef = r)
    (k : W.cell? ⟨b, 0, none⟩ = some v0 ∧ W.cell? ⟨b, 1, none⟩ = some v1 ∧ W.cell? ⟨b, 2, none⟩ = some v2 ∧ W.cell? ⟨b, 3, none⟩ = some v3) (hR : R (.returned (.tuple #[.agg #[v0, v1, v2, v3], r])) W) :
    bodyPost Tryz.prog fn R Exit.ret { tmps := tmps, defers := [] } W := by
  obtain ⟨k0, k1, k2, k3⟩ := k
  have h4' : tmps[i]?.getD undef = .pointer (some ⟨b, 0, none⟩) := by simpa using h4
  have h5' : tmps[j]?.getD undef = r := by simpa using h5
  exact bodyPost_ret (v := .tuple #[.agg #[v0, v1, v2, v3], r]) (by simp [results, hf, go_sem, h4', h5', k0, k1, k2, k3]) rfl hR

theorem four_lit (w : World) (a b c d : Value) (e : TypeId) : (w.alloc (.cells #[a, b, c, d] e)).cell? ⟨w.heap.size, 0, none⟩ = some a ∧ (w.alloc (.cells #[a, b, c, d] e)).cell? ⟨w.heap.size, 1, none⟩ = some b ∧ (w.alloc (.cells #[a, b, c, d] e)).cell? ⟨w.heap.size, 2, none⟩ = some c ∧ (w.alloc (.cells #[a, b, c, d] e)).cell? ⟨w.heap.size, 3, none⟩ = some d := by
  simp [go_sem]

theorem some4 {w w1 : World} {a b c d : Value} {e : TypeId} (h : Below (w.alloc (.cells #[a, b, c, d] e)).heap.size (w.alloc (.cells #[a, b, c, d] e)) w1) : ∀ i, i < 4 → (w1.cell? ⟨w.heap.size, i, none⟩).isSome = true := by
  intro i hi
  rw [h.cell (p := ⟨w.heap.size, i, none⟩) (by simp)]
  obtain ⟨k0, k1, k2, k3⟩ := four_lit w a b c d e
  have h : i = 0 ∨ i = 1 ∨ i = 2 ∨ i = 3 := by omega
  rcases h with rfl | rfl | rfl | rfl
  · rw [k0]; rfl
  · rw [k1]; rfl
  · rw [k2]; rfl
  · rw [k3]; rfl

theorem below4 {B : Nat} {w w1 : World} {b : Nat} {v0 v1 v2 v3 : Value} (h : Below B w w1) (hb : B ≤ b) : Below B w ((((w1.setCell ⟨b, 0, none⟩ v0).setCell ⟨b, 1, none⟩ v1).setCell ⟨b, 2, none⟩ v2).setCell ⟨b, 3, none⟩ v3) :=
  (((h.setCell hb _).setCell hb _).setCell hb _).setCell hb _

theorem bel_lit {w w1 : World} {o : Obj} (h : Below (w.alloc o).heap.size (w.alloc o) w1) : Below w.heap.size w w1 := ((Below.refl _ _).alloc (Nat.le_refl _) _).trans (h.mono (by simp))

theorem ext_zero {r : ByteArray} {n : Nat} (h : n ≤ r.size) : r.extract 0 n = ⟨((suf r 0).take n).toArray⟩ := by
  have := ext_take (s := r) (p := 0) (n := n) (by omega)
  rwa [Nat.zero_add] at this

theorem word_noV {l : List UInt8} {k : Nat} (hk : k = run isWord l) (hb : 60 < k) : optV (word l) = .tuple #[.agg #[.int .i64 0, .string ⟨#[]⟩, .int .i64 0, .int .i64 0], .int .i64 0] := by rw [word, ← hk, if_pos hb]; rfl
theorem word_yesV {r : ByteArray} {k : Nat} (hk : k = run isWord (suf r 0)) (hb : ¬ 60 < k) (hl : k ≤ r.size) : optV (word (suf r 0)) = .tuple #[.agg #[.int .i64 1, .string (r.extract 0 k), .int .i64 0, .int .i64 0], .int .i64 (k : Int)] := by
  rw [word, ← hk, if_neg hb, ext_zero hl]
  rfl

theorem suf_get0 {r : ByteArray} {k : Nat} (h : k < r.size) : (suf r 0)[k]? = some r[k] := by
  have := suf_get (s := r) (p := 0) (k := k) (by omega)
  simpa using this

set_option maxHeartbeats 1000000 in
theorem wordOf_any (r : ByteArray) (hs : r.size ≤ 1048576) (hp : 0 < r.size) (hf : isFirst r[0] = true) (w : World) :
    Calls Tryz.prog 113 #[.string r] w fun e w' => e = .returned (optV (word (suf r 0))) ∧ Below w.heap.size w w' := by
  have hsl := suf_len r 0
  have hrl := run_le isWord (suf r 0)
  have h1 : 1 ≤ run isWord (suf r 0) := by rw [suf_cons hp]; exact run_pos (isWord_first hf)
  go_enter Tryz.func113, Tryz.ntmps113
  go_wp2
  go_loop [4] (fun i => ∃ k : Nat, k ≤ run isWord (suf r 0) ∧ i = .int .i64 (k : Int)) (fun i => r.size - (intOf i).toNat)
  case atStart => exact ⟨1, h1, rfl⟩
  case round =>
    obtain ⟨k, hk, rfl⟩ := hrel
    by_cases hlt : k < r.size
    · have HG : Hid ((suf r 0)[k]? = some r[k]) := suf_get0 hlt
      have hb255 : (r[k].toNat : Int) ≤ 255 := by have := r[k].toNat_lt; omega
      have hlti : (k : Int) < (r.size : Int) := by omega
      cases hw : isWord r[k] with
      | true =>
        have hk2 := run_lt hk HG.out hw
        go_wp2_with (go_at_call 111; refine (inWord_no _ _).mono ?_; rintro e w' ⟨rfl, rfl⟩)
        go_round
        case rel => exact ⟨k + 1, by omega, by go_num⟩
        case measure => simp [intOf]; omega
      | false =>
        have HK : Hid (k = run isWord (suf r 0)) := run_stop hk HG.out hw
        by_cases hb : 60 < k
        · have HV : Hid (optV (word (suf r 0)) = .tuple #[.agg #[.int .i64 0, .string ⟨#[]⟩, .int .i64 0, .int .i64 0], .int .i64 0]) := word_noV HK.out hb
          go_wp2_with (go_at_call 111; refine (inWord_no _ _).mono ?_; rintro e w' ⟨rfl, rfl⟩)
          exact ret_two Tryz.results113 rfl rfl (four_lit _ _ _ _ _ _) ⟨congrArg Ending.returned HV.out.symm, (Below.refl _ _).alloc (Nat.le_refl _) _⟩
        · have HV : Hid (optV (word (suf r 0)) = .tuple #[.agg #[.int .i64 1, .string (r.extract 0 k), .int .i64 0, .int .i64 0], .int .i64 (k : Int)]) := word_yesV HK.out hb (by omega)
          have hlim : Hid ((r.extract 0 k).size ≤ 1099511627776) := by show _ ≤ _; simp; omega
          go_wp2_with (first
            | (go_at_call 111; refine (inWord_no _ _).mono ?_; rintro e w' ⟨rfl, rfl⟩)
            | (go_at_call 15; refine (cl.clone_any _ _ hlim.out).mono ?_; rintro e w1 ⟨rfl, hl1⟩; obtain ⟨hc, hfz⟩ := bcell hl1))
          have hso := some4 hl1
          exact ret_two Tryz.results113 rfl rfl (four_set (hso 0 (by omega)) (hso 1 (by omega)) (hso 2 (by omega)) (hso 3 (by omega))) ⟨congrArg Ending.returned HV.out.symm, below4 (bel_lit hl1) (Nat.le_refl _)⟩
    · have HK : Hid (k = run isWord (suf r 0)) := run_all hk (by omega)
      have hlti : ¬ (k : Int) < (r.size : Int) := by omega
      by_cases hb : 60 < k
      · have HV : Hid (optV (word (suf r 0)) = .tuple #[.agg #[.int .i64 0, .string ⟨#[]⟩, .int .i64 0, .int .i64 0], .int .i64 0]) := word_noV HK.out hb
        go_wp2
        exact ret_two Tryz.results113 rfl rfl (four_lit _ _ _ _ _ _) ⟨congrArg Ending.returned HV.out.symm, (Below.refl _ _).alloc (Nat.le_refl _) _⟩
      · have HV : Hid (optV (word (suf r 0)) = .tuple #[.agg #[.int .i64 1, .string (r.extract 0 k), .int .i64 0, .int .i64 0], .int .i64 (k : Int)]) := word_yesV HK.out hb (by omega)
        have hlim : Hid ((r.extract 0 k).size ≤ 1099511627776) := by show _ ≤ _; simp; omega
        go_wp2_with (first
          | (go_at_call 111; refine (inWord_no _ _).mono ?_; rintro e w' ⟨rfl, rfl⟩)
          | (go_at_call 15; refine (cl.clone_any _ _ hlim.out).mono ?_; rintro e w1 ⟨rfl, hl1⟩; obtain ⟨hc, hfz⟩ := bcell hl1))
        have hso := some4 hl1
        exact ret_two Tryz.results113 rfl rfl (four_set (hso 0 (by omega)) (hso 1 (by omega)) (hso 2 (by omega)) (hso 3 (by omega))) ⟨congrArg Ending.returned HV.out.symm, below4 (bel_lit hl1) (Nat.le_refl _)⟩

end Go.Proofs.YtifgaaemdojmpaaGreatDoor.lx

namespace Go.Proofs.YtifgaaemdojmpaaGreatDoor.ex
open Go.ChangeShapes Go.WideShapes Go.ChangeAt Go.RowKit Go.Deep
set_option linter.unusedVariables false
set_option linter.unusedSimpArgs false

def BET : Array Value := #[.string ⟨#[45, 62]⟩, .int .i64 2, .string ⟨#[124, 124]⟩, .int .i64 3, .string ⟨#[38, 38]⟩, .int .i64 4, .string ⟨#[61, 61]⟩, .int .i64 5, .string ⟨#[33, 61]⟩, .int .i64 5, .string ⟨#[60]⟩, .int .i64 6, .string ⟨#[60, 61]⟩, .int .i64 6, .string ⟨#[62]⟩, .int .i64 6, .string ⟨#[62, 61]⟩, .int .i64 6, .string ⟨#[47, 47]⟩, .int .i64 7, .string ⟨#[43]⟩, .int .i64 9, .string ⟨#[45]⟩, .int .i64 9, .string ⟨#[42]⟩, .int .i64 10, .string ⟨#[47]⟩, .int .i64 10, .string ⟨#[43, 43]⟩, .int .i64 11]
def lvl : Nat → Int | 0 => 2 | 1 => 3 | 2 => 4 | 3 => 5 | 4 => 5 | 5 => 6 | 6 => 6 | 7 => 6 | 8 => 6 | 9 => 7 | 10 => 9 | 11 => 9 | 12 => 10 | 13 => 10 | _ => 11

/-- The table of signs that stand between, in its own block. -/
def BetB (w : World) : Prop := ∃ t fr, w.heap[1]? = some (.cells BET t fr)

theorem BetB.below {w w' : World} (h : BetB w) (hb : Below w.heap.size w w') : BetB w' := by
  obtain ⟨t, fr, h⟩ := h
  exact ⟨t, fr, by rw [hb.block 1 (Array.getElem?_eq_some_iff.1 h).1]; exact h⟩

theorem bix0 (w : World) : (Instr.index 189 (.agg BET) (.int .i64 0)).run Tryz.prog w = .ok (.agg #[.string (opA 0), .int .i64 (lvl 0)]) w := by kernel_rfl
theorem bix1 (w : World) : (Instr.index 189 (.agg BET) (.int .i64 1)).run Tryz.prog w = .ok (.agg #[.string (opA 1), .int .i64 (lvl 1)]) w := by kernel_rfl
theorem bix2 (w : World) : (Instr.index 189 (.agg BET) (.int .i64 2)).run Tryz.prog w = .ok (.agg #[.string (opA 2), .int .i64 (lvl 2)]) w := by kernel_rfl
theorem bix3 (w : World) : (Instr.index 189 (.agg BET) (.int .i64 3)).run Tryz.prog w = .ok (.agg #[.string (opA 3), .int .i64 (lvl 3)]) w := by kernel_rfl
theorem bix4 (w : World) : (Instr.index 189 (.agg BET) (.int .i64 4)).run Tryz.prog w = .ok (.agg #[.string (opA 4), .int .i64 (lvl 4)]) w := by kernel_rfl
theorem bix5 (w : World) : (Instr.index 189 (.agg BET) (.int .i64 5)).run Tryz.prog w = .ok (.agg #[.string (opA 5), .int .i64 (lvl 5)]) w := by kernel_rfl
theorem bix6 (w : World) : (Instr.index 189 (.agg BET) (.int .i64 6)).run Tryz.prog w = .ok (.agg #[.string (opA 6), .int .i64 (lvl 6)]) w := by kernel_rfl
theorem bix7 (w : World) : (Instr.index 189 (.agg BET) (.int .i64 7)).run Tryz.prog w = .ok (.agg #[.string (opA 7), .int .i64 (lvl 7)]) w := by kernel_rfl
theorem bix8 (w : World) : (Instr.index 189 (.agg BET) (.int .i64 8)).run Tryz.prog w = .ok (.agg #[.string (opA 8), .int .i64 (lvl 8)]) w := by kernel_rfl
theorem bix9 (w : World) : (Instr.index 189 (.agg BET) (.int .i64 9)).run Tryz.prog w = .ok (.agg #[.string (opA 9), .int .i64 (lvl 9)]) w := by kernel_rfl
theorem bix10 (w : World) : (Instr.index 189 (.agg BET) (.int .i64 10)).run Tryz.prog w = .ok (.agg #[.string (opA 10), .int .i64 (lvl 10)]) w := by kernel_rfl
theorem bix11 (w : World) : (Instr.index 189 (.agg BET) (.int .i64 11)).run Tryz.prog w = .ok (.agg #[.string (opA 11), .int .i64 (lvl 11)]) w := by kernel_rfl
theorem bix12 (w : World) : (Instr.index 189 (.agg BET) (.int .i64 12)).run Tryz.prog w = .ok (.agg #[.string (opA 12), .int .i64 (lvl 12)]) w := by kernel_rfl
theorem bix13 (w : World) : (Instr.index 189 (.agg BET) (.int .i64 13)).run Tryz.prog w = .ok (.agg #[.string (opA 13), .int .i64 (lvl 13)]) w := by kernel_rfl
theorem bix14 (w : World) : (Instr.index 189 (.agg BET) (.int .i64 14)).run Tryz.prog w = .ok (.agg #[.string (opA 14), .int .i64 (lvl 14)]) w := by kernel_rfl
theorem bix_at (k : Nat) (hk : k < 15) (w : World) : (Instr.index 189 (.agg BET) (.int .i64 ((k : Nat) : Int))).run Tryz.prog w = .ok (.agg #[.string (opA k), .int .i64 (lvl k)]) w := by
  match k, hk with
  | 0, _ => exact bix0 w
  | 1, _ => exact bix1 w
  | 2, _ => exact bix2 w
  | 3, _ => exact bix3 w
  | 4, _ => exact bix4 w
  | 5, _ => exact bix5 w
  | 6, _ => exact bix6 w
  | 7, _ => exact bix7 w
  | 8, _ => exact bix8 w
  | 9, _ => exact bix9 w
  | 10, _ => exact bix10 w
  | 11, _ => exact bix11 w
  | 12, _ => exact bix12 w
  | 13, _ => exact bix13 w
  | 14, _ => exact bix14 w

theorem opA_list (k : Nat) : (opA k).toList = ops[k]?.getD [] := by simp [opA, ByteArray.toList_eq]

theorem opB_succ (s : ByteArray) (k : Nat) (hk : k < 15) : opB s (k + 1) = (opB s k || ((opA k).toList == s.toList)) := by
  have hl : k < ops.length := hk
  have e : ops[k]?.getD [] = ops[k] := by rw [List.getElem?_eq_getElem hl]; rfl
  rw [opA_list, e]
  unfold opB
  rw [List.take_succ_eq_append_getElem hl, List.any_append]
  congr 1
  simp only [List.any_cons, List.any_nil, Bool.or_false]
  rw [Bool.eq_iff_iff, beq_iff_eq, beq_iff_eq]
  exact eq_comm

theorem opB_of {s : ByteArray} {k : Nat} (hk : k < 15) (h : opB s (k + 1) = true) : opB s 15 = true := by
  unfold opB at *
  rw [List.any_eq_true] at *
  obtain ⟨x, hx, e⟩ := h
  exact ⟨x, (List.take_subset_take_left (l := ops) (by omega : k + 1 ≤ 15)) hx, e⟩

theorem kwA_list (k : Nat) : (kwA k).toList = kws[k]?.getD [] := by simp [kwA, ByteArray.toList_eq]

theorem kwB_succ (s : ByteArray) (k : Nat) (hk : k < 10) : kwB s (k + 1) = (kwB s k || ((kwA k).toList == s.toList)) := by
  have hl : k < kws.length := hk
  have e : kws[k]?.getD [] = kws[k] := by rw [List.getElem?_eq_getElem hl]; rfl
  rw [kwA_list, e]
  unfold kwB
  rw [List.take_succ_eq_append_getElem hl, List.any_append]
  congr 1
  simp only [List.any_cons, List.any_nil, Bool.or_false]
  rw [Bool.eq_iff_iff, beq_iff_eq, beq_iff_eq]
  exact eq_comm

theorem kwB_of {s : ByteArray} {k : Nat} (hk : k < 10) (h : kwB s (k + 1) = true) : kwB s 10 = true := by
  unfold kwB at *
  rw [List.any_eq_true] at *
  obtain ⟨x, hx, e⟩ := h
  exact ⟨x, (List.take_subset_take_left (l := kws) (by omega : k + 1 ≤ 10)) hx, e⟩

theorem ikw_any (s : ByteArray) (w : World) :
    Calls Tryz.prog 112 #[.string s] w fun e w' => e = .returned (.bool (kwB s 10)) ∧ w' = w := by
  go_enter Tryz.func112, Tryz.ntmps112
  go_wp2
  all_goals go_ret
  all_goals first | (exfalso; simp_all; done) | skip
  all_goals refine ⟨?_, rfl⟩
  all_goals simp [kwB, kws, *]

theorem kw_row (w : World) : (w.alloc (Obj.cells #[Value.string { data := #[108, 101, 116] }, Value.string { data := #[105, 110] }, Value.string { data := #[114, 101, 99] }, Value.string { data := #[119, 105, 116, 104] }, Value.string { data := #[105, 102] }, Value.string { data := #[116, 104, 101, 110] }, Value.string { data := #[101, 108, 115, 101] }, Value.string { data := #[105, 110, 104, 101, 114, 105, 116] }, Value.string { data := #[97, 115, 115, 101, 114, 116] }, Value.string { data := #[111, 114] }] 9)).rowIs w.heap.size 9 10 (fun k => .string (kwA k)) :=
  World.rowIs_alloc w _ 9 _ (fun i hi => by
    match i, hi with
    | 0, _ => rfl
    | 1, _ => rfl
    | 2, _ => rfl
    | 3, _ => rfl
    | 4, _ => rfl
    | 5, _ => rfl
    | 6, _ => rfl
    | 7, _ => rfl
    | 8, _ => rfl
    | 9, _ => rfl)

theorem op_row (w : World) : (w.alloc (Obj.cells #[Value.string { data := #[45, 62] }, Value.string { data := #[124, 124] }, Value.string { data := #[38, 38] }, Value.string { data := #[61, 61] }, Value.string { data := #[33, 61] }, Value.string { data := #[60] }, Value.string { data := #[60, 61] }, Value.string { data := #[62] }, Value.string { data := #[62, 61] }, Value.string { data := #[47, 47] }, Value.string { data := #[43] }, Value.string { data := #[45] }, Value.string { data := #[42] }, Value.string { data := #[47] }, Value.string { data := #[43, 43] }] 9)).rowIs w.heap.size 9 15 (fun k => .string (opA k)) :=
  World.rowIs_alloc w _ 9 _ (fun i hi => by
    match i, hi with
    | 0, _ => rfl
    | 1, _ => rfl
    | 2, _ => rfl
    | 3, _ => rfl
    | 4, _ => rfl
    | 5, _ => rfl
    | 6, _ => rfl
    | 7, _ => rfl
    | 8, _ => rfl
    | 9, _ => rfl
    | 10, _ => rfl
    | 11, _ => rfl
    | 12, _ => rfl
    | 13, _ => rfl
    | 14, _ => rfl)

theorem skw_any (s : ByteArray) (w : World) :
    Calls Tryz.prog 92 #[.string s] w fun e w' => e = .returned (.bool (kwB s 10)) ∧ Below w.heap.size w w' := by
  go_enter Tryz.func92, Tryz.ntmps92
  go_wp2
  go_loopw [4] (fun i wr => ∃ k : Nat, k ≤ 10 ∧ i = .int .i64 k ∧ kwB s k = false ∧ wr.rowIs w.heap.size 9 10 (fun k => .string (kwA k)) ∧ Below w.heap.size w wr) (fun i _ => 10 - (intOf i).toNat)
  case atStart => exact ⟨0, Nat.zero_le _, rfl, rfl, kw_row w, (Below.refl _ _).alloc (Nat.le_refl _) _⟩
  case round =>
    obtain ⟨k, hk, rfl, hno, hrow, hbel⟩ := hrel
    by_cases hlt : k < 10
    · have hck := hrow.cell hlt
      have hs : Hid (kwB s (k + 1) = (kwB s k || ((kwA k).toList == s.toList))) := kwB_succ s k hlt
      have hf : ∀ b, ((kwA k).toList == s.toList) = b → kwB s (k + 1) = b := fun b h => by rw [hs.out, hno, h]; rfl
      have hF : Hid (∀ b, ((kwA k).toList == s.toList) = b → kwB s (k + 1) = b) := hf
      clear hf
      by_cases he : ((kwA k).toList == s.toList) = true
      · go_wp2
        go_ret
        exact ⟨ret_bool (kwB_of hlt (hF.out _ he)).symm, hbel⟩
      · have he' : ((kwA k).toList == s.toList) = false := by simpa using he
        clear he
        go_wp2
        go_roundw
        case rel => exact ⟨k + 1, by omega, by go_num, hF.out _ he', hrow, hbel⟩
        case measure => simp [intOf]; omega
    · obtain rfl : k = 10 := by omega
      go_wp2
      go_ret
      exact ⟨ret_bool hno.symm, hbel⟩

theorem sop_any (s : ByteArray) (w : World) :
    Calls Tryz.prog 62 #[.string s] w fun e w' => e = .returned (.bool (opB s 15)) ∧ Below w.heap.size w w' := by
  go_enter Tryz.func62, Tryz.ntmps62
  go_wp2
  go_loopw [4] (fun i wr => ∃ k : Nat, k ≤ 15 ∧ i = .int .i64 k ∧ opB s k = false ∧ wr.rowIs w.heap.size 9 15 (fun k => .string (opA k)) ∧ Below w.heap.size w wr) (fun i _ => 15 - (intOf i).toNat)
  case atStart => exact ⟨0, Nat.zero_le _, rfl, rfl, op_row w, (Below.refl _ _).alloc (Nat.le_refl _) _⟩
  case round =>
    obtain ⟨k, hk, rfl, hno, hrow, hbel⟩ := hrel
    by_cases hlt : k < 15
    · have hck := hrow.cell hlt
      have hs : Hid (opB s (k + 1) = (opB s k || ((opA k).toList == s.toList))) := opB_succ s k hlt
      have hf : ∀ b, ((opA k).toList == s.toList) = b → opB s (k + 1) = b := fun b h => by rw [hs.out, hno, h]; rfl
      have hF : Hid (∀ b, ((opA k).toList == s.toList) = b → opB s (k + 1) = b) := hf
      clear hf
      by_cases he : ((opA k).toList == s.toList) = true
      · go_wp2
        go_ret
        exact ⟨ret_bool (opB_of hlt (hF.out _ he)).symm, hbel⟩
      · have he' : ((opA k).toList == s.toList) = false := by simpa using he
        clear he
        go_wp2
        go_roundw
        case rel => exact ⟨k + 1, by omega, by go_num, hF.out _ he', hrow, hbel⟩
        case measure => simp [intOf]; omega
    · obtain rfl : k = 15 := by omega
      go_wp2
      go_ret
      exact ⟨ret_bool hno.symm, hbel⟩

theorem iop_any (s : ByteArray) (w : World) (hB : BetB w) :
    Calls Tryz.prog 96 #[.string s] w fun e w' => e = .returned (.bool (opB s 15)) ∧ Below w.heap.size w w' := by
  obtain ⟨tt, fr, hg1⟩ := hB
  go_enter Tryz.func96, Tryz.ntmps96
  go_wp2_with (refine wpList_load_row rfl 189 _ rfl 1 rfl tt BET fr _ hg1 Tryz.underlying189 rfl (by kernel_rfl) ?_)
  clear hg1
  go_loopw [4, 6] (fun _ i wr => ∃ k : Nat, k ≤ 15 ∧ i = .int .i64 k ∧ opB s k = false ∧ Below w.heap.size w wr) (fun _ i _ => 15 - (intOf i).toNat)
  case atStart => exact ⟨0, by omega, rfl, rfl, Below.refl _ _⟩
  case round =>
    obtain ⟨k, hk, rfl, hno, hbel⟩ := hrel
    have hsz := hbel.size
    by_cases hlt : k < 15
    · have hix := bix_at k hlt
      have hs : Hid (opB s (k + 1) = (opB s k || ((opA k).toList == s.toList))) := opB_succ s k hlt
      have hF : Hid (∀ b, ((opA k).toList == s.toList) = b → opB s (k + 1) = b) := fun b h => by rw [hs.out, hno, h]; rfl
      by_cases he : ((opA k).toList == s.toList) = true
      · go_wp2
        go_ret
        exact ⟨ret_bool (opB_of hlt (hF.out _ he)).symm, hbel.alloc hsz _⟩
      · have he' : ((opA k).toList == s.toList) = false := by simpa using he
        clear he
        go_wp2
        go_roundw
        case rel => exact ⟨k + 1, by omega, by go_num, hF.out _ he', hbel.alloc hsz _⟩
        case measure => simp [intOf]; omega
    · obtain rfl : k = 15 := by omega
      go_wp2
      go_ret
      exact ⟨ret_bool hno.symm, hbel⟩

theorem isX_any (k : Int) (w : World) : Calls Tryz.prog 21 #[.int .i64 k] w fun e w' => e = .returned (.bool (isX k)) ∧ w' = w := by
  go_enter Tryz.func21, Tryz.ntmps21
  go_wp2
  all_goals go_ret
  all_goals refine ⟨ret_bool ?_, rfl⟩
  all_goals (rw [Bool.eq_iff_iff]; simp [isX]; try omega)

theorem mayA_any (k a : Int) (w : World) : Calls Tryz.prog 64 #[.int .i64 k, .int .i64 a] w fun e w' => e = .returned (.bool (mayA k a)) ∧ w' = w := by
  go_enter Tryz.func64, Tryz.ntmps64
  go_wp2
  all_goals go_ret
  all_goals refine ⟨ret_bool ?_, rfl⟩
  all_goals (rw [Bool.eq_iff_iff]; simp [mayA]; try omega)

theorem exprK_any (k : Int) (w : World) : Calls Tryz.prog 18 #[.int .i64 k] w fun e w' => e = .returned (.bool (exprK k)) ∧ w' = w := by
  go_enter Tryz.func18, Tryz.ntmps18
  go_wp2
  all_goals go_ret
  all_goals refine ⟨ret_bool ?_, rfl⟩
  all_goals (rw [Bool.eq_iff_iff]; simp [exprK]; try omega)

end Go.Proofs.YtifgaaemdojmpaaGreatDoor.ex

namespace Go.Proofs.YtifgaaemdojmpaaGreatDoor.ex
open Go.ChangeShapes Go.WideShapes Go.ChangeAt Go.RowKit Go.Deep
set_option linter.unusedVariables false
set_option linter.unusedSimpArgs false

def SHP : Array Value := #[.int .i64 0, .int .i64 0, .int .i64 0, .int .i64 0, .int .i64 0, .int .i64 0, .int .i64 0, .int .i64 0, .int .i64 0, .int .i64 9007199254740992, .int .i64 0, .int .i64 0, .int .i64 0, .int .i64 1, .int .i64 0, .int .i64 0, .int .i64 0, .int .i64 0, .int .i64 2, .int .i64 0, .int .i64 0, .int .i64 0, .int .i64 3000, .int .i64 0, .int .i64 0, .int .i64 6, .int .i64 0, .int .i64 0, .int .i64 0, .int .i64 1, .int .i64 0, .int .i64 1, .int .i64 1, .int .i64 2, .int .i64 0, .int .i64 0, .int .i64 0, .int .i64 0, .int .i64 2, .int .i64 0, .int .i64 6, .int .i64 1, .int .i64 1, .int .i64 0, .int .i64 0, .int .i64 0, .int .i64 2, .int .i64 2, .int .i64 0, .int .i64 0, .int .i64 0, .int .i64 2, .int .i64 2, .int .i64 0, .int .i64 0, .int .i64 0, .int .i64 2, .int .i64 2, .int .i64 0, .int .i64 0, .int .i64 0, .int .i64 3, .int .i64 3, .int .i64 0, .int .i64 0, .int .i64 0, .int .i64 1, .int .i64 1, .int .i64 2, .int .i64 0, .int .i64 15, .int .i64 1, .int .i64 1, .int .i64 0, .int .i64 1, .int .i64 0, .int .i64 0, .int .i64 1, .int .i64 2, .int .i64 0, .int .i64 0, .int .i64 1, .int .i64 2, .int .i64 2, .int .i64 0, .int .i64 0, .int .i64 1, .int .i64 1, .int .i64 2, .int .i64 0, .int .i64 0, .int .i64 2, .int .i64 2, .int .i64 3, .int .i64 0, .int .i64 0, .int .i64 1, .int .i64 1, .int .i64 0, .int .i64 0, .int .i64 0, .int .i64 1, .int .i64 1, .int .i64 0, .int .i64 0]

/-- The table of shapes, in its own block. -/
def ShpB (w : World) : Prop := ∃ t fr, w.heap[0]? = some (.cells SHP t fr)

theorem ShpB.below {w w' : World} (h : ShpB w) (hb : Below w.heap.size w w') : ShpB w' := by
  obtain ⟨t, fr, h⟩ := h
  exact ⟨t, fr, by rw [hb.block 0 (Array.getElem?_eq_some_iff.1 h).1]; exact h⟩

theorem shp_at {m : Nat} (hm : 1 ≤ m ∧ m ≤ 20) : SHP[m * 5]? = some (.int .i64 (aheadOf m)) ∧ SHP[m * 5 + 1]? = some (.int .i64 (leastOf m)) ∧ SHP[m * 5 + 2]? = some (.int .i64 (mostOf m)) ∧ SHP[m * 5 + 3]? = some (.int .i64 (useOf m)) ∧ SHP[m * 5 + 4]? = some (.int .i64 (mostN m)) := by
  have h : m = 1 ∨ m = 2 ∨ m = 3 ∨ m = 4 ∨ m = 5 ∨ m = 6 ∨ m = 7 ∨ m = 8 ∨ m = 9 ∨ m = 10 ∨ m = 11 ∨ m = 12 ∨ m = 13 ∨ m = 14 ∨ m = 15 ∨ m = 16 ∨ m = 17 ∨ m = 18 ∨ m = 19 ∨ m = 20 := by omega
  rcases h with rfl | rfl | rfl | rfl | rfl | rfl | rfl | rfl | rfl | rfl | rfl | rfl | rfl | rfl | rfl | rfl | rfl | rfl | rfl | rfl <;> exact ⟨rfl, rfl, rfl, rfl, rfl⟩

theorem ShpB.cells {w : World} (h : ShpB w) {m : Nat} (hm : 1 ≤ m ∧ m ≤ 20) : w.cell? ⟨0, m * 5, none⟩ = some (.int .i64 (aheadOf m)) ∧ w.cell? ⟨0, m * 5 + 1, none⟩ = some (.int .i64 (leastOf m)) ∧ w.cell? ⟨0, m * 5 + 2, none⟩ = some (.int .i64 (mostOf m)) ∧ w.cell? ⟨0, m * 5 + 3, none⟩ = some (.int .i64 (useOf m)) ∧ w.cell? ⟨0, m * 5 + 4, none⟩ = some (.int .i64 (mostN m)) := by
  obtain ⟨t, fr, h⟩ := h
  simp only [World.cell?, h]
  exact shp_at hm

theorem word_first {s : ByteArray} (hp : 0 < s.size) (h : lx.isFirst s[0] = false) : wordB s = false := by
  unfold wordB
  split
  · rfl
  · rename_i b r hb
    have : s[0] = b := by
      have h1 : s.data.toList[0]? = some s[0] := by rw [List.getElem?_eq_getElem (by simpa using hp)]; rfl
      rw [hb] at h1
      simpa using h1.symm
    rw [this] at h
    simp [h]

theorem run_whole {f : UInt8 → Bool} : ∀ (l : List UInt8), (lx.run f l = l.length) ↔ l.all f = true
  | [] => by simp [lx.run]
  | b :: r => by
    have ih := run_whole (f := f) r
    have hr := lx.run_le f r
    unfold lx.run at *
    by_cases h : f b = true
    · simp [List.takeWhile_cons, h] at *
      exact ih
    · simp [List.takeWhile_cons, h]

theorem word_rest {s : ByteArray} (hp : 0 < s.size) (h : lx.isFirst s[0] = true) (hk : kwB s 10 = false) : wordB s = decide (lx.run lx.isWord (lx.suf s 0) = s.size ∧ s.size ≤ 60) := by
  unfold wordB
  split
  · rename_i hb
    have := congrArg List.length hb
    simp at this
    rw [this] at hp
    simp at hp
  · rename_i b r hb
    have h0 : s[0] = b := by
      have h1 : s.data.toList[0]? = some s[0] := by rw [List.getElem?_eq_getElem (by simpa using hp)]; rfl
      rw [hb] at h1
      simpa using h1.symm
    rw [h0] at h
    have hw := run_whole (f := lx.isWord) (lx.suf s 0)
    have hl := lx.suf_len s 0
    have hs : lx.suf s 0 = b :: r := by simp [lx.suf, hb]
    rw [hl, Nat.sub_zero] at hw
    rw [h, hk, Bool.true_and, Bool.not_false, Bool.and_true, ← hs, Bool.eq_iff_iff]
    simp only [Bool.and_eq_true, decide_eq_true_eq]
    rw [hw]

theorem optV_word (l : List UInt8) : ∃ a b c, lx.optV (lx.word l) = .tuple #[.agg #[.int .i64 a, .string b, .int .i64 c, .int .i64 0], .int .i64 (if 60 < lx.run lx.isWord l then 0 else (lx.run lx.isWord l : Int))] := by
  unfold lx.word
  split
  · exact ⟨_, _, _, rfl⟩
  · exact ⟨_, _, _, rfl⟩

theorem word_kw {s : ByteArray} (hk : kwB s 10 = true) : wordB s = false := by
  unfold wordB
  split <;> simp [hk]

theorem empty_iff (s : ByteArray) : s.toList.isEmpty = true ↔ s.size = 0 := by
  simp [ByteArray.toList_eq, ← ByteArray.size_data]

set_option maxRecDepth 100000 in
theorem plain_any (s : ByteArray) (hs : s.size ≤ 1048576) (w : World) :
    Calls Tryz.prog 95 #[.string s] w fun e w' => e = .returned (.bool (wordB s)) ∧ Below w.heap.size w w' := by
  by_cases hp : 0 < s.size
  · have he : s.toList.isEmpty = false := by rw [Bool.eq_false_iff]; intro h; have := (empty_iff s).1 h; omega
    have hpi : (0 : Int) < (s.size : Int) := by omega
    have hb255 : (s[0].toNat : Int) ≤ 255 := by have := s[0].toNat_lt; omega
    cases hf : lx.isFirst s[0] with
    | false =>
      have HW : Hid (wordB s = false) := word_first hp hf
      go_enter Tryz.func95, Tryz.ntmps95
      go_wp2_with (go_at_call 111; refine (lx.inWord_yes _ _).mono ?_; rw [hf]; rintro e w' ⟨rfl, rfl⟩)
      go_ret
      exact ⟨ret_bool HW.out.symm, Below.refl _ _⟩
    | true =>
      cases hk : kwB s 10 with
      | true =>
        have HW : Hid (wordB s = false) := word_kw hk
        go_enter Tryz.func95, Tryz.ntmps95
        go_wp2_with (first
          | (go_at_call 111; refine (lx.inWord_yes _ _).mono ?_; rw [hf]; rintro e w' ⟨rfl, rfl⟩)
          | (go_at_call 112; refine (ikw_any _ _).mono ?_; rw [hk]; rintro e w' ⟨rfl, rfl⟩))
        go_ret
        exact ⟨ret_bool HW.out.symm, Below.refl _ _⟩
      | false =>
        have HW : Hid (wordB s = decide (lx.run lx.isWord (lx.suf s 0) = s.size ∧ s.size ≤ 60)) := word_rest hp hf hk
        obtain ⟨a, b, c, ho⟩ := optV_word (lx.suf s 0)
        go_enter Tryz.func95, Tryz.ntmps95
        go_wp2_with (first
          | (go_at_call 111; refine (lx.inWord_yes _ _).mono ?_; rw [hf]; rintro e w' ⟨rfl, rfl⟩)
          | (go_at_call 112; refine (ikw_any _ _).mono ?_; rw [hk]; rintro e w' ⟨rfl, rfl⟩)
          | (go_at_call 113; refine (lx.wordOf_any _ hs hp hf _).mono ?_; rw [ho]; rintro e w1 ⟨rfl, hl1⟩))
        all_goals go_ret
        all_goals refine ⟨ret_bool ?_, hl1.alloc (hl1.size) _⟩
        all_goals (rw [HW.out, Bool.eq_iff_iff]; simp; omega)
  · have he : s.toList.isEmpty = true := (empty_iff s).2 (by omega)
    have HW : Hid (wordB s = false) := by
      show wordB s = false
      unfold wordB
      split
      · rfl
      · rename_i b r hb
        have := congrArg List.length hb
        simp at this
        omega
    go_enter Tryz.func95, Tryz.ntmps95
    go_wp2
    go_ret
    exact ⟨ret_bool HW.out.symm, Below.refl _ _⟩

set_option maxRecDepth 100000 in
theorem fits_any (s : ByteArray) (u : Int) (hu : 0 ≤ u ∧ u ≤ 3) (hs : s.size ≤ 1048576) (w : World) (hE : es.EscB w) (hB : BetB w) :
    Calls Tryz.prog 63 #[.string s, .int .i64 u] w fun e w' => e = .returned (.bool (textB s u)) ∧ Below w.heap.size w w' := by
  have h : u = 0 ∨ u = 1 ∨ u = 2 ∨ u = 3 := by omega
  rcases h with rfl | rfl | rfl | rfl
  · go_enter Tryz.func63, Tryz.ntmps63
    go_wp2
    go_ret
    exact ⟨ret_bool (by simp [textB]), Below.refl _ _⟩
  · go_enter Tryz.func63, Tryz.ntmps63
    go_wp2_with (go_at_call 94; refine (es.impl_any _ hs _ hE).mono ?_; rintro e w1 ⟨rfl, hl1⟩)
    go_ret
    exact ⟨ret_bool (by simp [textB]), hl1⟩
  · go_enter Tryz.func63, Tryz.ntmps63
    go_wp2_with (go_at_call 95; refine (plain_any _ hs _).mono ?_; rintro e w1 ⟨rfl, hl1⟩)
    go_ret
    exact ⟨ret_bool (by simp [textB]), hl1⟩
  · go_enter Tryz.func63, Tryz.ntmps63
    go_wp2_with (go_at_call 96; refine (iop_any _ _ hB).mono ?_; rintro e w1 ⟨rfl, hl1⟩)
    go_ret
    exact ⟨ret_bool (by simp [textB]), hl1⟩

theorem two_bel (w : World) (x y : Obj) : Below w.heap.size w ((w.alloc x).alloc y) := ((Below.refl _ _).alloc (Nat.le_refl _) _).alloc (by simp) _

theorem use_le (k : Int) : 0 ≤ useOf k ∧ useOf k ≤ 3 := by
  unfold useOf
  repeat' split
  all_goals omega

set_option maxRecDepth 100000 in
set_option maxHeartbeats 1000000 in
theorem head_any (k n z : Int) (s : ByteArray) (hs : s.size ≤ 1048576) (w : World) (hE : es.EscB w) (hB : BetB w) (hS : ShpB w) :
    Calls Tryz.prog 48 #[.agg #[.int .i64 k, .string s, .int .i64 n, .int .i64 z]] w fun e w' => e = .returned (.bool (headB ⟨k, s, n, z⟩)) ∧ Below w.heap.size w w' := by
  by_cases hk : okKind k = true
  · have hk' := hk
    simp only [okKind, decide_eq_true_eq] at hk'
    obtain ⟨m, rfl⟩ : ∃ m : Nat, k = m := ⟨k.toNat, by omega⟩
    have h1 : ¬ (m : Int) < 1 := by omega
    have h2 : ¬ (20 : Int) < (m : Int) := by omega
    have HH : Hid (headB ⟨m, s, n, z⟩ = (decide (0 ≤ n ∧ n ≤ mostN m) && textB s (useOf m))) := by
      show headB _ = _
      simp only [headB, hk, Bool.true_and, nB]
    have b1 : Below w.heap.size w (w.alloc (.cells #[.int .i64 m, .string s, .int .i64 n, .int .i64 z] 27)) := (Below.refl _ _).alloc (Nat.le_refl _) _
    obtain ⟨c0, c1, c2, c3, c4⟩ := (hS.below b1).cells (m := m) (by omega)
    clear hk hk'
    by_cases hn : 0 ≤ n ∧ n ≤ mostN m
    · have hn0 : 0 ≤ n := hn.1
      have hn1 : n ≤ mostN m := hn.2
      go_enter Tryz.func48, Tryz.ntmps48
      go_wp2_with (go_at_call 63; refine (fits_any _ _ (use_le _) hs _ (hE.below (two_bel _ _ _)) (hB.below (two_bel _ _ _))).mono ?_; rintro e w1 ⟨rfl, hl1⟩)
      go_ret
      exact ⟨ret_bool (by rw [HH.out]; simp [hn0, hn1]), (two_bel _ _ _).trans (hl1.mono (by simp; omega))⟩
    · by_cases hn0 : 0 ≤ n
      · have hn1 : ¬ n ≤ mostN m := fun h => hn ⟨hn0, h⟩
        clear hn
        go_enter Tryz.func48, Tryz.ntmps48
        go_wp2
        go_ret
        exact ⟨ret_bool (by rw [HH.out]; simp [hn0]; omega), two_bel _ _ _⟩
      · clear hn
        go_enter Tryz.func48, Tryz.ntmps48
        go_wp2
        go_ret
        exact ⟨ret_bool (by rw [HH.out]; simp; omega), two_bel _ _ _⟩
  · have hk' : ¬ (1 ≤ k ∧ k ≤ 20) := by simpa [okKind] using hk
    have HH : Hid (headB ⟨k, s, n, z⟩ = false) := by
      show headB _ = _
      have : okKind k = false := by simpa using hk
      simp [headB, this]
    clear hk
    by_cases h1 : k < 1
    · go_enter Tryz.func48, Tryz.ntmps48
      go_wp2
      go_ret
      exact ⟨ret_bool HH.out.symm, (Below.refl _ _).alloc (Nat.le_refl _) _⟩
    · have h2 : 20 < k := by omega
      go_enter Tryz.func48, Tryz.ntmps48
      go_wp2
      go_ret
      exact ⟨ret_bool HH.out.symm, (Below.refl _ _).alloc (Nat.le_refl _) _⟩

end Go.Proofs.YtifgaaemdojmpaaGreatDoor.ex

namespace Go.Proofs.YtifgaaemdojmpaaGreatDoor.ex
open Go.ChangeShapes Go.WideShapes Go.ChangeAt Go.RowKit Go.Deep
set_option linter.unusedVariables false
set_option linter.unusedSimpArgs false

/-- A list of nodes in a block. -/
def XsB (w : World) (b n : Nat) (E : Nat → Ex) : Prop := ∀ i, i < n → w.cell? ⟨b, i * 4, none⟩ = some (.int .i64 (E i).kind) ∧ w.cell? ⟨b, i * 4 + 1, none⟩ = some (.string (E i).text) ∧ w.cell? ⟨b, i * 4 + 2, none⟩ = some (.int .i64 (E i).n) ∧ w.cell? ⟨b, i * 4 + 3, none⟩ = some (.int .i64 (E i).size)

theorem XsB.below {w w' : World} {b n : Nat} {E : Nat → Ex} (h : XsB w b n E) (hb : Below w.heap.size w w') : XsB w' b n E := by
  intro i hi
  obtain ⟨h0, h1, h2, h3⟩ := h i hi
  have hl : b < w.heap.size := World.block_lt_of_cell? _ _ h0
  exact ⟨(hb.cell (p := ⟨b, _, none⟩) hl).trans h0, (hb.cell (p := ⟨b, _, none⟩) hl).trans h1, (hb.cell (p := ⟨b, _, none⟩) hl).trans h2, (hb.cell (p := ⟨b, _, none⟩) hl).trans h3⟩

def lenV : Value → Nat | .slice _ n _ => n | _ => 0

/-- A part as a slice: the capacity goes to C. -/
def partV (E : Nat → Ex) (b C q : Nat) : Value := .slice (some ⟨b, q * 4, none⟩) ((E q).size.toNat + 1) (C - q)

theorem infoX : (Tryz.prog.info? 28).map (fun i => (i.zero, i.size, i.bytes)) = some (some (.slice none 0 0), 1, 24) := by kernel_rfl

theorem parts_one (E : Nat → Ex) (b C : Nat) (l : List Nat) : ∀ u ∈ l.map (partV E b C), u.oneCell' = true := by
  intro u hu
  obtain ⟨q, _, rfl⟩ := List.mem_map.1 hu
  rfl

theorem own_none (w : World) (e : TypeId) : (w.alloc (.cells #[] e)).ownsRow w.heap.size e 1 (.slice (some ⟨w.heap.size, 0, none⟩) 0 0) 0 [] := World.ownsRow_made w #[] 0 (Nat.le_refl _) (by decide) rfl

abbrev SZX : Value := .func (.func 30) #[] #[]

theorem sizeOf_any (k n z : Int) (s : ByteArray) (w : World) : Calls Tryz.prog 30 #[.agg #[.int .i64 k, .string s, .int .i64 n, .int .i64 z]] w fun e w' => e = .returned (.int .i64 z) ∧ Below w.heap.size w w' := by
  go_enter Tryz.func30, Tryz.ntmps30
  go_wp2
  go_ret
  exact ⟨rfl, (Below.refl _ _).alloc (Nat.le_refl _) _⟩

set_option maxRecDepth 100000 in
set_option maxHeartbeats 1000000 in
theorem cut_any (E : Nat → Ex) (b n p len cap : Nat) (a : Option Addr) (w : World) (hX : XsB w b n E) (hp : p + len ≤ n) (hn : n ≤ 3000) (hc : len ≤ cap ∧ cap ≤ 9223372036854775807) (ha : len = 0 ∨ a = some ⟨b, p * 4, none⟩) :
    Calls Tryz.prog 29 #[.slice a len cap, SZX] w fun e w' => (cutP E p len = none ∧ e = .returned (.tuple #[.slice none 0 0, .bool false]) ∨ ∃ ps v, cutP E p len = some ps ∧ e = .returned (.tuple #[v, .bool true]) ∧ w'.ownsRow w.heap.size 28 1 v ps.length (ps.map (partV E b (p + cap)))) ∧ Below w.heap.size w w' := by
  go_enter Tryz.func29, Tryz.ntmps29
  go_wp2
  go_loopw [0, 6, 7] (fun es v _ wr => ∃ (q : Nat) (pre : List Nat) (a' : Option Addr), p ≤ q ∧ q ≤ p + len ∧ pre.length ≤ q - p ∧ es = .slice a' (p + len - q) (p + cap - q) ∧ (p + len - q = 0 ∨ a' = some ⟨b, q * 4, none⟩) ∧ cutP E p len = (cutP E q (p + len - q)).map (pre ++ ·) ∧ wr.ownsRow w.heap.size 28 1 v pre.length (pre.map (partV E b (p + cap))) ∧ Below w.heap.size w wr) (fun es _ _ _ => lenV es)
  case atStart => exact ⟨p, [], a, Nat.le_refl _, by omega, by simp, by rw [Nat.add_sub_cancel_left, Nat.add_sub_cancel_left], by rw [Nat.add_sub_cancel_left]; exact ha, by rw [Nat.add_sub_cancel_left]; simp, own_none w _, (Below.refl _ _).alloc (Nat.le_refl _) _⟩
  case round =>
    obtain ⟨q, pre, a', hq0, hq1, hpl, rfl, ha', hcut, hown, hbel⟩ := hrel
    have HC : Hid (cutP E p len = (cutP E q (p + len - q)).map (pre ++ ·)) := hcut
    clear hcut
    have hsz := hbel.size
    obtain ⟨L, hL⟩ : ∃ L, p + len - q = L := ⟨_, rfl⟩
    obtain ⟨C, hC⟩ : ∃ C, p + cap - q = C := ⟨_, rfl⟩
    rw [hL] at ha' HC ⊢
    rw [hC]
    by_cases h0 : 0 < L
    · have h0' : (0 : Int) < (L : Int) := by omega
      rcases ha' with ha' | rfl
      · omega
      obtain ⟨g0, g1, g2, g3⟩ := (hX.below hbel) q (by omega)
      by_cases hb : (E q).size < 0 ∨ (L : Int) ≤ (E q).size
      · have HN : Hid (cutP E p len = none) := by show _ = _; rw [HC.out, cut_bad h0 hb]; rfl
        by_cases hb0 : (E q).size < 0
        · clear hb
          go_wp2_with (go_at_call 30; refine (sizeOf_any _ _ _ _ _).mono ?_; rintro e w1 ⟨rfl, hl1⟩)
          go_ret2
          exact ⟨.inl ⟨HN.out, rfl⟩, hbel.trans (hl1.mono hsz)⟩
        · have hb1 : (L : Int) ≤ (E q).size := by omega
          clear hb
          go_wp2_with (go_at_call 30; refine (sizeOf_any _ _ _ _ _).mono ?_; rintro e w1 ⟨rfl, hl1⟩)
          go_ret2
          exact ⟨.inl ⟨HN.out, rfl⟩, hbel.trans (hl1.mono hsz)⟩
      · have HS : Hid (cutP E q L = (cutP E (q + ((E q).size.toNat + 1)) (L - ((E q).size.toNat + 1))).map (q :: ·)) := cut_step h0 hb
        have hb0 : ¬ (E q).size < 0 := by omega
        have hb1 : ¬ (L : Int) ≤ (E q).size := by omega
        obtain ⟨z, hz⟩ : ∃ z : Nat, (E q).size = z := ⟨(E q).size.toNat, by omega⟩
        have hpv : partV E b (p + cap) q = .slice (some ⟨b, q * 4, none⟩) (z + 1) C := by simp [partV, hz, hC]
        have hz' : (E q).size.toNat = z := by omega
        clear hb
        rw [hz] at g3 hb0 hb1
        rw [hz'] at HS
        have HZ : Hid ((E q).size = z) := hz
        clear hz hz'
        go_wp2_with (first
          | (go_at_call 30; refine (sizeOf_any _ _ _ _ _).mono ?_; rintro e w1 ⟨rfl, hl1⟩; have hown1 := own_below hown hl1; have hbel1 := hbel.trans (hl1.mono hsz); have hsz1 := hbel1.size)
          | (at_builtin; refine app_own _ rfl _ _ 68 rfl w.heap.size 28 (.slice none 0 0) 24 Tryz.underlying68 infoX rfl _ _ _ rfl (hown1.alloc _) ⟨w1.heap.size, 0, none⟩ 1 1 [.slice (some ⟨b, q * 4, none⟩) (z + 1) C] rfl rfl (one_new _ _ _) ?c2 ?c3 ?c4 ?c5 ?_)
          | go_in)
        case c2 => first | rfl | (intro u hu; simp at hu; subst hu; rfl)
        case c3 => unfold maxLen; omega
        case c4 => omega
        case c5 => first | omega | (simp; omega)
        intro v' w' hown' hg
        have hb' := below_grown (hbel1.alloc hsz1 _) (hown1.alloc _) hg (by simp; omega)
        rw [← hpv, ← List.map_singleton (f := partV E b (p + cap)) (a := q), ← List.map_append] at hown'
        clear hown hown1 hg hpv
        go_wp2
        go_roundw
        case rel =>
          refine ⟨q + (z + 1), pre ++ [q], (if C = z + 1 then some ⟨b, q * 4, none⟩ else some ⟨b, q * 4 + (z + 1) * 4, none⟩), by omega, by omega, by simp; omega, ?_, ?_, ?_, by simpa using hown', hb'⟩
          · rw [show p + len - (q + (z + 1)) = L - (z + 1) by omega, show p + cap - (q + (z + 1)) = C - (z + 1) by omega]
          · by_cases hCz : C = z + 1
            · exact .inl (by omega)
            · right
              rw [if_neg hCz, show (q + (z + 1)) * 4 = q * 4 + (z + 1) * 4 by omega]
          · rw [HC.out, HS.out, show p + len - (q + (z + 1)) = L - (z + 1) by omega, Option.map_map]
            congr 1
            funext x
            simp
        case measure => simp [lenV]; omega
    · go_wp2
      go_ret2
      refine ⟨.inr ⟨pre, _, ?_, rfl, hown⟩, hbel⟩
      obtain rfl : L = 0 := by omega
      rw [HC.out, cut_zero]
      simp

end Go.Proofs.YtifgaaemdojmpaaGreatDoor.ex
