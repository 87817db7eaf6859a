import Derived.Test.YthklplfpnciodaaGreatDoorXM
import Derived.Test.YthklplfpnciodaaGreatDoorXW
namespace Go.Proofs.YthklplfpnciodaaGreatDoor.ex
open Go.ChangeShapes Go.WideShapes Go.ChangeAt Go.RowKit Go.Deep
set_option linter.unusedVariables false
set_option linter.unusedSimpArgs false

def BET : Array Value := #[.string ⟨#[45, 62]⟩, .int .i64 2, .string ⟨#[124, 124]⟩, .int .i64 3, .string ⟨#[38, 38]⟩, .int .i64 4, .string ⟨#[61, 61]⟩, .int .i64 5, .string ⟨#[33, 61]⟩, .int .i64 5, .string ⟨#[60]⟩, .int .i64 6, .string ⟨#[60, 61]⟩, .int .i64 6, .string ⟨#[62]⟩, .int .i64 6, .string ⟨#[62, 61]⟩, .int .i64 6, .string ⟨#[47, 47]⟩, .int .i64 7, .string ⟨#[43]⟩, .int .i64 9, .string ⟨#[45]⟩, .int .i64 9, .string ⟨#[42]⟩, .int .i64 10, .string ⟨#[47]⟩, .int .i64 10, .string ⟨#[43, 43]⟩, .int .i64 11]
def lvl : Nat → Int | 0 => 2 | 1 => 3 | 2 => 4 | 3 => 5 | 4 => 5 | 5 => 6 | 6 => 6 | 7 => 6 | 8 => 6 | 9 => 7 | 10 => 9 | 11 => 9 | 12 => 10 | 13 => 10 | _ => 11

/-- The table of signs that stand between, in its own block. -/
def BetB (w : World) : Prop := ∃ t fr, w.heap[1]? = some (.cells BET t fr)

theorem BetB.below {w w' : World} (h : BetB w) (hb : Below w.heap.size w w') : BetB w' := by
  obtain ⟨t, fr, h⟩ := h
  exact ⟨t, fr, by rw [hb.block 1 (Array.getElem?_eq_some_iff.1 h).1]; exact h⟩

theorem bix0 (w : World) : (Instr.index 164 (.agg BET) (.int .i64 0)).run Tryz.prog w = .ok (.agg #[.string (opA 0), .int .i64 (lvl 0)]) w := by kernel_rfl
theorem bix1 (w : World) : (Instr.index 164 (.agg BET) (.int .i64 1)).run Tryz.prog w = .ok (.agg #[.string (opA 1), .int .i64 (lvl 1)]) w := by kernel_rfl
theorem bix2 (w : World) : (Instr.index 164 (.agg BET) (.int .i64 2)).run Tryz.prog w = .ok (.agg #[.string (opA 2), .int .i64 (lvl 2)]) w := by kernel_rfl
theorem bix3 (w : World) : (Instr.index 164 (.agg BET) (.int .i64 3)).run Tryz.prog w = .ok (.agg #[.string (opA 3), .int .i64 (lvl 3)]) w := by kernel_rfl
theorem bix4 (w : World) : (Instr.index 164 (.agg BET) (.int .i64 4)).run Tryz.prog w = .ok (.agg #[.string (opA 4), .int .i64 (lvl 4)]) w := by kernel_rfl
theorem bix5 (w : World) : (Instr.index 164 (.agg BET) (.int .i64 5)).run Tryz.prog w = .ok (.agg #[.string (opA 5), .int .i64 (lvl 5)]) w := by kernel_rfl
theorem bix6 (w : World) : (Instr.index 164 (.agg BET) (.int .i64 6)).run Tryz.prog w = .ok (.agg #[.string (opA 6), .int .i64 (lvl 6)]) w := by kernel_rfl
theorem bix7 (w : World) : (Instr.index 164 (.agg BET) (.int .i64 7)).run Tryz.prog w = .ok (.agg #[.string (opA 7), .int .i64 (lvl 7)]) w := by kernel_rfl
theorem bix8 (w : World) : (Instr.index 164 (.agg BET) (.int .i64 8)).run Tryz.prog w = .ok (.agg #[.string (opA 8), .int .i64 (lvl 8)]) w := by kernel_rfl
theorem bix9 (w : World) : (Instr.index 164 (.agg BET) (.int .i64 9)).run Tryz.prog w = .ok (.agg #[.string (opA 9), .int .i64 (lvl 9)]) w := by kernel_rfl
theorem bix10 (w : World) : (Instr.index 164 (.agg BET) (.int .i64 10)).run Tryz.prog w = .ok (.agg #[.string (opA 10), .int .i64 (lvl 10)]) w := by kernel_rfl
theorem bix11 (w : World) : (Instr.index 164 (.agg BET) (.int .i64 11)).run Tryz.prog w = .ok (.agg #[.string (opA 11), .int .i64 (lvl 11)]) w := by kernel_rfl
theorem bix12 (w : World) : (Instr.index 164 (.agg BET) (.int .i64 12)).run Tryz.prog w = .ok (.agg #[.string (opA 12), .int .i64 (lvl 12)]) w := by kernel_rfl
theorem bix13 (w : World) : (Instr.index 164 (.agg BET) (.int .i64 13)).run Tryz.prog w = .ok (.agg #[.string (opA 13), .int .i64 (lvl 13)]) w := by kernel_rfl
theorem bix14 (w : World) : (Instr.index 164 (.agg BET) (.int .i64 14)).run Tryz.prog w = .ok (.agg #[.string (opA 14), .int .i64 (lvl 14)]) w := by kernel_rfl
theorem bix_at (k : Nat) (hk : k < 15) (w : World) : (Instr.index 164 (.agg BET) (.int .i64 ((k : Nat) : Int))).run Tryz.prog w = .ok (.agg #[.string (opA k), .int .i64 (lvl k)]) w := by
  match k, hk with
  | 0, _ => exact bix0 w
  | 1, _ => exact bix1 w
  | 2, _ => exact bix2 w
  | 3, _ => exact bix3 w
  | 4, _ => exact bix4 w
  | 5, _ => exact bix5 w
  | 6, _ => exact bix6 w
  | 7, _ => exact bix7 w
  | 8, _ => exact bix8 w
  | 9, _ => exact bix9 w
  | 10, _ => exact bix10 w
  | 11, _ => exact bix11 w
  | 12, _ => exact bix12 w
  | 13, _ => exact bix13 w
  | 14, _ => exact bix14 w

theorem opA_list (k : Nat) : (opA k).toList = ops[k]?.getD [] := by simp [opA, ByteArray.toList_eq]

theorem opB_succ (s : ByteArray) (k : Nat) (hk : k < 15) : opB s (k + 1) = (opB s k || ((opA k).toList == s.toList)) := by
  have hl : k < ops.length := hk
  have e : ops[k]?.getD [] = ops[k] := by rw [List.getElem?_eq_getElem hl]; rfl
  rw [opA_list, e]
  unfold opB
  rw [List.take_succ_eq_append_getElem hl, List.any_append]
  congr 1
  simp only [List.any_cons, List.any_nil, Bool.or_false]
  rw [Bool.eq_iff_iff, beq_iff_eq, beq_iff_eq]
  exact eq_comm

theorem opB_of {s : ByteArray} {k : Nat} (hk : k < 15) (h : opB s (k + 1) = true) : opB s 15 = true := by
  unfold opB at *
  rw [List.any_eq_true] at *
  obtain ⟨x, hx, e⟩ := h
  exact ⟨x, (List.take_subset_take_left (l := ops) (by omega : k + 1 ≤ 15)) hx, e⟩

theorem kwA_list (k : Nat) : (kwA k).toList = kws[k]?.getD [] := by simp [kwA, ByteArray.toList_eq]

theorem kwB_succ (s : ByteArray) (k : Nat) (hk : k < 10) : kwB s (k + 1) = (kwB s k || ((kwA k).toList == s.toList)) := by
  have hl : k < kws.length := hk
  have e : kws[k]?.getD [] = kws[k] := by rw [List.getElem?_eq_getElem hl]; rfl
  rw [kwA_list, e]
  unfold kwB
  rw [List.take_succ_eq_append_getElem hl, List.any_append]
  congr 1
  simp only [List.any_cons, List.any_nil, Bool.or_false]
  rw [Bool.eq_iff_iff, beq_iff_eq, beq_iff_eq]
  exact eq_comm

theorem kwB_of {s : ByteArray} {k : Nat} (hk : k < 10) (h : kwB s (k + 1) = true) : kwB s 10 = true := by
  unfold kwB at *
  rw [List.any_eq_true] at *
  obtain ⟨x, hx, e⟩ := h
  exact ⟨x, (List.take_subset_take_left (l := kws) (by omega : k + 1 ≤ 10)) hx, e⟩

theorem ikw_any (s : ByteArray) (w : World) :
    Calls Tryz.prog 90 #[.string s] w fun e w' => e = .returned (.bool (kwB s 10)) ∧ w' = w := by
  go_enter Tryz.func90, Tryz.ntmps90
  go_wp2
  all_goals go_ret
  all_goals first | (exfalso; simp_all; done) | skip
  all_goals refine ⟨?_, rfl⟩
  all_goals simp [kwB, kws, *]

theorem kw_row (w : World) : (w.alloc (Obj.cells #[Value.string { data := #[108, 101, 116] }, Value.string { data := #[105, 110] }, Value.string { data := #[114, 101, 99] }, Value.string { data := #[119, 105, 116, 104] }, Value.string { data := #[105, 102] }, Value.string { data := #[116, 104, 101, 110] }, Value.string { data := #[101, 108, 115, 101] }, Value.string { data := #[105, 110, 104, 101, 114, 105, 116] }, Value.string { data := #[97, 115, 115, 101, 114, 116] }, Value.string { data := #[111, 114] }] 9)).rowIs w.heap.size 9 10 (fun k => .string (kwA k)) :=
  World.rowIs_alloc w _ 9 _ (fun i hi => by
    match i, hi with
    | 0, _ => rfl
    | 1, _ => rfl
    | 2, _ => rfl
    | 3, _ => rfl
    | 4, _ => rfl
    | 5, _ => rfl
    | 6, _ => rfl
    | 7, _ => rfl
    | 8, _ => rfl
    | 9, _ => rfl)

theorem op_row (w : World) : (w.alloc (Obj.cells #[Value.string { data := #[45, 62] }, Value.string { data := #[124, 124] }, Value.string { data := #[38, 38] }, Value.string { data := #[61, 61] }, Value.string { data := #[33, 61] }, Value.string { data := #[60] }, Value.string { data := #[60, 61] }, Value.string { data := #[62] }, Value.string { data := #[62, 61] }, Value.string { data := #[47, 47] }, Value.string { data := #[43] }, Value.string { data := #[45] }, Value.string { data := #[42] }, Value.string { data := #[47] }, Value.string { data := #[43, 43] }] 9)).rowIs w.heap.size 9 15 (fun k => .string (opA k)) :=
  World.rowIs_alloc w _ 9 _ (fun i hi => by
    match i, hi with
    | 0, _ => rfl
    | 1, _ => rfl
    | 2, _ => rfl
    | 3, _ => rfl
    | 4, _ => rfl
    | 5, _ => rfl
    | 6, _ => rfl
    | 7, _ => rfl
    | 8, _ => rfl
    | 9, _ => rfl
    | 10, _ => rfl
    | 11, _ => rfl
    | 12, _ => rfl
    | 13, _ => rfl
    | 14, _ => rfl)

theorem skw_any (s : ByteArray) (w : World) :
    Calls Tryz.prog 76 #[.string s] w fun e w' => e = .returned (.bool (kwB s 10)) ∧ Below w.heap.size w w' := by
  go_enter Tryz.func76, Tryz.ntmps76
  go_wp2
  go_loopw [4] (fun i wr => ∃ k : Nat, k ≤ 10 ∧ i = .int .i64 k ∧ kwB s k = false ∧ wr.rowIs w.heap.size 9 10 (fun k => .string (kwA k)) ∧ Below w.heap.size w wr) (fun i _ => 10 - (intOf i).toNat)
  case atStart => exact ⟨0, Nat.zero_le _, rfl, rfl, kw_row w, (Below.refl _ _).alloc (Nat.le_refl _) _⟩
  case round =>
    obtain ⟨k, hk, rfl, hno, hrow, hbel⟩ := hrel
    by_cases hlt : k < 10
    · have hck := hrow.cell hlt
      have hs : Hid (kwB s (k + 1) = (kwB s k || ((kwA k).toList == s.toList))) := kwB_succ s k hlt
      have hf : ∀ b, ((kwA k).toList == s.toList) = b → kwB s (k + 1) = b := fun b h => by rw [hs.out, hno, h]; rfl
      have hF : Hid (∀ b, ((kwA k).toList == s.toList) = b → kwB s (k + 1) = b) := hf
      clear hf
      by_cases he : ((kwA k).toList == s.toList) = true
      · go_wp2
        go_ret
        exact ⟨ret_bool (kwB_of hlt (hF.out _ he)).symm, hbel⟩
      · have he' : ((kwA k).toList == s.toList) = false := by simpa using he
        clear he
        go_wp2
        go_roundw
        case rel => exact ⟨k + 1, by omega, by go_num, hF.out _ he', hrow, hbel⟩
        case measure => simp [intOf]; omega
    · obtain rfl : k = 10 := by omega
      go_wp2
      go_ret
      exact ⟨ret_bool hno.symm, hbel⟩

theorem sop_any (s : ByteArray) (w : World) :
    Calls Tryz.prog 60 #[.string s] w fun e w' => e = .returned (.bool (opB s 15)) ∧ Below w.heap.size w w' := by
  go_enter Tryz.func60, Tryz.ntmps60
  go_wp2
  go_loopw [4] (fun i wr => ∃ k : Nat, k ≤ 15 ∧ i = .int .i64 k ∧ opB s k = false ∧ wr.rowIs w.heap.size 9 15 (fun k => .string (opA k)) ∧ Below w.heap.size w wr) (fun i _ => 15 - (intOf i).toNat)
  case atStart => exact ⟨0, Nat.zero_le _, rfl, rfl, op_row w, (Below.refl _ _).alloc (Nat.le_refl _) _⟩
  case round =>
    obtain ⟨k, hk, rfl, hno, hrow, hbel⟩ := hrel
    by_cases hlt : k < 15
    · have hck := hrow.cell hlt
      have hs : Hid (opB s (k + 1) = (opB s k || ((opA k).toList == s.toList))) := opB_succ s k hlt
      have hf : ∀ b, ((opA k).toList == s.toList) = b → opB s (k + 1) = b := fun b h => by rw [hs.out, hno, h]; rfl
      have hF : Hid (∀ b, ((opA k).toList == s.toList) = b → opB s (k + 1) = b) := hf
      clear hf
      by_cases he : ((opA k).toList == s.toList) = true
      · go_wp2
        go_ret
        exact ⟨ret_bool (opB_of hlt (hF.out _ he)).symm, hbel⟩
      · have he' : ((opA k).toList == s.toList) = false := by simpa using he
        clear he
        go_wp2
        go_roundw
        case rel => exact ⟨k + 1, by omega, by go_num, hF.out _ he', hrow, hbel⟩
        case measure => simp [intOf]; omega
    · obtain rfl : k = 15 := by omega
      go_wp2
      go_ret
      exact ⟨ret_bool hno.symm, hbel⟩

theorem iop_any (s : ByteArray) (w : World) (hB : BetB w) :
    Calls Tryz.prog 80 #[.string s] w fun e w' => e = .returned (.bool (opB s 15)) ∧ Below w.heap.size w w' := by
  obtain ⟨tt, fr, hg1⟩ := hB
  go_enter Tryz.func80, Tryz.ntmps80
  go_wp2_with (refine wpList_load_row rfl 164 _ rfl 1 rfl tt BET fr _ hg1 Tryz.underlying164 rfl (by kernel_rfl) ?_)
  clear hg1
  go_loopw [4, 6] (fun _ i wr => ∃ k : Nat, k ≤ 15 ∧ i = .int .i64 k ∧ opB s k = false ∧ Below w.heap.size w wr) (fun _ i _ => 15 - (intOf i).toNat)
  case atStart => exact ⟨0, by omega, rfl, rfl, Below.refl _ _⟩
  case round =>
    obtain ⟨k, hk, rfl, hno, hbel⟩ := hrel
    have hsz := hbel.size
    by_cases hlt : k < 15
    · have hix := bix_at k hlt
      have hs : Hid (opB s (k + 1) = (opB s k || ((opA k).toList == s.toList))) := opB_succ s k hlt
      have hF : Hid (∀ b, ((opA k).toList == s.toList) = b → opB s (k + 1) = b) := fun b h => by rw [hs.out, hno, h]; rfl
      by_cases he : ((opA k).toList == s.toList) = true
      · go_wp2
        go_ret
        exact ⟨ret_bool (opB_of hlt (hF.out _ he)).symm, hbel.alloc hsz _⟩
      · have he' : ((opA k).toList == s.toList) = false := by simpa using he
        clear he
        go_wp2
        go_roundw
        case rel => exact ⟨k + 1, by omega, by go_num, hF.out _ he', hbel.alloc hsz _⟩
        case measure => simp [intOf]; omega
    · obtain rfl : k = 15 := by omega
      go_wp2
      go_ret
      exact ⟨ret_bool hno.symm, hbel⟩

theorem isX_any (k : Int) (w : World) : Calls Tryz.prog 32 #[.int .i64 k] w fun e w' => e = .returned (.bool (isX k)) ∧ w' = w := by
  go_enter Tryz.func32, Tryz.ntmps32
  go_wp2
  all_goals go_ret
  all_goals refine ⟨ret_bool ?_, rfl⟩
  all_goals (rw [Bool.eq_iff_iff]; simp [isX]; try omega)

theorem mayA_any (k a : Int) (w : World) : Calls Tryz.prog 62 #[.int .i64 k, .int .i64 a] w fun e w' => e = .returned (.bool (mayA k a)) ∧ w' = w := by
  go_enter Tryz.func62, Tryz.ntmps62
  go_wp2
  all_goals go_ret
  all_goals refine ⟨ret_bool ?_, rfl⟩
  all_goals (rw [Bool.eq_iff_iff]; simp [mayA]; try omega)

theorem exprK_any (k : Int) (w : World) : Calls Tryz.prog 25 #[.int .i64 k] w fun e w' => e = .returned (.bool (exprK k)) ∧ w' = w := by
  go_enter Tryz.func25, Tryz.ntmps25
  go_wp2
  all_goals go_ret
  all_goals refine ⟨ret_bool ?_, rfl⟩
  all_goals (rw [Bool.eq_iff_iff]; simp [exprK]; try omega)

end Go.Proofs.YthklplfpnciodaaGreatDoor.ex
