import Derived.Test.YtihjdggmmmlpkaaDoorWA
import Derived.Maps.Own
import Derived.Maps.OwnOps
import Derived.Maps.OwnSet
import Derived.Maps.Views
namespace Go.Proofs.YtihjdggmmmlpkaaDoor.wd
open Go.ChangeShapes Go.WideShapes Go.ChangeAt Go.RowKit Go.Deep Go.Maps
set_option linter.unusedVariables false

def LETC : Array Value := (LET.map fun b => Value.int .u8 (b.toNat : Int)).toArray

/-- The table's own block. -/
def TabB (w : World) : Prop := ∃ t fr, w.heap[0]? = some (.cells LETC t fr)

theorem TabB.below {w w' : World} (h : TabB w) (hb : Below w.heap.size w w') : TabB w' := by
  obtain ⟨t, fr, h⟩ := h
  exact ⟨t, fr, by rw [hb.block 0 (Array.getElem?_eq_some_iff.1 h).1]; exact h⟩

theorem idx0 (w : World) : (Instr.index 73 (.agg LETC) (.int .i64 0)).run Tryd.prog w = .ok (.int .u8 ((letU 0).toNat : Int)) w := by kernel_rfl
theorem idx1 (w : World) : (Instr.index 73 (.agg LETC) (.int .i64 1)).run Tryd.prog w = .ok (.int .u8 ((letU 1).toNat : Int)) w := by kernel_rfl
theorem idx2 (w : World) : (Instr.index 73 (.agg LETC) (.int .i64 2)).run Tryd.prog w = .ok (.int .u8 ((letU 2).toNat : Int)) w := by kernel_rfl
theorem idx3 (w : World) : (Instr.index 73 (.agg LETC) (.int .i64 3)).run Tryd.prog w = .ok (.int .u8 ((letU 3).toNat : Int)) w := by kernel_rfl
theorem idx4 (w : World) : (Instr.index 73 (.agg LETC) (.int .i64 4)).run Tryd.prog w = .ok (.int .u8 ((letU 4).toNat : Int)) w := by kernel_rfl
theorem idx5 (w : World) : (Instr.index 73 (.agg LETC) (.int .i64 5)).run Tryd.prog w = .ok (.int .u8 ((letU 5).toNat : Int)) w := by kernel_rfl
theorem idx6 (w : World) : (Instr.index 73 (.agg LETC) (.int .i64 6)).run Tryd.prog w = .ok (.int .u8 ((letU 6).toNat : Int)) w := by kernel_rfl
theorem idx7 (w : World) : (Instr.index 73 (.agg LETC) (.int .i64 7)).run Tryd.prog w = .ok (.int .u8 ((letU 7).toNat : Int)) w := by kernel_rfl
theorem idx8 (w : World) : (Instr.index 73 (.agg LETC) (.int .i64 8)).run Tryd.prog w = .ok (.int .u8 ((letU 8).toNat : Int)) w := by kernel_rfl
theorem idx9 (w : World) : (Instr.index 73 (.agg LETC) (.int .i64 9)).run Tryd.prog w = .ok (.int .u8 ((letU 9).toNat : Int)) w := by kernel_rfl
theorem idx10 (w : World) : (Instr.index 73 (.agg LETC) (.int .i64 10)).run Tryd.prog w = .ok (.int .u8 ((letU 10).toNat : Int)) w := by kernel_rfl
theorem idx11 (w : World) : (Instr.index 73 (.agg LETC) (.int .i64 11)).run Tryd.prog w = .ok (.int .u8 ((letU 11).toNat : Int)) w := by kernel_rfl
theorem idx12 (w : World) : (Instr.index 73 (.agg LETC) (.int .i64 12)).run Tryd.prog w = .ok (.int .u8 ((letU 12).toNat : Int)) w := by kernel_rfl
theorem idx13 (w : World) : (Instr.index 73 (.agg LETC) (.int .i64 13)).run Tryd.prog w = .ok (.int .u8 ((letU 13).toNat : Int)) w := by kernel_rfl
theorem idx14 (w : World) : (Instr.index 73 (.agg LETC) (.int .i64 14)).run Tryd.prog w = .ok (.int .u8 ((letU 14).toNat : Int)) w := by kernel_rfl
theorem idx15 (w : World) : (Instr.index 73 (.agg LETC) (.int .i64 15)).run Tryd.prog w = .ok (.int .u8 ((letU 15).toNat : Int)) w := by kernel_rfl
theorem idx16 (w : World) : (Instr.index 73 (.agg LETC) (.int .i64 16)).run Tryd.prog w = .ok (.int .u8 ((letU 16).toNat : Int)) w := by kernel_rfl
theorem idx17 (w : World) : (Instr.index 73 (.agg LETC) (.int .i64 17)).run Tryd.prog w = .ok (.int .u8 ((letU 17).toNat : Int)) w := by kernel_rfl
theorem idx18 (w : World) : (Instr.index 73 (.agg LETC) (.int .i64 18)).run Tryd.prog w = .ok (.int .u8 ((letU 18).toNat : Int)) w := by kernel_rfl
theorem idx19 (w : World) : (Instr.index 73 (.agg LETC) (.int .i64 19)).run Tryd.prog w = .ok (.int .u8 ((letU 19).toNat : Int)) w := by kernel_rfl
theorem idx20 (w : World) : (Instr.index 73 (.agg LETC) (.int .i64 20)).run Tryd.prog w = .ok (.int .u8 ((letU 20).toNat : Int)) w := by kernel_rfl
theorem idx21 (w : World) : (Instr.index 73 (.agg LETC) (.int .i64 21)).run Tryd.prog w = .ok (.int .u8 ((letU 21).toNat : Int)) w := by kernel_rfl
theorem idx22 (w : World) : (Instr.index 73 (.agg LETC) (.int .i64 22)).run Tryd.prog w = .ok (.int .u8 ((letU 22).toNat : Int)) w := by kernel_rfl
theorem idx23 (w : World) : (Instr.index 73 (.agg LETC) (.int .i64 23)).run Tryd.prog w = .ok (.int .u8 ((letU 23).toNat : Int)) w := by kernel_rfl
theorem idx24 (w : World) : (Instr.index 73 (.agg LETC) (.int .i64 24)).run Tryd.prog w = .ok (.int .u8 ((letU 24).toNat : Int)) w := by kernel_rfl
theorem idx25 (w : World) : (Instr.index 73 (.agg LETC) (.int .i64 25)).run Tryd.prog w = .ok (.int .u8 ((letU 25).toNat : Int)) w := by kernel_rfl
theorem idx26 (w : World) : (Instr.index 73 (.agg LETC) (.int .i64 26)).run Tryd.prog w = .ok (.int .u8 ((letU 26).toNat : Int)) w := by kernel_rfl
theorem idx27 (w : World) : (Instr.index 73 (.agg LETC) (.int .i64 27)).run Tryd.prog w = .ok (.int .u8 ((letU 27).toNat : Int)) w := by kernel_rfl
theorem idx28 (w : World) : (Instr.index 73 (.agg LETC) (.int .i64 28)).run Tryd.prog w = .ok (.int .u8 ((letU 28).toNat : Int)) w := by kernel_rfl
theorem idx29 (w : World) : (Instr.index 73 (.agg LETC) (.int .i64 29)).run Tryd.prog w = .ok (.int .u8 ((letU 29).toNat : Int)) w := by kernel_rfl
theorem idx30 (w : World) : (Instr.index 73 (.agg LETC) (.int .i64 30)).run Tryd.prog w = .ok (.int .u8 ((letU 30).toNat : Int)) w := by kernel_rfl
theorem idx31 (w : World) : (Instr.index 73 (.agg LETC) (.int .i64 31)).run Tryd.prog w = .ok (.int .u8 ((letU 31).toNat : Int)) w := by kernel_rfl
theorem idx_at (k : Nat) (hk : k < 32) (w : World) : (Instr.index 73 (.agg LETC) (.int .i64 ((k : Nat) : Int))).run Tryd.prog w = .ok (.int .u8 ((letU k).toNat : Int)) w := by
  have h : k = 0 ∨ k = 1 ∨ k = 2 ∨ k = 3 ∨ k = 4 ∨ k = 5 ∨ k = 6 ∨ k = 7 ∨ k = 8 ∨ k = 9 ∨ k = 10 ∨ k = 11 ∨ k = 12 ∨ k = 13 ∨ k = 14 ∨ k = 15 ∨ k = 16 ∨ k = 17 ∨ k = 18 ∨ k = 19 ∨ k = 20 ∨ k = 21 ∨ k = 22 ∨ k = 23 ∨ k = 24 ∨ k = 25 ∨ k = 26 ∨ k = 27 ∨ k = 28 ∨ k = 29 ∨ k = 30 ∨ k = 31 := by omega
  rcases h with rfl | rfl | rfl | rfl | rfl | rfl | rfl | rfl | rfl | rfl | rfl | rfl | rfl | rfl | rfl | rfl | rfl | rfl | rfl | rfl | rfl | rfl | rfl | rfl | rfl | rfl | rfl | rfl | rfl | rfl | rfl | rfl
  · exact idx0 w
  · exact idx1 w
  · exact idx2 w
  · exact idx3 w
  · exact idx4 w
  · exact idx5 w
  · exact idx6 w
  · exact idx7 w
  · exact idx8 w
  · exact idx9 w
  · exact idx10 w
  · exact idx11 w
  · exact idx12 w
  · exact idx13 w
  · exact idx14 w
  · exact idx15 w
  · exact idx16 w
  · exact idx17 w
  · exact idx18 w
  · exact idx19 w
  · exact idx20 w
  · exact idx21 w
  · exact idx22 w
  · exact idx23 w
  · exact idx24 w
  · exact idx25 w
  · exact idx26 w
  · exact idx27 w
  · exact idx28 w
  · exact idx29 w
  · exact idx30 w
  · exact idx31 w

theorem law5 : Keyed Tryd.prog 5 := int_keyed Tryd.underlying5
theorem zero22 (w : World) : (zeroValue 74).run Tryd.prog w = .ok (.int .u64 0) w := by kernel_rfl
theorem mk37 (w : World) : (Instr.makeMap 42 (some (.int .i64 32))).run Tryd.prog w = .ok (.map (some w.heap.size)) (w.alloc (.map #[] 0)) := by kernel_rfl

def lit8 (c : UInt8) : Lit := .int .u8 (c.toNat : Int)
def lvD : Nat → DataW Unit
  | 0 => .map []
  | k + 1 => (lvD k).put (lit8 (letU k)) (.lit (.int .u64 (k : Int)))

theorem wf8 (c : UInt8) : (Lit.int .u8 (c.toNat : Int)).wf = true := by
  have := c.toNat_lt
  simp [Lit.wf, IntKind.min, IntKind.max, IntKind.signed, IntKind.bits]; omega

set_option maxRecDepth 100000 in
theorem lv_any (w : World) (hT : TabB w) :
    Calls Tryd.prog 18 #[] w fun e w' => e = .returned (.map (some w.heap.size)) ∧ w'.ownsMap Tryd.prog 5 (plainElem Tryd.prog 74) w.heap.size 32 (lvD 32) ∧ Below w.heap.size w w' := by
  have hmk := mk37
  have hbel0 : Below w.heap.size w (w.alloc (.map #[] 0)) := (Below.refl _ _).alloc (Nat.le_refl _) _
  obtain ⟨tt, fr, hg1⟩ := hT.below hbel0
  go_enter Tryd.func18, Tryd.ntmps18
  go_wp2_with (refine wpList_load_row rfl 73 _ rfl 0 rfl tt LETC fr _ hg1 Tryd.underlying73 rfl (by kernel_rfl) ?_)
  clear hmk hg1
  go_loopw [2, 3, 6] (fun _ _ i wr => ∃ k : Nat, k ≤ 32 ∧ i = .int .i64 k ∧ wr.ownsMap Tryd.prog 5 (plainElem Tryd.prog 74) w.heap.size k (lvD k) ∧ Below w.heap.size w wr) (fun _ _ i _ => 32 - (intOf i).toNat)
  case atStart => exact ⟨0, by omega, rfl, World.ownsMap_made _ _ _ _, hbel0⟩
  case round =>
    obtain ⟨k, hk, rfl, hown, hbel⟩ := hrel
    by_cases hlt : k < 32
    · have hix := idx_at k hlt
      have hkey : keyOf Tryd.prog 5 (.int .u8 ((letU k).toNat : Int)) = some (lit8 (letU k)) := keyOf_int_mk Tryd.underlying5 (wf8 _)
      have hwf : (Lit.int .u64 (k : Int)).wf = true := by simp [Lit.wf, IntKind.min, IntKind.max, IntKind.signed, IntKind.bits]; omega
      go_wp2_with (first
        | (at_mapUpdate; refine wpList_mapUpdate_own _ rfl _ _ _ 42 rfl 5 74 law5 Tryd.underlying42 _ w.heap.size k _ rfl hown (by unfold maxLen; omega) _ _ _ rfl rfl hkey _ [] (plainElem_int Tryd.underlying74 hwf) ?_)
        | go_in)
      intro w1 hown1 hg1
      go_wp2
      go_roundw
      case rel => exact ⟨k + 1, by omega, by go_num, hown1, hbel.grown hg1 hbel.size (fun j hj => by cases hj; exact Nat.le_refl _)⟩
      case measure => simp [intOf]; omega
    · obtain rfl : k = 32 := by omega
      go_wp2
      go_ret
      exact ⟨rfl, hown, hbel⟩

end Go.Proofs.YtihjdggmmmlpkaaDoor.wd
