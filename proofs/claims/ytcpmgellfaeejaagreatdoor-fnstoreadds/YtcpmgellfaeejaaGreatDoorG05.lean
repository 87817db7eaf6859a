import Derived.Test.YtcpmgellfaeejaaGreatDoorRows
import Derived.Test.YtcpmgellfaeejaaGreatDoorG01
import Derived.Maps.Own
import Derived.Maps.OwnOps
import Derived.Maps.OwnSet
import Derived.Maps.Views
import Derived.Test.YtcpmgellfaeejaaGreatDoorG03
import Derived.Test.YtcpmgellfaeejaaGreatDoorG04
import Derived.Shelf.SlicesE.DeleteFunc
import Derived.Ground.SlgfProg
import Derived.Lib.Hide
namespace Go.Proofs.YtcpmgellfaeejaaGreatDoor.wd
open Go.ChangeShapes Go.WideShapes Go.ChangeAt Go.RowKit Go.Deep
set_option linter.unusedVariables false
def LET : List UInt8 := [48, 49, 50, 51, 52, 53, 54, 55, 56, 57, 97, 98, 99, 100, 102, 103, 104, 105, 106, 107, 108, 109, 110, 112, 113, 114, 115, 118, 119, 120, 121, 122]
def letU (n : Nat) : UInt8 := LET[n]?.getD 0
def dv (X k : Nat) : Nat := X / 32 ^ k
def dm (X k : Nat) : Nat := dv X k % 32
def digit (X k : Nat) : UInt8 := letU (dm X k)
def wordA (X : Nat) : ByteArray := ⟨((List.range 13).map fun j => digit X (12 - j)).toArray⟩
def Tab (w : World) : Prop := ∀ i, i < 32 → w.cell? ⟨0, i, none⟩ = some (.int .u8 ((letU i).toNat : Int))
theorem Tab.below {w w' : World} (h : Tab w) (hb : Below w.heap.size w w') : Tab w' := fun i hi => (hb.cell (World.block_lt_of_cell? _ _ (h i hi))).trans (h i hi)
theorem and31 (X : Nat) (h : X < 18446744073709551616) : bits BinOp.and IntKind.u64 (X : Int) 31 = ((X % 32 : Nat) : Int) := by
 have := bits_and_u64_nat X 31 h (by omega)
 rw [show ((31 : Nat) : Int) = 31 from rfl] at this
 rw [this, show (31 : Nat) = 2 ^ 5 - 1 from rfl, Nat.and_two_pow_sub_one_eq_mod]
theorem wordA_size (X : Nat) : (wordA X).size = 13 := by simp [wordA, ByteArray.size]
theorem dv_step (X k : Nat) : ((dv X k : Nat) : Int) / 32 = ((dv X (k + 1) : Nat) : Int) := by
 have : dv X k / 32 = dv X (k + 1) := by unfold dv; rw [Nat.div_div_eq_div_mul, Nat.pow_succ]
 rw [← this]; rfl
theorem dv_lt (X k : Nat) (h : X < 18446744073709551616) : dv X k < 18446744073709551616 := Nat.lt_of_le_of_lt (Nat.div_le_self _ _) h
theorem dm_lt (X k : Nat) : dm X k < 32 := Nat.mod_lt _ (by omega)
theorem and_dv (X k : Nat) (h : X < 18446744073709551616) : bits BinOp.and IntKind.u64 ((dv X k : Nat) : Int) 31 = ((dm X k : Nat) : Int) := and31 _ (dv_lt X k h)
theorem word_step {w : World} {b t X k : Nat} (hk : k < 13) (h : w.rowIs b t 13 (fun j => .int .u8 (if 12 < j + k then ((digit X (12 - j)).toNat : Int) else 0))) :
  (w.setCell ⟨b, 12 - k, none⟩ (.int .u8 ((digit X k).toNat : Int))).rowIs b t 13 (fun j => .int .u8 (if 12 < j + (k + 1) then ((digit X (12 - j)).toNat : Int) else 0)) :=
 (h.set (12 - k) _).congr fun i hi => by
  by_cases h : i = 12 - k
  ·have e : 12 < i + (k + 1) := by omega
   have e2 : 12 - i = k := by omega
   rw [if_pos h, if_pos e, e2]
  ·have e : (12 < i + (k + 1)) ↔ (12 < i + k) := by omega
   simp [h, e]
theorem word_row {w : World} {b t X : Nat} (h : w.rowIs b t 13 (fun j => .int .u8 (if 12 < j + 13 then ((digit X (12 - j)).toNat : Int) else 0))) : Lib.Bytes w b 0 (wordA X) := fun i hi => by
 have hi' : i < 13 := by simpa [wordA_size] using hi
 have := h.cell hi'
 rw [if_pos (by omega)] at this
 rw [Nat.zero_add, this]
 simp [wordA, ByteArray.getElem_eq_getElem_data]
theorem zero_row (w : World) (X : Nat) : (w.alloc (Obj.cells
  #[Value.int IntKind.u8 0, Value.int IntKind.u8 0, Value.int IntKind.u8 0, Value.int IntKind.u8 0,
   Value.int IntKind.u8 0, Value.int IntKind.u8 0, Value.int IntKind.u8 0, Value.int IntKind.u8 0,
   Value.int IntKind.u8 0, Value.int IntKind.u8 0, Value.int IntKind.u8 0, Value.int IntKind.u8 0,
   Value.int IntKind.u8 0]
  125)).rowIs w.heap.size 125 13 (fun j => .int .u8 (if 12 < j + 0 then ((digit X (12 - j)).toNat : Int) else 0)) :=
 World.rowIs_alloc w _ 125 _ (fun i hi => by
  have hi' : i < 13 := hi
  have e : ¬ 12 < i + 0 := by omega
  simp only [e, if_false]
  match i, hi' with
  | 0, _ => rfl
  | 1, _ => rfl
  | 2, _ => rfl
  | 3, _ => rfl
  | 4, _ => rfl
  | 5, _ => rfl
  | 6, _ => rfl
  | 7, _ => rfl
  | 8, _ => rfl
  | 9, _ => rfl
  | 10, _ => rfl
  | 11, _ => rfl
  | 12, _ => rfl)
theorem impl_any (X : Nat) (h1 : X < 18446744073709551616) (w : World) (hT : Tab w) :
  Calls Tryz.prog 104 #[.int .u64 (X : Int)] w fun e w' => e = .returned (.string (wordA X)) ∧ Below w.heap.size w w' := by
 go_enter Tryz.func104, Tryz.ntmps104
 go_wp2
 go_loopw [0, 4] (fun y i wr => ∃ k : Nat, k ≤ 13 ∧ i = .int .i64 (12 - k) ∧ y = .int .u64 ((dv X k : Nat) : Int) ∧ wr.rowIs w.heap.size 125 13 (fun j => .int .u8 (if 12 < j + k then ((digit X (12 - j)).toNat : Int) else 0)) ∧ Below w.heap.size w wr) (fun _ i _ => (intOf i + 1).toNat)
 case atStart => exact ⟨0, by omega, rfl, by simp [dv], zero_row w X, (Below.refl _ _).alloc (Nat.le_refl _) _⟩
 case round =>
  obtain ⟨k, hk, rfl, rfl, hrow, hbel⟩ := hrel
  by_cases hlt : k < 13
  ·have e31 := and_dv X k h1
   have hm : ((dm X k : Nat) : Int) < 32 := by have := dm_lt X k; omega
   have g0 : wr.cell? ⟨0, dm X k, none⟩ = some (.int .u8 ((digit X k).toNat : Int)) := (hT.below hbel) _ (dm_lt X k)
   have g1 := hrow.cell (i := 12 - k) (by omega)
   have g2 := hrow.frozen (12 - k)
   have eo : ((12 : Int) - (k : Int)).toNat = 12 - k := by omega
   go_wp2
   go_roundw
   case rel => exact ⟨k + 1, by omega, by go_num, by rw [dv_step], word_step hlt hrow, hbel.setCell (Nat.le_refl _) _⟩
   case measure => simp [intOf]; omega
  ·obtain rfl : k = 13 := by omega
   have hconv := fun c => Lib.run_convert_whole (P := Tryz.prog) wr 22 5 9 Tryz.underlying22 Tryz.underlying5 Tryz.underlying9 _ _ _ (word_row hrow) c
   rw [wordA_size] at hconv
   go_wp2
   go_ret
   exact ⟨rfl, hbel⟩
theorem and_sh (X k : Nat) (h : X < 18446744073709551616) : bits BinOp.and IntKind.u64 ((X : Int) / 2 ^ (5 * (12 - k))) 31 = ((dm X (12 - k) : Nat) : Int) := by
 rw [← and_dv X (12 - k) h]
 congr 1
 unfold dv
 rw [Int.natCast_ediv, Int.pow_mul]
 norm_cast
theorem info5 : (Tryz.prog.info? 5).map (fun i => (i.zero, i.size, i.bytes)) = some (some (.int .u8 0), 1, 1) := by kernel_rfl
def wordL (X k : Nat) : List UInt8 := (List.range k).map fun j => digit X (12 - j)
theorem wordL_succ (X k : Nat) : wordL X (k + 1) = wordL X k ++ [digit X (12 - k)] := by simp [wordL, List.range_succ]
theorem let_at (n : Nat) (h : n < 32) : (⟨#[48, 49, 50, 51, 52, 53, 54, 55, 56, 57, 97, 98, 99, 100, 102, 103, 104, 105, 106, 107, 108, 109, 110, 112, 113, 114, 115, 118, 119, 120, 121, 122]⟩ : ByteArray)[n]'h = letU n := by
 unfold letU
 have h' : n < LET.length := h
 rw [List.getElem?_eq_getElem h']
 rfl
theorem spec_any (X : Nat) (h1 : X < 18446744073709551616) (w : World) :
  Calls Tryz.prog 90 #[.int .u64 (X : Int)] w fun e w' => e = .returned (.string (wordA X)) ∧ Below w.heap.size w w' := by
 go_enter Tryz.func90, Tryz.ntmps90
 go_wp2
 go_loopw [3, 4] (fun v i wr => ∃ k : Nat, k ≤ 13 ∧ i = .int .i64 (12 - k) ∧ wr.ownsRow w.heap.size 5 1 v k (byteCells (wordL X k)) ∧ Below w.heap.size w wr) (fun _ i _ => (intOf i + 1).toNat)
 case atStart => exact ⟨0, by omega, rfl, World.ownsRow_made w #[] 0 (Nat.le_refl _) (by decide) rfl, (Below.refl _ _).alloc (Nat.le_refl _) _⟩
 case round =>
  obtain ⟨k, hk, rfl, hown, hbel⟩ := hrel
  have hsz := hbel.size
  by_cases hlt : k < 13
  ·have e31 := and_sh X k h1
   have hm : ((dm X (12 - k) : Nat) : Int) < 32 := by have := dm_lt X (12 - k); omega
   have hidx := let_at (dm X (12 - k)) (dm_lt X (12 - k))
   go_wp2_with (first
    | (at_builtin; refine app_own _ rfl _ _ 22 rfl w.heap.size 5 (.int .u8 0) 1 Tryz.underlying22 info5 rfl _ _ _ rfl (hown.alloc _) ⟨wr.heap.size, 0, none⟩ 1 1 (byteCells [digit X (12 - k)]) rfl rfl ?c1 (byteCells_oneCell _) ?c3 ?c4 ?c5 ?_)
    | go_in)
   case c1 => exact one_new _ _ _
   case c3 => unfold maxLen; omega
   case c4 => omega
   case c5 => simp; omega
   intro v' w' hown' hg
   have hb' := below_grown (hbel.alloc hsz _) (hown.alloc _) hg (by simp; omega)
   rw [← byteCells_append, ← wordL_succ] at hown'
   clear hidx
   go_wp2
   go_roundw
   case rel => exact ⟨k + 1, by omega, by go_num, hown', hb'⟩
   case measure => simp [intOf]; omega
  ·obtain rfl : k = 13 := by omega
   have hconv := own_string (P := Tryz.prog) Tryz.underlying22 Tryz.underlying5 Tryz.underlying9 hown
   go_wp2
   go_ret
   exact ⟨rfl, hbel⟩
end Go.Proofs.YtcpmgellfaeejaaGreatDoor.wd

namespace Go.Proofs.YtcpmgellfaeejaaGreatDoor.wd
open Go.ChangeShapes Go.WideShapes Go.ChangeAt Go.RowKit Go.Deep Go.Maps
set_option linter.unusedVariables false
def LETC : Array Value := (LET.map fun b => Value.int .u8 (b.toNat : Int)).toArray
def TabB (w : World) : Prop := ∃ t fr, w.heap[0]? = some (.cells LETC t fr)
theorem TabB.below {w w' : World} (h : TabB w) (hb : Below w.heap.size w w') : TabB w' := by
 obtain ⟨t, fr, h⟩ := h
 exact ⟨t, fr, by rw [hb.block 0 (Array.getElem?_eq_some_iff.1 h).1]; exact h⟩
theorem idx0 (w : World) : (Instr.index 115 (.agg LETC) (.int .i64 0)).run Tryz.prog w = .ok (.int .u8 ((letU 0).toNat : Int)) w := by kernel_rfl
theorem idx1 (w : World) : (Instr.index 115 (.agg LETC) (.int .i64 1)).run Tryz.prog w = .ok (.int .u8 ((letU 1).toNat : Int)) w := by kernel_rfl
theorem idx2 (w : World) : (Instr.index 115 (.agg LETC) (.int .i64 2)).run Tryz.prog w = .ok (.int .u8 ((letU 2).toNat : Int)) w := by kernel_rfl
theorem idx3 (w : World) : (Instr.index 115 (.agg LETC) (.int .i64 3)).run Tryz.prog w = .ok (.int .u8 ((letU 3).toNat : Int)) w := by kernel_rfl
theorem idx4 (w : World) : (Instr.index 115 (.agg LETC) (.int .i64 4)).run Tryz.prog w = .ok (.int .u8 ((letU 4).toNat : Int)) w := by kernel_rfl
theorem idx5 (w : World) : (Instr.index 115 (.agg LETC) (.int .i64 5)).run Tryz.prog w = .ok (.int .u8 ((letU 5).toNat : Int)) w := by kernel_rfl
theorem idx6 (w : World) : (Instr.index 115 (.agg LETC) (.int .i64 6)).run Tryz.prog w = .ok (.int .u8 ((letU 6).toNat : Int)) w := by kernel_rfl
theorem idx7 (w : World) : (Instr.index 115 (.agg LETC) (.int .i64 7)).run Tryz.prog w = .ok (.int .u8 ((letU 7).toNat : Int)) w := by kernel_rfl
theorem idx8 (w : World) : (Instr.index 115 (.agg LETC) (.int .i64 8)).run Tryz.prog w = .ok (.int .u8 ((letU 8).toNat : Int)) w := by kernel_rfl
theorem idx9 (w : World) : (Instr.index 115 (.agg LETC) (.int .i64 9)).run Tryz.prog w = .ok (.int .u8 ((letU 9).toNat : Int)) w := by kernel_rfl
theorem idx10 (w : World) : (Instr.index 115 (.agg LETC) (.int .i64 10)).run Tryz.prog w = .ok (.int .u8 ((letU 10).toNat : Int)) w := by kernel_rfl
theorem idx11 (w : World) : (Instr.index 115 (.agg LETC) (.int .i64 11)).run Tryz.prog w = .ok (.int .u8 ((letU 11).toNat : Int)) w := by kernel_rfl
theorem idx12 (w : World) : (Instr.index 115 (.agg LETC) (.int .i64 12)).run Tryz.prog w = .ok (.int .u8 ((letU 12).toNat : Int)) w := by kernel_rfl
theorem idx13 (w : World) : (Instr.index 115 (.agg LETC) (.int .i64 13)).run Tryz.prog w = .ok (.int .u8 ((letU 13).toNat : Int)) w := by kernel_rfl
theorem idx14 (w : World) : (Instr.index 115 (.agg LETC) (.int .i64 14)).run Tryz.prog w = .ok (.int .u8 ((letU 14).toNat : Int)) w := by kernel_rfl
theorem idx15 (w : World) : (Instr.index 115 (.agg LETC) (.int .i64 15)).run Tryz.prog w = .ok (.int .u8 ((letU 15).toNat : Int)) w := by kernel_rfl
theorem idx16 (w : World) : (Instr.index 115 (.agg LETC) (.int .i64 16)).run Tryz.prog w = .ok (.int .u8 ((letU 16).toNat : Int)) w := by kernel_rfl
theorem idx17 (w : World) : (Instr.index 115 (.agg LETC) (.int .i64 17)).run Tryz.prog w = .ok (.int .u8 ((letU 17).toNat : Int)) w := by kernel_rfl
theorem idx18 (w : World) : (Instr.index 115 (.agg LETC) (.int .i64 18)).run Tryz.prog w = .ok (.int .u8 ((letU 18).toNat : Int)) w := by kernel_rfl
theorem idx19 (w : World) : (Instr.index 115 (.agg LETC) (.int .i64 19)).run Tryz.prog w = .ok (.int .u8 ((letU 19).toNat : Int)) w := by kernel_rfl
theorem idx20 (w : World) : (Instr.index 115 (.agg LETC) (.int .i64 20)).run Tryz.prog w = .ok (.int .u8 ((letU 20).toNat : Int)) w := by kernel_rfl
theorem idx21 (w : World) : (Instr.index 115 (.agg LETC) (.int .i64 21)).run Tryz.prog w = .ok (.int .u8 ((letU 21).toNat : Int)) w := by kernel_rfl
theorem idx22 (w : World) : (Instr.index 115 (.agg LETC) (.int .i64 22)).run Tryz.prog w = .ok (.int .u8 ((letU 22).toNat : Int)) w := by kernel_rfl
theorem idx23 (w : World) : (Instr.index 115 (.agg LETC) (.int .i64 23)).run Tryz.prog w = .ok (.int .u8 ((letU 23).toNat : Int)) w := by kernel_rfl
theorem idx24 (w : World) : (Instr.index 115 (.agg LETC) (.int .i64 24)).run Tryz.prog w = .ok (.int .u8 ((letU 24).toNat : Int)) w := by kernel_rfl
theorem idx25 (w : World) : (Instr.index 115 (.agg LETC) (.int .i64 25)).run Tryz.prog w = .ok (.int .u8 ((letU 25).toNat : Int)) w := by kernel_rfl
theorem idx26 (w : World) : (Instr.index 115 (.agg LETC) (.int .i64 26)).run Tryz.prog w = .ok (.int .u8 ((letU 26).toNat : Int)) w := by kernel_rfl
theorem idx27 (w : World) : (Instr.index 115 (.agg LETC) (.int .i64 27)).run Tryz.prog w = .ok (.int .u8 ((letU 27).toNat : Int)) w := by kernel_rfl
theorem idx28 (w : World) : (Instr.index 115 (.agg LETC) (.int .i64 28)).run Tryz.prog w = .ok (.int .u8 ((letU 28).toNat : Int)) w := by kernel_rfl
theorem idx29 (w : World) : (Instr.index 115 (.agg LETC) (.int .i64 29)).run Tryz.prog w = .ok (.int .u8 ((letU 29).toNat : Int)) w := by kernel_rfl
theorem idx30 (w : World) : (Instr.index 115 (.agg LETC) (.int .i64 30)).run Tryz.prog w = .ok (.int .u8 ((letU 30).toNat : Int)) w := by kernel_rfl
theorem idx31 (w : World) : (Instr.index 115 (.agg LETC) (.int .i64 31)).run Tryz.prog w = .ok (.int .u8 ((letU 31).toNat : Int)) w := by kernel_rfl
theorem idx_at (k : Nat) (hk : k < 32) (w : World) : (Instr.index 115 (.agg LETC) (.int .i64 ((k : Nat) : Int))).run Tryz.prog w = .ok (.int .u8 ((letU k).toNat : Int)) w := by
 have h : k = 0 ∨ k = 1 ∨ k = 2 ∨ k = 3 ∨ k = 4 ∨ k = 5 ∨ k = 6 ∨ k = 7 ∨ k = 8 ∨ k = 9 ∨ k = 10 ∨ k = 11 ∨ k = 12 ∨ k = 13 ∨ k = 14 ∨ k = 15 ∨ k = 16 ∨ k = 17 ∨ k = 18 ∨ k = 19 ∨ k = 20 ∨ k = 21 ∨ k = 22 ∨ k = 23 ∨ k = 24 ∨ k = 25 ∨ k = 26 ∨ k = 27 ∨ k = 28 ∨ k = 29 ∨ k = 30 ∨ k = 31 := by omega
 rcases h with rfl | rfl | rfl | rfl | rfl | rfl | rfl | rfl | rfl | rfl | rfl | rfl | rfl | rfl | rfl | rfl | rfl | rfl | rfl | rfl | rfl | rfl | rfl | rfl | rfl | rfl | rfl | rfl | rfl | rfl | rfl | rfl
 ·exact idx0 w
 ·exact idx1 w
 ·exact idx2 w
 ·exact idx3 w
 ·exact idx4 w
 ·exact idx5 w
 ·exact idx6 w
 ·exact idx7 w
 ·exact idx8 w
 ·exact idx9 w
 ·exact idx10 w
 ·exact idx11 w
 ·exact idx12 w
 ·exact idx13 w
 ·exact idx14 w
 ·exact idx15 w
 ·exact idx16 w
 ·exact idx17 w
 ·exact idx18 w
 ·exact idx19 w
 ·exact idx20 w
 ·exact idx21 w
 ·exact idx22 w
 ·exact idx23 w
 ·exact idx24 w
 ·exact idx25 w
 ·exact idx26 w
 ·exact idx27 w
 ·exact idx28 w
 ·exact idx29 w
 ·exact idx30 w
 ·exact idx31 w
theorem law5 : Keyed Tryz.prog 5 := int_keyed Tryz.underlying5
theorem zero22 (w : World) : (zeroValue 90).run Tryz.prog w = .ok (.int .u64 0) w := by kernel_rfl
theorem mk37 (w : World) : (Instr.makeMap 75 (some (.int .i64 32))).run Tryz.prog w = .ok (.map (some w.heap.size)) (w.alloc (.map #[] 0)) := by kernel_rfl
def lit8 (c : UInt8) : Lit := .int .u8 (c.toNat : Int)
def lvD : Nat → DataW Unit
 | 0 => .map []
 | k + 1 => (lvD k).put (lit8 (letU k)) (.lit (.int .u64 (k : Int)))
theorem wf8 (c : UInt8) : (Lit.int .u8 (c.toNat : Int)).wf = true := by
 have := c.toNat_lt
 simp [Lit.wf, IntKind.min, IntKind.max, IntKind.signed, IntKind.bits]; omega
set_option maxRecDepth 100000 in
theorem lv_any (w : World) (hT : TabB w) :
  Calls Tryz.prog 61 #[] w fun e w' => e = .returned (.map (some w.heap.size)) ∧ w'.ownsMap Tryz.prog 5 (plainElem Tryz.prog 90) w.heap.size 32 (lvD 32) ∧ Below w.heap.size w w' := by
 have hmk := mk37
 have hbel0 : Below w.heap.size w (w.alloc (.map #[] 0)) := (Below.refl _ _).alloc (Nat.le_refl _) _
 obtain ⟨tt, fr, hg1⟩ := hT.below hbel0
 go_enter Tryz.func61, Tryz.ntmps61
 go_wp2_with (refine wpList_load_row rfl 115 _ rfl 0 rfl tt LETC fr _ hg1 Tryz.underlying115 rfl (by kernel_rfl) ?_)
 clear hmk hg1
 go_loopw [2, 3, 6] (fun _ _ i wr => ∃ k : Nat, k ≤ 32 ∧ i = .int .i64 k ∧ wr.ownsMap Tryz.prog 5 (plainElem Tryz.prog 90) w.heap.size k (lvD k) ∧ Below w.heap.size w wr) (fun _ _ i _ => 32 - (intOf i).toNat)
 case atStart => exact ⟨0, by omega, rfl, World.ownsMap_made _ _ _ _, hbel0⟩
 case round =>
  obtain ⟨k, hk, rfl, hown, hbel⟩ := hrel
  by_cases hlt : k < 32
  ·have hix := idx_at k hlt
   have hkey : keyOf Tryz.prog 5 (.int .u8 ((letU k).toNat : Int)) = some (lit8 (letU k)) := keyOf_int_mk Tryz.underlying5 (wf8 _)
   have hwf : (Lit.int .u64 (k : Int)).wf = true := by simp [Lit.wf, IntKind.min, IntKind.max, IntKind.signed, IntKind.bits]; omega
   go_wp2_with (first
    | (at_mapUpdate; refine wpList_mapUpdate_own _ rfl _ _ _ 75 rfl 5 90 law5 Tryz.underlying75 _ w.heap.size k _ rfl hown (by unfold maxLen; omega) _ _ _ rfl rfl hkey _ [] (plainElem_int Tryz.underlying90 hwf) ?_)
    | go_in)
   intro w1 hown1 hg1
   go_wp2
   go_roundw
   case rel => exact ⟨k + 1, by omega, by go_num, hown1, hbel.grown hg1 hbel.size (fun j hj => by cases hj; exact Nat.le_refl _)⟩
   case measure => simp [intOf]; omega
  ·obtain rfl : k = 32 := by omega
   go_wp2
   go_ret
   exact ⟨rfl, hown, hbel⟩
end Go.Proofs.YtcpmgellfaeejaaGreatDoor.wd

namespace Go.Proofs.YtcpmgellfaeejaaGreatDoor.wd
open Go.ChangeShapes Go.WideShapes Go.ChangeAt Go.RowKit Go.Deep Go.Maps
set_option linter.unusedVariables false
set_option maxRecDepth 100000
def idxTo (c : UInt8) (k : Nat) : Option Nat := (List.range k).find? fun j => letU j == c
def idxI (c : UInt8) : Int := match idxTo c 32 with | some j => (j : Int) | none => -1
theorem idxTo_succ (c : UInt8) (k : Nat) : idxTo c (k + 1) = match idxTo c k with | some j => some j | none => if letU k == c then some k else none := by
 unfold idxTo
 rw [List.range_succ, List.find?_append]
 cases (List.range k).find? fun j => letU j == c with
 | some j => rfl
 | none => simp [List.find?_cons]; split <;> simp_all
theorem idxTo_lt {c : UInt8} {k j : Nat} (h : idxTo c k = some j) : j < k := by
 have := List.mem_of_find?_eq_some h
 simpa using this
theorem idxTo_none {c : UInt8} {k : Nat} (h : idxTo c k = none) (j : Nat) (hj : j < k) : ¬ letU j = c := by
 have := List.find?_eq_none.1 h j (by simpa using hj)
 simpa using this
theorem letU_ne : ∀ i, i < 32 → ∀ j, j < 32 → letU i = letU j → i = j := by decide
theorem idxTo_some {c : UInt8} {k j : Nat} (h : idxTo c k = some j) : letU j = c := by
 have := List.find?_some h
 simpa using this
theorem idxTo_grow {c : UInt8} {k j : Nat} (hk : k < 32) (h : idxTo c (k + 1) = some j) : idxTo c 32 = some j := by
 have : ∀ n, k + 1 + n ≤ 32 → idxTo c (k + 1 + n) = some j := by
  intro n
  induction n with
  | zero => intro _; exact h
  | succ n ih => intro hn; rw [← Nat.add_assoc, idxTo_succ, ih (by omega)]
 have := this (31 - k) (by omega)
 rwa [show k + 1 + (31 - k) = 32 by omega] at this
theorem index_any (c : UInt8) (w : World) :
  Calls Tryz.prog 117 #[.int .u8 (c.toNat : Int)] w fun e w' => e = .returned (.int .i64 (idxI c)) ∧ w' = w := by
 go_enter Tryz.func117, Tryz.ntmps117
 go_wp2
 go_loop [3] (fun i => ∃ k : Nat, k ≤ 32 ∧ i = .int .i64 k ∧ idxTo c k = none) (fun i => 32 - (intOf i).toNat)
 case atStart => exact ⟨0, by omega, rfl, rfl⟩
 case round =>
  obtain ⟨k, hk, rfl, hno⟩ := hrel
  by_cases hlt : k < 32
  ·have hidx := let_at k hlt
   have hs : Hid (idxTo c (k + 1) = if letU k == c then some k else none) := by
    show idxTo c (k + 1) = _
    rw [idxTo_succ, hno]
   by_cases he : letU k = c
   ·have hF : Hid (idxI c = (k : Int)) := by
     show idxI c = _
     have := idxTo_grow hlt (by rw [hs.out, if_pos (by simpa using he)])
     simp [idxI, this]
    have he' : (((letU k).toNat : Int) == (c.toNat : Int)) = true := by rw [he]; simp
    go_wp2
    go_ret
    exact ⟨ret_int hF.out.symm, rfl⟩
   ·have he' : (((letU k).toNat : Int) == (c.toNat : Int)) = false := by
     rw [beq_eq_false_iff_ne]
     intro h
     exact he (UInt8.toNat_inj.1 (by omega))
    go_wp2
    go_round
    case rel => exact ⟨k + 1, by omega, by go_num, by rw [hs.out, if_neg (by simpa using he)]⟩
    case measure => simp [intOf]; omega
  ·obtain rfl : k = 32 := by omega
   go_wp2
   go_ret
   exact ⟨ret_int (by simp [idxI, hno]), rfl⟩
theorem key8 (c : UInt8) : WideAt.IsKeyLit (lit8 c) := trivial
theorem lvD_map (k : Nat) : IsMap (lvD k) := by
 induction k with
 | zero => exact isMap_empty
 | succ k ih => exact ih.put _ _
theorem lit8_inj {a b : UInt8} (h : lit8 a = lit8 b) : a = b := by
 simp only [lit8, Lit.int.injEq, true_and] at h
 exact UInt8.toNat_inj.1 (by omega)
theorem lvD_at (c : UInt8) : ∀ k, k ≤ 32 → has (lvD k) (lit8 c) = (idxTo c k).isSome ∧ (lvD k).atKey (lit8 c) (.lit (.int .u64 0)) = .lit (.int .u64 (((idxTo c k).getD 0 : Nat) : Int)) := by
 intro k
 induction k with
 | zero => intro _; exact ⟨rfl, rfl⟩
 | succ k ih =>
  intro hk
  obtain ⟨h1, h2⟩ := ih (by omega)
  by_cases he : letU k = c
  ·have hn : idxTo c k = none := by
    cases h : idxTo c k with
    | none => rfl
    | some j =>
     have := letU_ne j (by have := idxTo_lt h; omega) k (by omega) ((idxTo_some h).trans he.symm)
     have := idxTo_lt h
     omega
   have hs : idxTo c (k + 1) = some k := by rw [idxTo_succ, hn]; simp [he]
   subst he
   rw [hs]
   exact ⟨has_put_same (lvD_map k) (key8 _) _, atKey_put_same (lvD_map k) (key8 _) _ _⟩
  ·have hne : lit8 c ≠ lit8 (letU k) := fun h => he (lit8_inj h).symm
   have hs : idxTo c (k + 1) = idxTo c k := by
    rw [idxTo_succ]
    cases h : idxTo c k with
    | none => simp [he]
    | some j => rfl
   rw [hs]
   exact ⟨(has_put_other hne _).trans h1, (atKey_put_other hne _ _).trans h2⟩
def rdTo (s : ByteArray) : Nat → Option Nat
 | 0 => some 0
 | k + 1 => match rdTo s k, idxTo (s.data.toList[k]?.getD 0) 32 with
  | some x, some v => if k = 0 ∧ 15 < v then none else some (x * 32 + v)
  | _, _ => none
theorem rd_bd (s : ByteArray) : ∀ k x, rdTo s (k + 1) = some x → 2 * x + 2 ≤ 32 ^ (k + 1) := by
 intro k
 induction k with
 | zero =>
  intro x h
  simp only [rdTo] at h
  split at h
  ·rename_i y v h1 h2
   have := idxTo_lt h2
   split at h
   ·cases h
   ·rename_i hn; simp at hn; cases h; cases h1; omega
  ·cases h
 | succ k ih =>
  intro x h
  unfold rdTo at h
  split at h
  ·rename_i y v h1 h2
   have := idxTo_lt h2
   have := ih y h1
   split at h
   ·cases h
   ·cases h
    rw [Nat.pow_succ]
    omega
  ·cases h
theorem rd_lt {s : ByteArray} {k x : Nat} (hk : k ≤ 12) (h : rdTo s k = some x) : x < 576460752303423488 := by
 match k, hk, h with
 | 0, _, h => cases h; omega
 | k + 1, hk, h =>
  have h1 := rd_bd s k x h
  have h2 : 32 ^ (k + 1) ≤ 32 ^ 12 := Nat.pow_le_pow_right (by omega) hk
  omega
theorem rd_none {s : ByteArray} {k : Nat} (h : rdTo s k = none) (n : Nat) : rdTo s (k + n) = none := by
 induction n with
 | zero => exact h
 | succ n ih => rw [← Nat.add_assoc]; unfold rdTo; rw [ih]
theorem rd_stop {s : ByteArray} {k : Nat} (hk : k < 13) (h : rdTo s (k + 1) = none) : rdTo s 13 = none := by
 have := rd_none h (12 - k)
 rwa [show k + 1 + (12 - k) = 13 by omega] at this
def rwX (s : ByteArray) : Int := if s.size = 13 then (((rdTo s 13).getD 0 : Nat) : Int) else 0
def rwB (s : ByteArray) : Bool := decide (s.size = 13) && (rdTo s 13).isSome
theorem get_at {s : ByteArray} {k : Nat} (h : k < s.size) : s.data.toList[k]?.getD 0 = s[k] := by
 rw [List.getElem?_eq_getElem (by simpa using h)]; rfl
theorem rd_step {s : ByteArray} {k x : Nat} (hk : k < s.size) (hx : rdTo s k = some x) : rdTo s (k + 1) = match idxTo s[k] 32 with | some v => if k = 0 ∧ 15 < v then none else some (x * 32 + v) | none => none := by
 have e := get_at hk
 unfold rdTo
 rw [hx, e]
 cases idxTo s[k] 32 <;> rfl
theorem ret_two {k : IntKind} {a b : Int} {c d : Bool} (h : a = b) (h2 : c = d) : Ending.returned (.tuple #[.int k a, .bool c]) = .returned (.tuple #[.int k b, .bool d]) := by rw [h, h2]
theorem index_none {c : UInt8} (h : Hid (idxTo c 32 = none)) (w : World) :
  Calls Tryz.prog 117 #[.int .u8 (c.toNat : Int)] w fun e w' => e = .returned (.int .i64 (-1)) ∧ w' = w :=
 (index_any c w).mono fun e w' ⟨he, hw⟩ => ⟨he.trans (ret_int (by simp [idxI, h.out])), hw⟩
theorem index_some {c : UInt8} {v : Nat} (h : Hid (idxTo c 32 = some v)) (w : World) :
  Calls Tryz.prog 117 #[.int .u8 (c.toNat : Int)] w fun e w' => e = .returned (.int .i64 (v : Int)) ∧ w' = w :=
 (index_any c w).mono fun e w' ⟨he, hw⟩ => ⟨he.trans (ret_int (by simp [idxI, h.out])), hw⟩
theorem rw_no {s : ByteArray} {k : Nat} (hz : s.size = 13) (hk : k < 13) (h : rdTo s (k + 1) = none) :
  Ending.returned (.tuple #[.int .u64 (rwX s), .bool (rwB s)]) = .returned (.tuple #[.int .u64 0, .bool false]) := by
 have := rd_stop hk h
 exact ret_two (by simp [rwX, this]) (by simp [rwB, this])
theorem mix_add {x v : Nat} (h : x < 576460752303423488) (hv : v < 32) : IntKind.u64.wrap (IntKind.u64.wrap ((x : Int) * 32) + (v : Int)) = ((x * 32 + v : Nat) : Int) := by
 rw [IntKind.wrap_u64, IntKind.wrap_u64]
 omega
theorem mix_or {x v : Nat} (h : x < 576460752303423488) (hv : v < 32) : bits BinOp.or IntKind.u64 (IntKind.u64.wrap ((x : Int) * 32)) (v : Int) = ((x * 32 + v : Nat) : Int) := by
 have e : IntKind.u64.wrap ((x : Int) * 32) = ((32 * x : Nat) : Int) := by rw [IntKind.wrap_u64]; omega
 rw [e, bits_or_u64_nat (32 * x) v (by omega) (by omega)]
 have := Nat.two_pow_add_eq_or_of_lt (i := 5) hv x
 rw [show (2 : Nat) ^ 5 = 32 from rfl] at this
 rw [← this, Nat.mul_comm]
theorem rspec_any (s : ByteArray) (hs : s.size ≤ 1048576) (w : World) :
  Calls Tryz.prog 71 #[.string s] w fun e w' => e = .returned (.tuple #[.int .u64 (rwX s), .bool (rwB s)]) ∧ w' = w := by
 by_cases hz : s.size = 13
 ·have hz' : ((s.size : Int) == 13) = true := by rw [hz]; rfl
  have hzi : (s.size : Int) = 13 := by omega
  go_enter Tryz.func71, Tryz.ntmps71
  go_wp2
  go_loop [4, 5, 6] (fun y i _ => ∃ k x : Nat, k ≤ 13 ∧ i = .int .i64 k ∧ y = .int .u64 (x : Int) ∧ rdTo s k = some x) (fun _ i _ => 13 - (intOf i).toNat)
  case atStart => exact ⟨0, 0, by omega, rfl, rfl, rfl⟩
  case round =>
   obtain ⟨k, x, hk, rfl, rfl, hrd⟩ := hrel
   by_cases hlt : k < 13
   ·have hks : k < s.size := by omega
    have hst : Hid (rdTo s (k + 1) = match idxTo s[k] 32 with | some v => if k = 0 ∧ 15 < v then none else some (x * 32 + v) | none => none) := rd_step hks hrd
    have hxb : Hid (x < 576460752303423488) := rd_lt (by omega : k ≤ 12) hrd
    have hki : (k : Int) < (s.size : Int) := by omega
    have HR : Hid (rdTo s k = some x) := hrd
    have HZ : Hid (s.size = 13) := hz
    clear hz hz' hzi hrd
    cases hi : idxTo s[k] 32 with
    | none =>
     have HI : Hid (idxTo s[k] 32 = none) := hi
     clear hi
     go_wp2_with (go_at_call 117; refine (index_none HI _).mono ?_; rintro e w' ⟨rfl, rfl⟩)
     go_ret2
     exact ⟨(rw_no HZ.out hlt (by rw [hst.out, HI.out])).symm, rfl⟩
    | some v =>
     have HI : Hid (idxTo s[k] 32 = some v) := hi
     have hv : v < 32 := idxTo_lt hi
     clear hi
     by_cases hc : k = 0 ∧ 15 < v
     ·obtain ⟨rfl, hc⟩ := hc
      go_wp2_with (go_at_call 117; refine (index_some HI _).mono ?_; rintro e w' ⟨rfl, rfl⟩)
      go_ret2
      exact ⟨(rw_no HZ.out hlt (by rw [hst.out, HI.out]; simp [hc])).symm, rfl⟩
     ·have hnx : Hid (rdTo s (k + 1) = some (x * 32 + v)) := by
       show rdTo s (k + 1) = _
       rw [hst.out, HI.out]
       simp only [if_neg hc]
      by_cases hk0 : k = 0
      ·have hv15 : v ≤ 15 := by omega
       subst hk0
       go_wp2_with (go_at_call 117; refine (index_some HI _).mono ?_; rintro e w' ⟨rfl, rfl⟩)
       go_round
       case rel => exact ⟨0 + 1, x * 32 + v, by omega, by go_num, by rw [mix_add hxb.out hv], hnx.out⟩
       case measure => simp [intOf]
      ·have hk0' : ((k : Int) == 0) = false := by simp; omega
       go_wp2_with (go_at_call 117; refine (index_some HI _).mono ?_; rintro e w' ⟨rfl, rfl⟩)
       go_round
       case rel => exact ⟨k + 1, x * 32 + v, by omega, by go_num, by rw [mix_add hxb.out hv], hnx.out⟩
       case measure => simp [intOf]; omega
   ·obtain rfl : k = 13 := by omega
    go_wp2
    go_ret2
    exact ⟨ret_two (by simp [rwX, hz, hrd]) (by simp [rwB, hz, hrd]), rfl⟩
 ·have hz' : ((s.size : Int) == 13) = false := by simp; omega
  go_enter Tryz.func71, Tryz.ntmps71
  go_wp2
  go_ret2
  exact ⟨ret_two (by simp [rwX, hz]) (by simp [rwB, hz]), rfl⟩
theorem lv_c {c : UInt8} {z : Int} {v : Nat} (h : idxTo c 32 = some v) (hat : (lvD 32).atKey (lit8 c) (.lit (.int .u64 0)) = .lit (.int .u64 z)) : z = (v : Int) := by
 have := (lvD_at c 32 (Nat.le_refl _)).2
 rw [hat, h] at this
 simpa using this
theorem lv_has {c : UInt8} {v : Nat} (h : idxTo c 32 = some v) : Maps.has (lvD 32) (lit8 c) = true := by
 rw [(lvD_at c 32 (Nat.le_refl _)).1, h]; rfl
theorem lv_hasnt {c : UInt8} (h : idxTo c 32 = none) : Maps.has (lvD 32) (lit8 c) = false := by
 rw [(lvD_at c 32 (Nat.le_refl _)).1, h]; rfl
theorem rword_any (s : ByteArray) (hs : s.size ≤ 1048576) (mb : Nat) (w : World) (hown : w.ownsMap Tryz.prog 5 (plainElem Tryz.prog 90) mb 32 (lvD 32)) :
  Calls Tryz.prog 95 #[.string s, .map (some mb)] w fun e w' => e = .returned (.tuple #[.int .u64 (rwX s), .bool (rwB s)]) ∧ w' = w := by
 by_cases hz : s.size = 13
 ·have hz' : ((s.size : Int) == 13) = true := by rw [hz]; rfl
  have hzi : (s.size : Int) = 13 := by omega
  go_enter Tryz.func95, Tryz.ntmps95
  go_wp2
  go_loop [6, 7, 8, 9, 13] (fun y _ _ _ i => ∃ k x : Nat, k ≤ 13 ∧ i = .int .i64 k ∧ y = .int .u64 (x : Int) ∧ rdTo s k = some x) (fun _ _ _ _ i => 13 - (intOf i).toNat)
  case atStart => exact ⟨0, 0, by omega, rfl, rfl, rfl⟩
  case round =>
   obtain ⟨k, x, hk, rfl, rfl, hrd⟩ := hrel
   by_cases hlt : k < 13
   ·have hks : k < s.size := by omega
    have hst : Hid (rdTo s (k + 1) = match idxTo s[k] 32 with | some v => if k = 0 ∧ 15 < v then none else some (x * 32 + v) | none => none) := rd_step hks hrd
    have hxb : Hid (x < 576460752303423488) := rd_lt (by omega : k ≤ 12) hrd
    have hki : (k : Int) < (s.size : Int) := by omega
    have HR : Hid (rdTo s k = some x) := hrd
    have HZ : Hid (s.size = 13) := hz
    have hkey : keyOf Tryz.prog 5 (.int .u8 (s[k].toNat : Int)) = some (lit8 s[k]) := keyOf_int_mk Tryz.underlying5 (wf8 _)
    clear hz hz' hzi hrd
    cases hi : idxTo s[k] 32 with
    | none =>
     have HI : Hid (idxTo s[k] 32 = none) := hi
     have hh := lv_hasnt hi
     clear hi
     go_wp2_with (first
      | (at_lookup; refine wpList_lookup_own_ok_int _ rfl _ _ 75 rfl 5 90 .u64 law5 Tryz.underlying75 Tryz.underlying90 (zero22 _) mb 32 (lvD 32) rfl hown _ _ rfl hkey ?_; intro c hat hwc; clear hat hwc)
      | go_in)
     go_ret2
     exact ⟨(rw_no HZ.out hlt (by rw [hst.out, HI.out])).symm, rfl⟩
    | some v =>
     have HI : Hid (idxTo s[k] 32 = some v) := hi
     have hv : v < 32 := idxTo_lt hi
     have hh := lv_has hi
     have hC : Hid (∀ z, (lvD 32).atKey (lit8 s[k]) (.lit (.int .u64 0)) = .lit (.int .u64 z) → z = (v : Int)) := fun z h => lv_c hi h
     clear hi
     by_cases hc : k = 0 ∧ 15 < v
     ·obtain ⟨rfl, hc⟩ := hc
      go_wp2_with (first
       | (at_lookup; refine wpList_lookup_own_ok_int _ rfl _ _ 75 rfl 5 90 .u64 law5 Tryz.underlying75 Tryz.underlying90 (zero22 _) mb 32 (lvD 32) rfl hown _ _ rfl hkey ?_; intro c hat hwc; obtain rfl := hC.out c hat; clear hat hwc)
       | go_in)
      go_ret2
      exact ⟨(rw_no HZ.out hlt (by rw [hst.out, HI.out]; simp [hc])).symm, rfl⟩
     ·have hnx : Hid (rdTo s (k + 1) = some (x * 32 + v)) := by
       show rdTo s (k + 1) = _
       rw [hst.out, HI.out]
       simp only [if_neg hc]
      by_cases hk0 : k = 0
      ·have hv15 : v ≤ 15 := by omega
       subst hk0
       go_wp2_with (first
        | (at_lookup; refine wpList_lookup_own_ok_int _ rfl _ _ 75 rfl 5 90 .u64 law5 Tryz.underlying75 Tryz.underlying90 (zero22 _) mb 32 (lvD 32) rfl hown _ _ rfl hkey ?_; intro c hat hwc; obtain rfl := hC.out c hat; clear hat hwc)
        | go_in)
       go_round
       case rel => exact ⟨0 + 1, x * 32 + v, by omega, by go_num, by rw [mix_or hxb.out hv], hnx.out⟩
       case measure => simp [intOf]
      ·have hk0' : ((k : Int) == 0) = false := by simp; omega
       go_wp2_with (first
        | (at_lookup; refine wpList_lookup_own_ok_int _ rfl _ _ 75 rfl 5 90 .u64 law5 Tryz.underlying75 Tryz.underlying90 (zero22 _) mb 32 (lvD 32) rfl hown _ _ rfl hkey ?_; intro c hat hwc; obtain rfl := hC.out c hat; clear hat hwc)
        | go_in)
       go_round
       case rel => exact ⟨k + 1, x * 32 + v, by omega, by go_num, by rw [mix_or hxb.out hv], hnx.out⟩
       case measure => simp [intOf]; omega
   ·obtain rfl : k = 13 := by omega
    go_wp2
    go_ret2
    exact ⟨ret_two (by simp [rwX, hz, hrd]) (by simp [rwB, hz, hrd]), rfl⟩
 ·have hz' : ((s.size : Int) == 13) = false := by simp; omega
  go_enter Tryz.func95, Tryz.ntmps95
  go_wp2
  go_ret2
  exact ⟨ret_two (by simp [rwX, hz]) (by simp [rwB, hz]), rfl⟩
end Go.Proofs.YtcpmgellfaeejaaGreatDoor.wd

namespace Go.Proofs.YtcpmgellfaeejaaGreatDoor.wd
open Go.ChangeShapes Go.WideShapes Go.ChangeAt Go.RowKit Go.Deep Go.Maps
set_option linter.unusedVariables false
set_option maxRecDepth 100000
def aokB (s : ByteArray) : Bool := decide (15 ≤ s.size) && ((((s.data.toList[13]?.getD 0).toNat : Int) == 45) && (rwB (s.extract 0 13) && nm.nameB (s.extract 14 s.size)))
theorem rspec_b {s : ByteArray} (hs : Hid (s.size ≤ 1048576)) {b : Bool} (h : Hid (rwB s = b)) (w : World) :
  Calls Tryz.prog 71 #[.string s] w fun e w' => ∃ x, e = .returned (.tuple #[.int .u64 x, .bool b]) ∧ w' = w :=
 (rspec_any s hs.out w).mono fun e w' ⟨he, hw⟩ => ⟨_, he.trans (ret_two rfl h.out), hw⟩
theorem rword_b {s : ByteArray} (hs : Hid (s.size ≤ 1048576)) {b : Bool} (h : Hid (rwB s = b)) {mb : Nat} {w : World} (hown : w.ownsMap Tryz.prog 5 (plainElem Tryz.prog 90) mb 32 (lvD 32)) :
  Calls Tryz.prog 95 #[.string s, .map (some mb)] w fun e w' => ∃ x, e = .returned (.tuple #[.int .u64 x, .bool b]) ∧ w' = w :=
 (rword_any s hs.out mb w hown).mono fun e w' ⟨he, hw⟩ => ⟨_, he.trans (ret_two rfl h.out), hw⟩
theorem nspec_b {s : ByteArray} (hs : Hid (s.size ≤ 1048576)) {b : Bool} (h : Hid (nm.nameB s = b)) (w : World) :
  Calls Tryz.prog 72 #[.string s] w fun e w' => e = .returned (.bool b) ∧ w' = w :=
 (nm.spec_any s hs.out w).mono fun e w' ⟨he, hw⟩ => ⟨he.trans (ret_bool h.out), hw⟩
theorem nimpl_b {s : ByteArray} (hs : Hid (s.size ≤ 1048576)) {b : Bool} (h : Hid (nm.nameB s = b)) (w : World) :
  Calls Tryz.prog 96 #[.string s] w fun e w' => e = .returned (.bool b) ∧ w' = w :=
 (nm.impl_any s hs.out w).mono fun e w' ⟨he, hw⟩ => ⟨he.trans (ret_bool h.out), hw⟩
theorem aspec_any (s : ByteArray) (hs : s.size ≤ 1048576) (w : World) :
  Calls Tryz.prog 34 #[.string s] w fun e w' => e = .returned (.bool (aokB s)) ∧ w' = w := by
 by_cases h1 : s.size < 15
 ·go_enter Tryz.func34, Tryz.ntmps34
  go_wp2
  go_ret
  exact ⟨ret_bool (by simp [aokB]; omega), rfl⟩
 have h13 : 13 < s.size := by omega
 have i1 : (13 : Int) < (s.size : Int) := by omega
 have HG : Hid (s.data.toList[13]?.getD 0 = s[13]) := get_at h13
 by_cases h2 : ((s[13].toNat : Int) == 45) = true
 ·have hA : Hid (aokB s = (rwB (s.extract 0 13) && nm.nameB (s.extract 14 s.size))) := by
   show aokB s = _
   unfold aokB
   rw [HG.out, h2]
   simp
   omega
  have hz : Hid ((s.extract 0 13).size ≤ 1048576) := by show _ ≤ _; simp; omega
  have hz2 : Hid ((s.extract 14 s.size).size ≤ 1048576) := by show _ ≤ _; simp; omega
  have hne : ((s[13].toNat : Int) != 45) = false := by simpa using h2
  clear h2
  obtain ⟨b, HB⟩ : ∃ b, Hid (rwB (s.extract 0 13) = b) := ⟨_, rfl⟩
  obtain ⟨c, HC⟩ : ∃ c, Hid (nm.nameB (s.extract 14 s.size) = c) := ⟨_, rfl⟩
  have hA' : Hid (aokB s = (b && c)) := by
   show aokB s = _
   rw [hA.out, HB.out, HC.out]
  have i2 : ¬ (s.size : Int) < 15 := by omega
  clear hA HG h1 i1
  have i1 : (13 : Int) < (s.size : Int) := by omega

  cases b
  ·go_enter Tryz.func34, Tryz.ntmps34
   go_wp2_with (go_at_call 71; refine (rspec_b hz HB _).mono ?_; rintro e w' ⟨x, rfl, rfl⟩)
   go_ret
   exact ⟨ret_bool hA'.out.symm, rfl⟩
  ·go_enter Tryz.func34, Tryz.ntmps34
   go_wp2_with (first
    | (go_at_call 71; refine (rspec_b hz HB _).mono ?_; rintro e w' ⟨x, rfl, rfl⟩)
    | (go_at_call 72; refine (nspec_b hz2 HC _).mono ?_; rintro e w' ⟨rfl, rfl⟩))
   go_ret
   exact ⟨ret_bool (by rw [hA'.out]; rfl), rfl⟩
 ·have h2' : ((s[13].toNat : Int) == 45) = false := by simpa using h2
  have hA : Hid (aokB s = false) := by
   show aokB s = _
   unfold aokB
   rw [HG.out, h2']
   simp
  have hne : ((s[13].toNat : Int) != 45) = true := by simpa using h2
  clear h2 h2'
  go_enter Tryz.func34, Tryz.ntmps34
  go_wp2
  go_ret
  exact ⟨ret_bool hA.out.symm, rfl⟩
theorem isadr_any (s : ByteArray) (hs : s.size ≤ 1048576) (mb : Nat) (w : World) (hown : w.ownsMap Tryz.prog 5 (plainElem Tryz.prog 90) mb 32 (lvD 32)) :
  Calls Tryz.prog 60 #[.string s, .map (some mb)] w fun e w' => e = .returned (.bool (aokB s)) ∧ w' = w := by
 by_cases h1 : s.size ≤ 13
 ·go_enter Tryz.func60, Tryz.ntmps60
  go_wp2
  go_ret
  exact ⟨ret_bool (by simp [aokB]; omega), rfl⟩
 have h13 : 13 < s.size := by omega
 have i1 : (13 : Int) < (s.size : Int) := by omega
 have HG : Hid (s.data.toList[13]?.getD 0 = s[13]) := get_at h13
 by_cases h2 : ((s[13].toNat : Int) == 45) = true
 ·have hA : Hid (aokB s = (rwB (s.extract 0 13) && nm.nameB (s.extract 14 s.size))) := by
   show aokB s = _
   unfold aokB
   rw [HG.out, h2]
   by_cases h15 : 15 ≤ s.size
   ·simp [h15]
   ·have : nm.nameB (s.extract 14 s.size) = false := by simp [nm.nameB]; omega
    simp [h15, this]
  have hz : Hid ((s.extract 0 13).size ≤ 1048576) := by show _ ≤ _; simp; omega
  have hz2 : Hid ((s.extract 14 s.size).size ≤ 1048576) := by show _ ≤ _; simp; omega
  have hne : ((s[13].toNat : Int) != 45) = false := by simpa using h2
  clear h2
  obtain ⟨b, HB⟩ : ∃ b, Hid (rwB (s.extract 0 13) = b) := ⟨_, rfl⟩
  obtain ⟨c, HC⟩ : ∃ c, Hid (nm.nameB (s.extract 14 s.size) = c) := ⟨_, rfl⟩
  have hA' : Hid (aokB s = (b && c)) := by
   show aokB s = _
   rw [hA.out, HB.out, HC.out]
  have i2 : ¬ (s.size : Int) ≤ 13 := by omega
  clear hA HG h1 i1
  have i1 : (13 : Int) < (s.size : Int) := by omega
  cases b
  ·go_enter Tryz.func60, Tryz.ntmps60
   go_wp2_with (go_at_call 95; refine (rword_b hz HB hown).mono ?_; rintro e w1 ⟨x, rfl, rfl⟩)
   go_ret
   exact ⟨ret_bool hA'.out.symm, rfl⟩
  ·go_enter Tryz.func60, Tryz.ntmps60
   go_wp2_with (first
    | (go_at_call 95; refine (rword_b hz HB hown).mono ?_; rintro e w1 ⟨x, rfl, rfl⟩)
    | (go_at_call 96; refine (nimpl_b hz2 HC _).mono ?_; rintro e w' ⟨rfl, rfl⟩))
   go_ret
   exact ⟨ret_bool (by rw [hA'.out]; rfl), rfl⟩
 ·have h2' : ((s[13].toNat : Int) == 45) = false := by simpa using h2
  have hA : Hid (aokB s = false) := by
   show aokB s = _
   unfold aokB
   rw [HG.out, h2']
   simp
  have hne : ((s[13].toNat : Int) != 45) = true := by simpa using h2
  clear h2 h2'
  go_enter Tryz.func60, Tryz.ntmps60
  go_wp2
  go_ret
  exact ⟨ret_bool hA.out.symm, rfl⟩
theorem aimpl_any (s : ByteArray) (hs : s.size ≤ 1048576) (w : World) (hT : TabB w) :
  Calls Tryz.prog 29 #[.string s] w fun e w' => e = .returned (.bool (aokB s)) ∧ Below w.heap.size w w' := by
 go_enter Tryz.func29, Tryz.ntmps29
 go_wp2_with (first
  | (go_at_call 61; refine (lv_any _ hT).mono ?_; rintro e w1 ⟨rfl, hown, hbel⟩)
  | (go_at_call 60; refine (isadr_any s hs _ _ hown).mono ?_; rintro e w2 ⟨rfl, rfl⟩))
 go_ret
 exact ⟨rfl, hbel⟩
end Go.Proofs.YtcpmgellfaeejaaGreatDoor.wd

namespace Go.Proofs.YtcpmgellfaeejaaGreatDoor.pf
open Go.ChangeShapes Go.WideShapes Go.ChangeAt Go.RowKit Go.Deep Go.Maps
set_option linter.unusedVariables false
theorem grown_of {w w' : World} (hb : Below w.heap.size w w') : w.grownBy w' none := ⟨hb.os, hb.tape, hb.output, hb.size, fun k hk _ => hb.block k hk⟩
def LV (w : World) (mb : Nat) : Prop := w.ownsMap Tryz.prog 5 (plainElem Tryz.prog 90) mb 32 (wd.lvD 32)
theorem LV.below {w w' : World} {mb : Nat} (h : LV w mb) (hb : Below w.heap.size w w') : LV w' mb := World.ownsMap.kept h (grown_of hb) (by simp)
end Go.Proofs.YtcpmgellfaeejaaGreatDoor.pf

namespace Go.Proofs.YtcpmgellfaeejaaGreatDoor.sr
open Go.ChangeShapes Go.WideShapes Go.ChangeAt Go.RowKit Go.Deep Go.Shelf Go.Sort
set_option linter.unusedVariables false
set_option linter.unusedSimpArgs false
abbrev Tx : Type := { l : List UInt8 // l.length ≤ 1048576 }
instance : Inhabited Tx := ⟨⟨[], by simp⟩⟩
def encT (x : Tx) : Value := strL x.1
def aokL (l : List UInt8) : Bool := wd.aokB ⟨l.toArray⟩
theorem am1_gives (x : Tx) (vb mb : Nat) (W : World) (hv : W.cell? ⟨vb, 0, none⟩ = some (.map (some mb))) (hL : pf.LV W mb) : FnGives Tryz.prog 145 #[.pointer (some ⟨vb, 0, none⟩)] #[encT x] (.bool (!aokL x.1)) W := by
 show Calls Tryz.prog 145 #[.string ⟨x.1.toArray⟩, .pointer (some ⟨vb, 0, none⟩)] W _
 have HI : Hid (Calls Tryz.prog 60 #[.string ⟨x.1.toArray⟩, .map (some mb)] W fun e w' => e = .returned (.bool (wd.aokB ⟨x.1.toArray⟩)) ∧ w' = W) := wd.isadr_any ⟨x.1.toArray⟩ (by show x.1.toArray.size ≤ _; have := x.2; simpa using this) mb W hL
 have HR : Hid (aokL x.1 = wd.aokB ⟨x.1.toArray⟩) := rfl
 rw [HR.out]
 generalize (⟨x.1.toArray⟩ : ByteArray) = s at *
 generalize wd.aokB s = r at *
 clear hL HR
 go_enter Tryz.func145, Tryz.ntmps145
 go_wp2_with (go_at_call 60; refine HI.out.mono ?_; rintro e w1 ⟨rfl, rfl⟩)
 go_ret
 exact ⟨by first | rfl | simp, 0, rfl⟩
def mkT (xs : List (List UInt8)) (h : ∀ x ∈ xs, x.length ≤ 1048576) : List Tx := xs.pmap (fun x hx => ⟨x, hx⟩) h
theorem mkT_len (xs : List (List UInt8)) (h : ∀ x ∈ xs, x.length ≤ 1048576) : (mkT xs h).length = xs.length := by simp [mkT]
theorem mkT_val (xs : List (List UInt8)) (h : ∀ x ∈ xs, x.length ≤ 1048576) : (mkT xs h).map (fun x => x.1) = xs := by simp [mkT, List.map_pmap]
theorem mkT_filter : ∀ (l : List Tx), (l.filter fun x => !!aokL x.1).map (fun x => x.1) = (l.map fun x => x.1).filter aokL
 | [] => rfl
 | x :: l => by
  have ih := mkT_filter l
  simp only [Bool.not_not] at ih ⊢
  cases h : aokL x.1 <;> simp [List.filter_cons, h, ih]
theorem putRow_T (w : World) (g : Nat) (d : List Tx) : putRow encT w g 0 d.toArray = putRow encStr w g 0 (d.map fun x => x.1).toArray := by
 unfold putRow
 congr 1
 funext cur
 unfold putCells
 congr 1
 funext i
 simp only [List.size_toArray, List.length_map]
 split
 ·next h =>
  have hi : i < d.length := by have := h.2; omega
  simp [encT, enc_strL, List.getElem?_eq_getElem hi]
 ·rfl
theorem del_any (g cap vb mb : Nat) (xs : List (List UInt8)) (hx : ∀ x ∈ xs, x.length ≤ 1048576) (w : World) (h : Blk w g cap xs) (hn : xs.length ≤ 4000) (hv : w.cell? ⟨vb, 0, none⟩ = some (.map (some mb))) (hL : pf.LV w mb) (hvg : vb ≠ g) (hmg : mb ≠ g) :
  Calls Tryz.prog 144 #[.slice (some ⟨g, 0, none⟩) xs.length cap, .func (.func 145) #[] #[.pointer (some ⟨vb, 0, none⟩)]] w fun e w' => e = .returned (.slice (some ⟨g, 0, none⟩) (xs.filter aokL).length cap) ∧ Blk w' g cap (xs.filter aokL) ∧ w.grownBy w' (some g) := by
 have eg : ∀ args w, (callFunc 145 args).run Tryz.prog w = .ok (.enter 145 args) w := enters_of Tryz.func145 (by kernel_rfl) rfl
 have hvl := World.block_lt_of_cell? _ _ hv
 have hp : PredAt Tryz.prog 145 #[.pointer (some ⟨vb, 0, none⟩)] encT (fun x => !aokL x.1) w := fun W x hb => am1_gives x vb mb W ((hb.cell (p := ⟨vb, 0, none⟩) hvl).trans hv) (hL.below hb)
 have hpo : PredOver Tryz.prog 145 #[.pointer (some ⟨vb, 0, none⟩)] encT (fun x => !aokL x.1) g 0 (mkT xs hx).toArray.size w := fun n os dk x _ => by
  have hgr : w.grownBy (sortWorld encT w g 0 n dk os) (some g) := by
   unfold sortWorld
   rw [show dk = dk.toList.toArray by simp, putRow_T]
   exact grownBy_sorted _
  refine am1_gives x vb mb _ ?_ (World.ownsMap.kept hL hgr (by simpa using hmg))
  have := hgr.block vb hvl (by simpa using hvg)
  rw [World.cell?_of_block (a := ⟨vb, 0, none⟩) this]
  exact hv
 have hH : Holds encT w g 0 (mkT xs hx).toArray := fun j hj => by
  have hj' : j < xs.length := by simpa [mkT_len] using hj
  obtain ⟨h1, h2⟩ := h.holds j (by simpa using hj')
  refine ⟨?_, h2⟩
  rw [h1]
  have e1 : (xs.toArray[j]!) = xs[j] := by simp [hj']
  have e2 : ((mkT xs hx).toArray[j]!) = ⟨xs[j], hx _ (List.getElem_mem hj')⟩ := by simp [mkT, hj']
  rw [e1, e2, enc_strL]
  rfl
 have hcon := AnyE.slices_DeleteFunc laysDel encT (fun _ => rfl) (fun x => !aokL x.1) 145 #[.pointer (some ⟨vb, 0, none⟩)] eg default Tryz.zeroValue9 g 0 cap (mkT xs hx).toArray w hp hpo hH (by simp [mkT_len]; omega) (by simp [mkT_len]; exact h.le)
 have hfl : ((mkT xs hx).filter fun x => !!aokL x.1).map (fun x => x.1) = xs.filter aokL := by rw [mkT_filter, mkT_val]
 have hll : ((mkT xs hx).filter fun x => !!aokL x.1).length = (xs.filter aokL).length := by have := congrArg List.length hfl; rwa [List.length_map] at this
 have hsz : (mkT xs hx).toArray.size = xs.length := by simp [mkT_len]
 rw [hsz] at hcon
 refine Calls.mono hcon ?_
 rintro e w' ⟨rfl, q, rfl⟩
 have hfle : (xs.filter aokL).length ≤ xs.length := List.length_filter_le _ _
 simp only [] at hll ⊢
 rw [putRow_T, List.map_append, hfl, List.map_replicate]
 refine ⟨by rw [hll], ?_, ?_⟩
 ·have := h.put (n := q) (os := #[]) (ys := xs.filter aokL) (List.replicate (xs.length - ((mkT xs hx).filter fun x : Tx => !!aokL x.1).length) []) (by rw [List.length_append, List.length_replicate, hll]; omega)
  rwa [grow_empty] at this
 ·have := grownBy_sorted (w := w) (g := g) (n := q) (os := #[]) (xs.filter aokL ++ List.replicate (xs.length - ((mkT xs hx).filter fun x : Tx => !!aokL x.1).length) []).toArray
  rwa [grow_empty] at this
end Go.Proofs.YtcpmgellfaeejaaGreatDoor.sr
