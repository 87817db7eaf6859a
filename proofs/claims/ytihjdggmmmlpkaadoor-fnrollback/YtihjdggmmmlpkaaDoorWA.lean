import Derived.Test.YtihjdggmmmlpkaaDoorRows
import Derived.Test.YtihjdggmmmlpkaaDoorL
namespace Go.Proofs.YtihjdggmmmlpkaaDoor.wd
open Go.ChangeShapes Go.WideShapes Go.ChangeAt Go.RowKit Go.Deep
set_option linter.unusedVariables false

def LET : List UInt8 := [48, 49, 50, 51, 52, 53, 54, 55, 56, 57, 97, 98, 99, 100, 102, 103, 104, 105, 106, 107, 108, 109, 110, 112, 113, 114, 115, 118, 119, 120, 121, 122]
def letU (n : Nat) : UInt8 := LET[n]?.getD 0
def dv (X k : Nat) : Nat := X / 32 ^ k
def dm (X k : Nat) : Nat := dv X k % 32
def digit (X k : Nat) : UInt8 := letU (dm X k)
def wordA (X : Nat) : ByteArray := ⟨((List.range 13).map fun j => digit X (12 - j)).toArray⟩

/-- The table of letters lies in block 0. -/
def Tab (w : World) : Prop := ∀ i, i < 32 → w.cell? ⟨0, i, none⟩ = some (.int .u8 ((letU i).toNat : Int))

theorem Tab.below {w w' : World} (h : Tab w) (hb : Below w.heap.size w w') : Tab w' := fun i hi => (hb.cell (World.block_lt_of_cell? _ _ (h i hi))).trans (h i hi)

theorem and31 (X : Nat) (h : X < 18446744073709551616) : bits BinOp.and IntKind.u64 (X : Int) 31 = ((X % 32 : Nat) : Int) := by
  have := bits_and_u64_nat X 31 h (by omega)
  rw [show ((31 : Nat) : Int) = 31 from rfl] at this
  rw [this, show (31 : Nat) = 2 ^ 5 - 1 from rfl, Nat.and_two_pow_sub_one_eq_mod]

theorem wordA_size (X : Nat) : (wordA X).size = 13 := by simp [wordA, ByteArray.size]

theorem dv_step (X k : Nat) : ((dv X k : Nat) : Int) / 32 = ((dv X (k + 1) : Nat) : Int) := by
  have : dv X k / 32 = dv X (k + 1) := by unfold dv; rw [Nat.div_div_eq_div_mul, Nat.pow_succ]
  rw [← this]; rfl

theorem dv_lt (X k : Nat) (h : X < 18446744073709551616) : dv X k < 18446744073709551616 := Nat.lt_of_le_of_lt (Nat.div_le_self _ _) h

theorem dm_lt (X k : Nat) : dm X k < 32 := Nat.mod_lt _ (by omega)

theorem and_dv (X k : Nat) (h : X < 18446744073709551616) : bits BinOp.and IntKind.u64 ((dv X k : Nat) : Int) 31 = ((dm X k : Nat) : Int) := and31 _ (dv_lt X k h)

theorem word_step {w : World} {b t X k : Nat} (hk : k < 13) (h : w.rowIs b t 13 (fun j => .int .u8 (if 12 < j + k then ((digit X (12 - j)).toNat : Int) else 0))) :
    (w.setCell ⟨b, 12 - k, none⟩ (.int .u8 ((digit X k).toNat : Int))).rowIs b t 13 (fun j => .int .u8 (if 12 < j + (k + 1) then ((digit X (12 - j)).toNat : Int) else 0)) :=
  (h.set (12 - k) _).congr fun i hi => by
    by_cases h : i = 12 - k
    · have e : 12 < i + (k + 1) := by omega
      have e2 : 12 - i = k := by omega
      rw [if_pos h, if_pos e, e2]
    · have e : (12 < i + (k + 1)) ↔ (12 < i + k) := by omega
      simp [h, e]

theorem word_row {w : World} {b t X : Nat} (h : w.rowIs b t 13 (fun j => .int .u8 (if 12 < j + 13 then ((digit X (12 - j)).toNat : Int) else 0))) : Lib.Bytes w b 0 (wordA X) := fun i hi => by
  have hi' : i < 13 := by simpa [wordA_size] using hi
  have := h.cell hi'
  rw [if_pos (by omega)] at this
  rw [Nat.zero_add, this]
  simp [wordA, ByteArray.getElem_eq_getElem_data]

theorem and_sh (X k : Nat) (h : X < 18446744073709551616) : bits BinOp.and IntKind.u64 ((X : Int) / 2 ^ (5 * (12 - k))) 31 = ((dm X (12 - k) : Nat) : Int) := by
  rw [← and_dv X (12 - k) h]
  congr 1
  unfold dv
  rw [Int.natCast_ediv, Int.pow_mul]
  norm_cast

theorem info5 : (Tryd.prog.info? 5).map (fun i => (i.zero, i.size, i.bytes)) = some (some (.int .u8 0), 1, 1) := by kernel_rfl

def wordL (X k : Nat) : List UInt8 := (List.range k).map fun j => digit X (12 - j)
theorem wordL_succ (X k : Nat) : wordL X (k + 1) = wordL X k ++ [digit X (12 - k)] := by simp [wordL, List.range_succ]

theorem let_at (n : Nat) (h : n < 32) : (⟨#[48, 49, 50, 51, 52, 53, 54, 55, 56, 57, 97, 98, 99, 100, 102, 103, 104, 105, 106, 107, 108, 109, 110, 112, 113, 114, 115, 118, 119, 120, 121, 122]⟩ : ByteArray)[n]'h = letU n := by
  unfold letU
  have h' : n < LET.length := h
  rw [List.getElem?_eq_getElem h']
  rfl

theorem spec_any (X : Nat) (h1 : X < 18446744073709551616) (w : World) :
    Calls Tryd.prog 77 #[.int .u64 (X : Int)] w fun e w' => e = .returned (.string (wordA X)) ∧ Below w.heap.size w w' := by
  go_enter Tryd.func77, Tryd.ntmps77
  go_wp2
  go_loopw [3, 4] (fun v i wr => ∃ k : Nat, k ≤ 13 ∧ i = .int .i64 (12 - k) ∧ wr.ownsRow w.heap.size 5 1 v k (byteCells (wordL X k)) ∧ Below w.heap.size w wr) (fun _ i _ => (intOf i + 1).toNat)
  case atStart => exact ⟨0, by omega, rfl, World.ownsRow_made w #[] 0 (Nat.le_refl _) (by decide) rfl, (Below.refl _ _).alloc (Nat.le_refl _) _⟩
  case round =>
    obtain ⟨k, hk, rfl, hown, hbel⟩ := hrel
    have hsz := hbel.size
    by_cases hlt : k < 13
    · have e31 := and_sh X k h1
      have hm : ((dm X (12 - k) : Nat) : Int) < 32 := by have := dm_lt X (12 - k); omega
      have hidx := let_at (dm X (12 - k)) (dm_lt X (12 - k))
      go_wp2_with (first
        | (at_builtin; refine app_own _ rfl _ _ 22 rfl w.heap.size 5 (.int .u8 0) 1 Tryd.underlying22 info5 rfl _ _ _ rfl (hown.alloc _) ⟨wr.heap.size, 0, none⟩ 1 1 (byteCells [digit X (12 - k)]) rfl rfl ?c1 (byteCells_oneCell _) ?c3 ?c4 ?c5 ?_)
        | go_in)
      case c1 => exact one_new _ _ _
      case c3 => unfold maxLen; omega
      case c4 => omega
      case c5 => simp; omega
      intro v' w' hown' hg
      have hb' := below_grown (hbel.alloc hsz _) (hown.alloc _) hg (by simp; omega)
      rw [← byteCells_append, ← wordL_succ] at hown'
      clear hidx
      go_wp2
      go_roundw
      case rel => exact ⟨k + 1, by omega, by go_num, hown', hb'⟩
      case measure => simp [intOf]; omega
    · obtain rfl : k = 13 := by omega
      have hconv := own_string (P := Tryd.prog) Tryd.underlying22 Tryd.underlying5 Tryd.underlying9 hown
      go_wp2
      go_ret
      exact ⟨rfl, hbel⟩

end Go.Proofs.YtihjdggmmmlpkaaDoor.wd
