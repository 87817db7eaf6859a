import Derived.Test.YtihjdggmmmlpkaaDoorST
import Derived.Deep.RegionHeld3
import Derived.WalkLawsBesides
import Derived.Lib.ItoaLen
namespace Go.Proofs.YtihjdggmmmlpkaaDoor.sr
open Go.ChangeShapes Go.WideShapes Go.ChangeAt Go.RowKit Go.Deep
set_option linter.unusedVariables false
set_option linter.unusedSimpArgs false

/-! ### The marks -/

def dgt (k : Nat) : UInt8 := UInt8.ofNat (48 + k % 10)
theorem dgt_nat (k : Nat) : ((dgt k).toNat : Int) = 48 + ((k % 10 : Nat) : Int) := by
  have : (48 + k % 10) % 256 = 48 + k % 10 := Nat.mod_eq_of_lt (by omega)
  simp [dgt, UInt8.toNat_ofNat', this]

theorem dgt_conv (k : Nat) (wr : World) (z : Int) (hz : z = 48 + ((k % 10 : Nat) : Int)) : (convert 22 9 (.slice (some ⟨wr.heap.size, 0, none⟩) 1 1)).run Tryd.prog (wr.alloc (.cells #[.int .u8 z] 5)) = .ok (.string ⟨[dgt k].toArray⟩) (wr.alloc (.cells #[.int .u8 z] 5)) := by
  subst hz
  refine own_string (base := wr.heap.size) (n := 1) Tryd.underlying22 Tryd.underlying5 Tryd.underlying9 ?_
  rw [byteCells_one, dgt_nat]
  exact ⟨rfl, .inr ⟨wr.heap.size, 1, #[.int .u8 (48 + ((k % 10 : Nat) : Int))], rfl, Nat.le_refl _, heap_alloc_new wr _, by decide, by decide, rfl, rfl⟩⟩

theorem dec_step {k : Nat} (h : 9 < k) : Lib.decDigits k = Lib.decDigits (k / 10) ++ [dgt k] := by
  rw [Lib.decDigits, dif_neg (by omega)]; rfl
theorem dec_last {k : Nat} (h : ¬ 9 < k) : Lib.decDigits k = [dgt k] := by
  rw [Lib.decDigits, dif_pos (by omega), dgt, Nat.mod_eq_of_lt (by omega)]

/-- Digits of what is left; none of 0. -/
def dig (k : Nat) : List UInt8 := if k = 0 then [] else Lib.decDigits k
theorem dig_step {k : Nat} (h : 0 < k) : dig k = dig (k / 10) ++ [dgt k] := by
  unfold dig
  rw [if_neg (by omega)]
  by_cases h9 : 9 < k
  · rw [if_neg (by omega), dec_step h9]
  · rw [if_pos (by omega), dec_last h9]; rfl

def mark (k : Nat) : ByteArray := ⟨(109 :: Lib.decDigits k).toArray⟩

/-- The cells of a row, the first ones marked. -/
def MkR (w : World) (bb off n k i : Nat) : Prop := (∃ cs, w.heap[bb]? = some (.cells cs 9 (0, 0)) ∧ off + n ≤ cs.size) ∧ ∀ j, j < i → w.cell? ⟨bb, off + j, none⟩ = some (.string (mark (k + j)))

theorem MkR.below {w w' : World} {bb off n k i : Nat} (h : MkR w bb off n k i) (hb : Below w.heap.size w w') : MkR w' bb off n k i := by
  obtain ⟨⟨cs, hc, hs⟩, hm⟩ := h
  have hlt := (Array.getElem?_eq_some_iff.1 hc).1
  exact ⟨⟨cs, (hb.block bb hlt).trans hc, hs⟩, fun j hj => (hb.cell (p := ⟨bb, _, none⟩) hlt).trans (hm j hj)⟩

theorem MkR.step {w : World} {bb off n k i : Nat} (h : MkR w bb off n k i) (hi : i < n) : MkR (w.setCell ⟨bb, off + i, none⟩ (.string (mark (k + i)))) bb off n k (i + 1) := by
  obtain ⟨⟨cs, hc, hs⟩, hm⟩ := h
  have hlt := (Array.getElem?_eq_some_iff.1 hc).1
  have e : (w.setCell ⟨bb, off + i, none⟩ (.string (mark (k + i)))).heap[bb]? = some (.cells (cs.setIfInBounds (off + i) (.string (mark (k + i)))) 9 (0, 0)) := by
    simp [World.setCell, Array.getElem?_modify, hc]
  refine ⟨⟨_, e, by simp; omega⟩, fun j hj => ?_⟩
  have key : (w.setCell ⟨bb, off + i, none⟩ (.string (mark (k + i)))).cell? ⟨bb, off + j, none⟩ = (cs.setIfInBounds (off + i) (.string (mark (k + i))))[off + j]? := by simp [World.cell?, e]
  rw [key, Array.getElem?_setIfInBounds]
  by_cases hji : j = i
  · subst hji
    rw [if_pos rfl, if_pos (by omega)]
  · have := hm j (by omega)
    simp only [World.cell?, hc] at this
    rw [if_neg (by omega)]
    simpa using this

theorem MkR.cell {w : World} {bb off n k i : Nat} (h : MkR w bb off n k i) (j : Nat) (hj : j < n) : ∃ x, w.cell? ⟨bb, off + j, none⟩ = some x ∧ w.frozen? ⟨bb, off + j, none⟩ = false := by
  obtain ⟨⟨cs, hc, hs⟩, _⟩ := h
  have hlt : off + j < cs.size := by omega
  exact ⟨cs[off + j], by simp [World.cell?, hc, hlt], by simp [World.frozen?, hc]⟩

end Go.Proofs.YtihjdggmmmlpkaaDoor.sr
