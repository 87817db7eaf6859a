import Derived.Test.YthklplfpnciodaaGreatDoorRows
import Derived.Test.YthklplfpnciodaaGreatDoorL
import Derived.Lib.AppendStr
namespace Go.Proofs.YthklplfpnciodaaGreatDoor.es
open Go.ChangeShapes Go.WideShapes Go.ChangeAt Go.RowKit Go.Deep
set_option linter.unusedVariables false

def ESC : Array Value := #[.int .u8 110, .int .u8 10, .int .u8 116, .int .u8 9, .int .u8 34, .int .u8 34, .int .u8 92, .int .u8 92]

/-- The table of escapes, in its own block. -/
def EscB (w : World) : Prop := ∃ t fr, w.heap[2]? = some (.cells ESC t fr)

theorem EscB.below {w w' : World} (h : EscB w) (hb : Below w.heap.size w w') : EscB w' := by
  obtain ⟨t, fr, h⟩ := h
  exact ⟨t, fr, by rw [hb.block 2 (Array.getElem?_eq_some_iff.1 h).1]; exact h⟩

def shown : Nat → UInt8 | 0 => 110 | 1 => 116 | 2 => 34 | _ => 92
def meant : Nat → UInt8 | 0 => 10 | 1 => 9 | 2 => 34 | _ => 92

theorem idx0 (w : World) : (Instr.index 169 (.agg ESC) (.int .i64 0)).run Tryz.prog w = .ok (.agg #[.int .u8 ((shown 0).toNat : Int), .int .u8 ((meant 0).toNat : Int)]) w := by kernel_rfl
theorem idx1 (w : World) : (Instr.index 169 (.agg ESC) (.int .i64 1)).run Tryz.prog w = .ok (.agg #[.int .u8 ((shown 1).toNat : Int), .int .u8 ((meant 1).toNat : Int)]) w := by kernel_rfl
theorem idx2 (w : World) : (Instr.index 169 (.agg ESC) (.int .i64 2)).run Tryz.prog w = .ok (.agg #[.int .u8 ((shown 2).toNat : Int), .int .u8 ((meant 2).toNat : Int)]) w := by kernel_rfl
theorem idx3 (w : World) : (Instr.index 169 (.agg ESC) (.int .i64 3)).run Tryz.prog w = .ok (.agg #[.int .u8 ((shown 3).toNat : Int), .int .u8 ((meant 3).toNat : Int)]) w := by kernel_rfl
theorem idx_at (k : Nat) (hk : k < 4) (w : World) : (Instr.index 169 (.agg ESC) (.int .i64 ((k : Nat) : Int))).run Tryz.prog w = .ok (.agg #[.int .u8 ((shown k).toNat : Int), .int .u8 ((meant k).toNat : Int)]) w := by
  have h : k = 0 ∨ k = 1 ∨ k = 2 ∨ k = 3 := by omega
  rcases h with rfl | rfl | rfl | rfl
  · exact idx0 w
  · exact idx1 w
  · exact idx2 w
  · exact idx3 w

/-- What a byte is shown as; nothing where no text can mean it. -/
def shB (b : UInt8) : List UInt8 := if b = 10 then [92, 110] else if b = 9 then [92, 116] else if b = 34 then [92, 34] else if b = 92 then [92, 92] else if b.toNat < 32 then [] else [b]

theorem shB_esc {b : UInt8} {k : Nat} (hk : k < 4) (h0 : ∀ j, j < k → ¬ b = meant j) (h : b = meant k) : shB b = [92, shown k] := by
  have h' : k = 0 ∨ k = 1 ∨ k = 2 ∨ k = 3 := by omega
  rcases h' with rfl | rfl | rfl | rfl <;> subst h <;> rfl

theorem shB_no {b : UInt8} (h0 : ∀ j, j < 4 → ¬ b = meant j) : shB b = if b.toNat < 32 then [] else [b] := by
  have h1 : ¬ b = 10 := h0 0 (by omega)
  have h2 : ¬ b = 9 := h0 1 (by omega)
  have h3 : ¬ b = 34 := h0 2 (by omega)
  have h4 : ¬ b = 92 := h0 3 (by omega)
  simp [shB, h1, h2, h3, h4]

theorem row_new (w : World) (l : List UInt8) (e : TypeId) (hl : l.length ≤ maxLen) : (w.alloc (.cells (byteCells l).toArray e)).ownsRow w.heap.size e 1 (.slice (some ⟨w.heap.size, 0, none⟩) l.length l.length) l.length (byteCells l) := by
  refine ⟨by simp [byteCells], .inr ⟨w.heap.size, l.length, _, rfl, Nat.le_refl _, heap_alloc_new w _, Nat.le_refl _, hl, by simp [byteCells], by simp only [Nat.mul_one]; exact List.take_of_length_le (by simp [byteCells])⟩⟩

theorem lit_string (w : World) (l : List UInt8) (hl : l.length ≤ maxLen) :
    (convert 87 9 (.slice (some ⟨w.heap.size, 0, none⟩) l.length l.length)).run Tryz.prog (w.alloc (.cells (byteCells l).toArray 5)) = .ok (.string ⟨l.toArray⟩) (w.alloc (.cells (byteCells l).toArray 5)) :=
  own_string Tryz.underlying87 Tryz.underlying5 Tryz.underlying9 (row_new w l 5 hl)

theorem lit1 (w : World) (x : UInt8) : (convert 87 9 (.slice (some ⟨w.heap.size, 0, none⟩) 1 1)).run Tryz.prog (w.alloc (.cells #[.int .u8 (x.toNat : Int)] 5)) = .ok (.string ⟨[x].toArray⟩) (w.alloc (.cells #[.int .u8 (x.toNat : Int)] 5)) :=
  lit_string w [x] (show 1 ≤ maxLen by decide)

theorem lit2 (w : World) (O : Obj) (x y : UInt8) : (convert 87 9 (.slice (some ⟨w.heap.size + 1, 0, none⟩) 2 2)).run Tryz.prog ((w.alloc O).alloc (.cells #[.int .u8 (x.toNat : Int), .int .u8 (y.toNat : Int)] 5)) = .ok (.string ⟨[x, y].toArray⟩) ((w.alloc O).alloc (.cells #[.int .u8 (x.toNat : Int), .int .u8 (y.toNat : Int)] 5)) := by
  have h := lit_string (w.alloc O) [x, y] (show 2 ≤ maxLen by decide)
  have e : (w.alloc O).heap.size = w.heap.size + 1 := by simp
  rw [e] at h
  exact h

set_option maxRecDepth 100000 in
theorem sb_any (b : UInt8) (w : World) (hE : EscB w) :
    Calls Tryz.prog 88 #[.int .u8 (b.toNat : Int)] w fun e w' => e = .returned (.string ⟨(shB b).toArray⟩) ∧ Below w.heap.size w w' := by
  obtain ⟨tt, fr, hg1⟩ := hE
  go_enter Tryz.func88, Tryz.ntmps88
  go_wp2_with (refine wpList_load_row rfl 169 _ rfl 2 rfl tt ESC fr _ hg1 Tryz.underlying169 rfl (by kernel_rfl) ?_)
  clear hg1
  go_loopw [4, 6] (fun _ i wr => ∃ k : Nat, k ≤ 4 ∧ i = .int .i64 k ∧ (∀ j, j < k → ¬ b = meant j) ∧ Below w.heap.size w wr) (fun _ i _ => 4 - (intOf i).toNat)
  case atStart => exact ⟨0, by omega, rfl, fun j hj => by omega, Below.refl _ _⟩
  case round =>
    obtain ⟨k, hk, rfl, hno, hbel⟩ := hrel
    have HN : Hid (∀ j, j < k → ¬ b = meant j) := hno
    clear hno
    have hsz := hbel.size
    by_cases hlt : k < 4
    · have hix := idx_at k hlt
      by_cases he : b = meant k
      · have he' : ((b.toNat : Int) == ((meant k).toNat : Int)) = true := by rw [he]; simp
        have HS : Hid (shB b = [92, shown k]) := shB_esc hlt HN.out he
        clear he
        have hcv : ∀ O, (convert 87 9 (.slice (some ⟨wr.heap.size + 1, 0, none⟩) 2 2)).run Tryz.prog ((wr.alloc O).alloc (.cells #[.int .u8 92, .int .u8 ((shown k).toNat : Int)] 5)) = .ok (.string ⟨[92, shown k].toArray⟩) ((wr.alloc O).alloc (.cells #[.int .u8 92, .int .u8 ((shown k).toNat : Int)] 5)) := fun O => lit2 wr O 92 (shown k)
        go_wp2
        go_ret
        exact ⟨ret_str (by rw [HS.out]), (hbel.alloc hsz _).alloc (by simp; omega) _⟩
      · have he' : ((b.toNat : Int) == ((meant k).toNat : Int)) = false := by
          rw [beq_eq_false_iff_ne]
          intro h
          exact he (UInt8.toNat_inj.1 (by omega))
        go_wp2
        go_roundw
        case rel => exact ⟨k + 1, by omega, by go_num, fun j hj => by
          rcases Nat.lt_or_ge j k with h | h
          · exact HN.out j h
          · obtain rfl : j = k := by omega
            exact he, hbel.alloc hsz _⟩
        case measure => simp [intOf]; omega
    · obtain rfl : k = 4 := by omega
      have HS : Hid (shB b = if b.toNat < 32 then [] else [b]) := shB_no HN.out
      by_cases h32 : b.toNat < 32
      · go_wp2
        go_ret
        exact ⟨ret_str (by rw [HS.out, if_pos h32]), hbel⟩
      · have hcv : (convert 87 9 (.slice (some ⟨wr.heap.size, 0, none⟩) 1 1)).run Tryz.prog (wr.alloc (.cells #[.int .u8 (b.toNat : Int)] 5)) = .ok (.string ⟨[b].toArray⟩) (wr.alloc (.cells #[.int .u8 (b.toNat : Int)] 5)) :=
          lit1 wr b
        go_wp2
        go_ret
        exact ⟨ret_str (by rw [HS.out, if_neg h32]), hbel.alloc hsz _⟩

end Go.Proofs.YthklplfpnciodaaGreatDoor.es
