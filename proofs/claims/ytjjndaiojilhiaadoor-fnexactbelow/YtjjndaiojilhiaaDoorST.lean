import Derived.Test.YtjjndaiojilhiaaDoorRows
import Derived.Test.YtjjndaiojilhiaaDoorL
import Derived.Deep.QuietTactic
import Derived.BigQuiet
namespace Go.Proofs.YtjjndaiojilhiaaDoor.st
open Go.ChangeShapes Go.WideShapes Go.ChangeAt Go.RowKit Go.Deep
set_option linter.unusedVariables false

def atS (l : List ByteArray) (i : Nat) : ByteArray := l[i]?.getD ByteArray.empty

/-- The first 'n' texts behind a slice's address are 'l'. -/
def Ss (w : World) (a : Option Addr) (n : Nat) (l : List ByteArray) : Prop :=
  n = 0 ∨ ∃ b off, a = some ⟨b, off, none⟩ ∧ ∀ i, i < n → w.cell? ⟨b, off + i, none⟩ = some (.string (atS l i))

theorem info9 : (Tryd.prog.info? 9).map (fun i => (i.zero, i.size, i.bytes)) = some (some (.string ⟨#[]⟩), 1, 16) := by kernel_rfl

theorem row_step {w : World} {b n k : Nat} {l : List ByteArray} (h : w.rowIs b 9 n (fun j => .string (if j < k then atS l j else ⟨#[]⟩))) :
    (w.setCell ⟨b, k, none⟩ (.string (atS l k))).rowIs b 9 n (fun j => .string (if j < k + 1 then atS l j else ⟨#[]⟩)) :=
  (h.set k _).congr fun i hi => by
    by_cases h : i = k
    · simp [h]
    · have e : (i < k + 1) ↔ (i < k) := by omega
      simp [h, e]

theorem Ss.row {w : World} {b n : Nat} {l : List ByteArray} (h : w.rowIs b 9 n (fun i => .string (atS l i))) : Ss w (some ⟨b, 0, none⟩) n l :=
  .inr ⟨b, 0, rfl, fun i hi => by have := h.cell hi; simpa using this⟩

theorem Ss.below {w w' : World} {a : Option Addr} {n : Nat} {l : List ByteArray} (h : Ss w a n l) (hb : Below w.heap.size w w') : Ss w' a n l := by
  rcases h with h | ⟨b, off, e, hc⟩
  · exact .inl h
  · exact .inr ⟨b, off, e, fun i hi => (hb.cell (World.block_lt_of_cell? _ _ (hc i hi))).trans (hc i hi)⟩

end Go.Proofs.YtjjndaiojilhiaaDoor.st
