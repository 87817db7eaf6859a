import Derived.Test.YtjjndaiojilhiaaDoorRows
import Derived.Test.YtjjndaiojilhiaaDoorL
import Derived.Deep.QuietTactic
import Derived.BigQuiet
namespace Go.Proofs.YtjjndaiojilhiaaDoor.sm
open Go.ChangeShapes Go.WideShapes Go.ChangeAt Go.RowKit Go.Deep
set_option linter.unusedVariables false

/-- The first 'n' bytes behind a slice's address are 'l'. -/
def Bs (w : World) (a : Option Addr) (n : Nat) (l : List Int) : Prop :=
  n = 0 ∨ ∃ b off, a = some ⟨b, off, none⟩ ∧ ∀ i, i < n → w.cell? ⟨b, off + i, none⟩ = some (.int .u8 (l[i]?.getD 0))

def stepS (l : List Int) (g : Int) (k : Nat) : Int := IntKind.u64.wrap (bits BinOp.xor IntKind.u64 g (IntKind.u64.wrap (l[k]?.getD 0)) * 1099511628211)
def sumS (l : List Int) (h : Int) : Nat → Int
  | 0 => h
  | k + 1 => stepS l (sumS l h k) k

def turnS (g : Int) : Nat → Int
  | 0 => g
  | k + 1 => IntKind.u64.wrap (bits BinOp.xor IntKind.u64 (turnS g k) (turnS g k / 536870912) * 11400714819323198485)
def lastS (g : Int) : Int := bits BinOp.xor IntKind.u64 (turnS g 3) (turnS g 3 / 4294967296)

theorem info5 : (Tryd.prog.info? 5).map (fun i => (i.zero, i.size, i.bytes)) = some (some (.int .u8 0), 1, 1) := by kernel_rfl

theorem row_step {w : World} {b n k : Nat} {l : List Int} (h : w.rowIs b 5 n (fun j => .int .u8 (if j < k then l[j]?.getD 0 else 0))) :
    (w.setCell ⟨b, k, none⟩ (.int .u8 (l[k]?.getD 0))).rowIs b 5 n (fun j => .int .u8 (if j < k + 1 then l[j]?.getD 0 else 0)) :=
  (h.set k _).congr fun i hi => by
    by_cases h : i = k
    · simp [h]
    · have e : (i < k + 1) ↔ (i < k) := by omega
      simp [h, e]

theorem Bs.row {w : World} {b n : Nat} {l : List Int} (h : w.rowIs b 5 n (fun i => .int .u8 (l[i]?.getD 0))) : Bs w (some ⟨b, 0, none⟩) n l :=
  .inr ⟨b, 0, rfl, fun i hi => by have := h.cell hi; simpa using this⟩

theorem Bs.below {w w' : World} {a : Option Addr} {n : Nat} {l : List Int} (h : Bs w a n l) (hb : Below w.heap.size w w') : Bs w' a n l := by
  rcases h with h | ⟨b, off, e, hc⟩
  · exact .inl h
  · exact .inr ⟨b, off, e, fun i hi => (hb.cell (World.block_lt_of_cell? _ _ (hc i hi))).trans (hc i hi)⟩

end Go.Proofs.YtjjndaiojilhiaaDoor.sm
