import Derived.Test.YtfkeoifdldhdcaaRows
import Derived.Test.YtfkeoifdldhdcaaL
import Derived.Deep.QuietTactic
import Derived.BigQuiet
namespace Go.Proofs.Ytfkeoifdldhdcaa.sm
open Go.ChangeShapes Go.WideShapes Go.ChangeAt Go.RowKit Go.Deep
set_option linter.unusedVariables false

/-- The first 'n' bytes behind a slice's address are 'l'. -/
def Bs (w : World) (a : Option Addr) (n : Nat) (l : List Int) : Prop :=
  n = 0 ∨ ∃ b off, a = some ⟨b, off, none⟩ ∧ ∀ i, i < n → w.cell? ⟨b, off + i, none⟩ = some (.int .u8 (l[i]?.getD 0))

def stepS (l : List Int) (g : Int) (k : Nat) : Int := IntKind.u64.wrap (bits BinOp.xor IntKind.u64 g (IntKind.u64.wrap (l[k]?.getD 0)) * 1099511628211)
def sumS (l : List Int) (h : Int) : Nat → Int
  | 0 => h
  | k + 1 => stepS l (sumS l h k) k

def turnS (g : Int) : Nat → Int
  | 0 => g
  | k + 1 => IntKind.u64.wrap (bits BinOp.xor IntKind.u64 (turnS g k) (turnS g k / 536870912) * 11400714819323198485)
def lastS (g : Int) : Int := bits BinOp.xor IntKind.u64 (turnS g 3) (turnS g 3 / 4294967296)

theorem info5 : (Try.prog.info? 5).map (fun i => (i.zero, i.size, i.bytes)) = some (some (.int .u8 0), 1, 1) := by kernel_rfl

theorem row_step {w : World} {b n k : Nat} {l : List Int} (h : w.rowIs b 5 n (fun j => .int .u8 (if j < k then l[j]?.getD 0 else 0))) :
    (w.setCell ⟨b, k, none⟩ (.int .u8 (l[k]?.getD 0))).rowIs b 5 n (fun j => .int .u8 (if j < k + 1 then l[j]?.getD 0 else 0)) :=
  (h.set k _).congr fun i hi => by
    by_cases h : i = k
    · simp [h]
    · have e : (i < k + 1) ↔ (i < k) := by omega
      simp [h, e]

theorem to_any (a : Option Addr) (n cap : Nat) (l : List Int) (w : World) (hb : Bs w a n l) (hn : n ≤ 1099511627776) :
    Calls Try.prog 6 #[.slice a n cap] w fun e w' => e = .returned (.slice (some ⟨w.heap.size, 0, none⟩) n n) ∧ w'.rowIs w.heap.size 5 n (fun i => .int .u8 (l[i]?.getD 0)) ∧ Below w.heap.size w w' := by
  have hmk := run_make_row' (P := Try.prog) 22 5 (.int .u8 0) 1 Try.underlying22 info5 rfl .i64 .i64 n (by omega) (by omega)
  go_enter Try.func6, Try.ntmps6
  go_wp2
  clear hmk
  go_loopw [4] (fun i wr => ∃ k : Nat, k ≤ n ∧ i = .int .i64 k ∧ wr.rowIs w.heap.size 5 n (fun j => .int .u8 (if j < k then l[j]?.getD 0 else 0)) ∧ Below w.heap.size w wr) (fun i _ => n - (intOf i).toNat)
  case atStart => exact ⟨0, Nat.zero_le _, rfl, by simpa using World.rowIs_made w _ n 5, (Below.refl _ _).alloc (Nat.le_refl _) _⟩
  case round =>
    obtain ⟨k, hk, rfl, hrow, hbel⟩ := hrel
    by_cases hlt : k < n
    · rcases hb with rfl | ⟨b, off, rfl, hc⟩
      · omega
      have hck := hc k hlt
      have hlt' : b < w.heap.size := World.block_lt_of_cell? _ _ hck
      have g0 : wr.cell? ⟨b, off + k, none⟩ = some (.int .u8 (l[k]?.getD 0)) := (hbel.cell hlt').trans hck
      have g1 := hrow.cell hlt
      have g2 := hrow.frozen k
      go_wp2
      go_roundw
      case rel => exact ⟨k + 1, by omega, by go_num, row_step hrow, hbel.setCell (Nat.le_refl _) _⟩
      case measure => simp [intOf]; omega
    · obtain rfl : k = n := by omega
      go_wp2
      go_ret
      refine ⟨rfl, hrow.congr fun i hi => by simp [hi], hbel⟩

theorem Bs.row {w : World} {b n : Nat} {l : List Int} (h : w.rowIs b 5 n (fun i => .int .u8 (l[i]?.getD 0))) : Bs w (some ⟨b, 0, none⟩) n l :=
  .inr ⟨b, 0, rfl, fun i hi => by have := h.cell hi; simpa using this⟩

theorem Bs.below {w w' : World} {a : Option Addr} {n : Nat} {l : List Int} (h : Bs w a n l) (hb : Below w.heap.size w w') : Bs w' a n l := by
  rcases h with h | ⟨b, off, e, hc⟩
  · exact .inl h
  · exact .inr ⟨b, off, e, fun i hi => (hb.cell (World.block_lt_of_cell? _ _ (hc i hi))).trans (hc i hi)⟩

theorem eq_any (a a' : Option Addr) (n cap cap' : Nat) (l : List Int) (w : World) (hb : Bs w a n l) (hb' : Bs w a' n l) (hn : n ≤ 1099511627776) :
    Calls Try.prog 9 #[.slice a n cap, .slice a' n cap'] w fun e w' => e = .returned (.bool true) ∧ ∃ q, w' = w.drewN q := by
  go_enter Try.func9, Try.ntmps9
  go_wp2
  go_loopw [5] (fun i wr => ∃ k : Nat, k ≤ n ∧ i = .int .i64 k ∧ ∃ q, wr = w.drewN q) (fun i _ => n - (intOf i).toNat)
  case atStart => exact ⟨0, Nat.zero_le _, rfl, 0, rfl⟩
  case round =>
    obtain ⟨k, hk, rfl, q, rfl⟩ := hrel
    by_cases hlt : k < n
    · rcases hb with rfl | ⟨b, off, rfl, hc⟩
      · omega
      rcases hb' with rfl | ⟨b', off', rfl, hc'⟩
      · omega
      have hck := hc k hlt
      have hck' := hc' k hlt
      have hlt' : (k : Int) < (n : Int) := by omega
      go_wp2
      go_quiet (fail)
      go_wp2
      go_roundw
      case rel => exact ⟨k + 1, by omega, by go_num, _, rfl⟩
      case measure => simp [intOf]; omega
    · go_wp2
      go_ret
      exact ⟨rfl, q, rfl⟩

end Go.Proofs.Ytfkeoifdldhdcaa.sm
