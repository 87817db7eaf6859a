import Derived.Test.YtdddplhfhpghkaaRows
import Derived.Test.YtdddplhfhpghkaaL
import Derived.Deep.QuietTactic
import Derived.BigQuiet
namespace Go.Proofs.Ytdddplhfhpghkaa.st
open Go.ChangeShapes Go.WideShapes Go.ChangeAt Go.RowKit Go.Deep
set_option linter.unusedVariables false

def atS (l : List ByteArray) (i : Nat) : ByteArray := l[i]?.getD ByteArray.empty

/-- The first 'n' texts behind a slice's address are 'l'. -/
def Ss (w : World) (a : Option Addr) (n : Nat) (l : List ByteArray) : Prop :=
  n = 0 ∨ ∃ b off, a = some ⟨b, off, none⟩ ∧ ∀ i, i < n → w.cell? ⟨b, off + i, none⟩ = some (.string (atS l i))

theorem info9 : (Try.prog.info? 9).map (fun i => (i.zero, i.size, i.bytes)) = some (some (.string ⟨#[]⟩), 1, 16) := by kernel_rfl

theorem row_step {w : World} {b n k : Nat} {l : List ByteArray} (h : w.rowIs b 9 n (fun j => .string (if j < k then atS l j else ⟨#[]⟩))) :
    (w.setCell ⟨b, k, none⟩ (.string (atS l k))).rowIs b 9 n (fun j => .string (if j < k + 1 then atS l j else ⟨#[]⟩)) :=
  (h.set k _).congr fun i hi => by
    by_cases h : i = k
    · simp [h]
    · have e : (i < k + 1) ↔ (i < k) := by omega
      simp [h, e]

theorem to_any (a : Option Addr) (n cap : Nat) (l : List ByteArray) (w : World) (hb : Ss w a n l) (hn : n ≤ 1099511627776) :
    Calls Try.prog 19 #[.slice a n cap] w fun e w' => e = .returned (.slice (some ⟨w.heap.size, 0, none⟩) n n) ∧ w'.rowIs w.heap.size 9 n (fun i => .string (atS l i)) ∧ Below w.heap.size w w' := by
  have hmk := run_make_row' (P := Try.prog) 24 9 (.string ⟨#[]⟩) 16 Try.underlying24 info9 rfl .i64 .i64 n (by omega) (by omega)
  go_enter Try.func19, Try.ntmps19
  go_wp2
  clear hmk
  go_loopw [4] (fun i wr => ∃ k : Nat, k ≤ n ∧ i = .int .i64 k ∧ wr.rowIs w.heap.size 9 n (fun j => .string (if j < k then atS l j else ⟨#[]⟩)) ∧ Below w.heap.size w wr) (fun i _ => n - (intOf i).toNat)
  case atStart => exact ⟨0, Nat.zero_le _, rfl, by simpa using World.rowIs_made w _ n 9, (Below.refl _ _).alloc (Nat.le_refl _) _⟩
  case round =>
    obtain ⟨k, hk, rfl, hrow, hbel⟩ := hrel
    by_cases hlt : k < n
    · rcases hb with rfl | ⟨b, off, rfl, hc⟩
      · omega
      have hck := hc k hlt
      have hlt' : b < w.heap.size := World.block_lt_of_cell? _ _ hck
      have g0 : wr.cell? ⟨b, off + k, none⟩ = some (.string (atS l k)) := (hbel.cell hlt').trans hck
      have g1 := hrow.cell hlt
      have g2 := hrow.frozen k
      go_wp2
      go_roundw
      case rel => exact ⟨k + 1, by omega, by go_num, row_step hrow, hbel.setCell (Nat.le_refl _) _⟩
      case measure => simp [intOf]; omega
    · obtain rfl : k = n := by omega
      go_wp2
      go_ret
      refine ⟨rfl, hrow.congr fun i hi => by simp [hi], hbel⟩

theorem Ss.row {w : World} {b n : Nat} {l : List ByteArray} (h : w.rowIs b 9 n (fun i => .string (atS l i))) : Ss w (some ⟨b, 0, none⟩) n l :=
  .inr ⟨b, 0, rfl, fun i hi => by have := h.cell hi; simpa using this⟩

theorem Ss.below {w w' : World} {a : Option Addr} {n : Nat} {l : List ByteArray} (h : Ss w a n l) (hb : Below w.heap.size w w') : Ss w' a n l := by
  rcases h with h | ⟨b, off, e, hc⟩
  · exact .inl h
  · exact .inr ⟨b, off, e, fun i hi => (hb.cell (World.block_lt_of_cell? _ _ (hc i hi))).trans (hc i hi)⟩

theorem eq_any (a a' : Option Addr) (n cap cap' : Nat) (l : List ByteArray) (w : World) (hb : Ss w a n l) (hb' : Ss w a' n l) (hn : n ≤ 1099511627776) :
    Calls Try.prog 10 #[.slice a n cap, .slice a' n cap'] w fun e w' => e = .returned (.bool true) ∧ ∃ q, w' = w.drewN q := by
  go_enter Try.func10, Try.ntmps10
  go_wp2
  go_loopw [5] (fun i wr => ∃ k : Nat, k ≤ n ∧ i = .int .i64 k ∧ ∃ q, wr = w.drewN q) (fun i _ => n - (intOf i).toNat)
  case atStart => exact ⟨0, Nat.zero_le _, rfl, 0, rfl⟩
  case round =>
    obtain ⟨k, hk, rfl, q, rfl⟩ := hrel
    by_cases hlt : k < n
    · rcases hb with rfl | ⟨b, off, rfl, hc⟩
      · omega
      rcases hb' with rfl | ⟨b', off', rfl, hc'⟩
      · omega
      have hck := hc k hlt
      have hck' := hc' k hlt
      have hlt' : (k : Int) < (n : Int) := by omega
      go_wp2
      go_quiet (fail)
      go_wp2
      go_roundw
      case rel => exact ⟨k + 1, by omega, by go_num, _, rfl⟩
      case measure => simp [intOf]; omega
    · go_wp2
      go_ret
      exact ⟨rfl, q, rfl⟩

/-- What is left is not below 0 only where all is small. -/
theorem sz_any (a : Option Addr) (n cap : Nat) (l : List ByteArray) (w : World) (hb : Ss w a n l) (hn : n ≤ maxLen) (hs : ∀ i, i < n → (atS l i).size ≤ maxLen) :
    Calls Try.prog 17 #[.slice a n cap, .int .i64 1048576] w fun e w' => ∃ r : Int, e = .returned (.int .i64 r) ∧ (0 ≤ r → n ≤ 1048576 ∧ ∀ i, i < n → (atS l i).size ≤ 1048576) ∧ w' = w := by
  unfold maxLen at hn hs
  by_cases hbig : 1048576 < n
  · go_enter Try.func17, Try.ntmps17
    go_wp2
    go_ret
    exact ⟨-1, rfl, fun h => by omega, rfl⟩
  · go_enter Try.func17, Try.ntmps17
    go_wp2
    go_loop [1, 5] (fun x i => ∃ k : Nat, ∃ r : Int, k ≤ n ∧ i = .int .i64 k ∧ x = .int .i64 r ∧ 0 ≤ r ∧ r ≤ 1048576 ∧ ∀ i, i < k → (atS l i).size ≤ 1048576) (fun _ i => n - (intOf i).toNat)
    case atStart => exact ⟨0, _, Nat.zero_le _, rfl, rfl, by omega, by omega, fun i hi => by omega⟩
    case round =>
      obtain ⟨k, r, hk, rfl, rfl, h0, h1, hall⟩ := hrel
      have HA : Hid (∀ i, i < k → (atS l i).size ≤ 1048576) := hall
      clear hall
      by_cases hlt : k < n
      · rcases hb with rfl | ⟨b, off, rfl, hc⟩
        · omega
        have hck := hc k hlt
        have hsk := hs k hlt
        by_cases hr : r - ((atS l k).size : Int) < 0
        · go_wp2
          go_ret
          exact ⟨-1, rfl, fun h => by omega, rfl⟩
        · go_wp2
          go_round
          case rel => exact ⟨k + 1, r - ((atS l k).size : Int), by omega, by go_num, by go_num, by omega, by omega, fun i hi => by
            rcases Nat.lt_or_ge i k with h | h
            · exact HA.out i h
            · obtain rfl : i = k := by omega
              omega⟩
          case measure => simp [intOf]; omega
      · obtain rfl : k = n := by omega
        go_wp2
        go_ret
        exact ⟨r, rfl, fun _ => ⟨by omega, HA.out⟩, rfl⟩

end Go.Proofs.Ytdddplhfhpghkaa.st
