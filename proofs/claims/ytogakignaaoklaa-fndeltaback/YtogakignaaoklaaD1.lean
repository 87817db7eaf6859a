import Derived.Test.YtogakignaaoklaaD0
namespace Go.Proofs.Ytogakignaaoklaa.dr
open Go.ChangeShapes Go.WideShapes Go.ChangeAt Go.RowKit Go.Deep
set_option linter.unusedVariables false
set_option linter.unusedSimpArgs false

theorem can_app {w1 w2 : World} {c : Nat} {a : Option Addr} {n cap : Nat} {o : Obj} {B size k : Nat} {e : TypeId} {v : Value} {xs : List Value} (h : Can w1 c a n cap) (ho : (w1.alloc o).ownsRow B e size v k xs) (hB : c < B) (hw : B ≤ w1.heap.size) (hg : (w1.alloc o).grownBy w2 v.ownBlock) : Can w2 c a n cap :=
  h.below (((Below.refl (c + 1) w1).alloc (by omega) o).grown hg (by simp; omega) (fun k e => by have := (ho.lt k e).1; omega))

set_option maxHeartbeats 1000000 in
theorem some_can {w : World} {c : Nat} {a : Option Addr} {n cap : Nat} (h : Can w c a n cap) (hcw : c < w.heap.size) (m : Nat) (hm2 : m ≤ 1000000) :
    Calls Try.prog 32 #[.pointer (some ⟨c, 0, none⟩), .int .i64 (m : Int)] w fun e w' => ∃ (v : Value) (l : List UInt8), e = .returned v ∧ w'.ownsRow w.heap.size 5 1 v m (byteCells l) ∧ Draws w w' c a n cap := by
  go_enter Try.func32, Try.ntmps32
  go_wp2
  go_loopw [5, 6, 7] (fun v i _ wr => ∃ (k : Nat) (l : List UInt8), k ≤ m ∧ i = .int .i64 (k : Int) ∧ wr.ownsRow w.heap.size 5 1 v k (byteCells l) ∧ Draws w wr c a n cap) (fun _ i _ _ => m - (intOf i).toNat)
  case atStart => exact ⟨0, [], Nat.zero_le _, rfl, own_empty5 w _ (Nat.le_refl _), ⟨(h.below ((Below.refl _ w).alloc hcw _)).code, (h.below ((Below.refl _ w).alloc hcw _)).cur, grown_alloc (grown_refl _ _) _⟩⟩
  case round =>
    obtain ⟨k, l, hk, rfl, ho, hd⟩ := hrel
    by_cases hlt : k < m
    · have hlt' : (k : Int) < (m : Int) := by omega
      have hcan := h.draws hd
      go_wp2_with (first
        | (go_at_call 22; refine (below_can hcan 256 (by decide) (by decide)).mono ?_; rintro e w1 ⟨x, rfl, hx, d1⟩)
        | (at_builtin; refine app_own _ rfl _ _ 22 rfl w.heap.size 5 (.int .u8 0) 1 Try.underlying22 info5 rfl _ _ _ rfl ((own_draws ho hcw d1).alloc _) ⟨w1.heap.size, 0, none⟩ 1 1 [.int .u8 (x : Int)] rfl rfl (one_new _ _ _) (fun u hu => by simp at hu; subst hu; rfl) ?c1 ?c2 ?c3 ?_)
        | go_in)
      case c1 => unfold maxLen; omega
      case c2 => omega
      case c3 => have := hd.grown.size; have := d1.grown.size; simp; omega
      intro v' w2 hown' hg
      rw [byte_cell x hx, ← byteCells_append] at hown'
      have hd2 := hd.trans d1
      have hs2 := hd2.grown.size
      have hc2 := can_app (hcan.draws d1) ((own_draws ho hcw d1).alloc _) hcw hs2 hg
      go_wp2
      go_roundw
      case rel => exact ⟨k + 1, _, by omega, by go_num, hown', ⟨hc2.code, hc2.cur, grown_app (grown_alloc hd2.grown _) ((own_draws ho hcw d1).alloc _) hg⟩⟩
      case measure => simp [intOf]; omega
    · have hlt' : ¬ (k : Int) < (m : Int) := by omega
      obtain rfl : k = m := by omega
      go_wp2
      go_ret
      exact ⟨_, rfl, ⟨l, ho⟩, hd⟩

end Go.Proofs.Ytogakignaaoklaa.dr
