import Derived.Test.YtbnmefponeomiaaDoorD4
namespace Go.Proofs.YtbnmefponeomiaaDoor.dr
open Go.ChangeShapes Go.WideShapes Go.ChangeAt Go.RowKit Go.Deep
set_option linter.unusedVariables false
set_option linter.unusedSimpArgs false

theorem made20 (x : Nat) (hx : x < 2) (w : World) : (Instr.makeSlice 22 (.int .i64 (20000 + (x : Int))) (.int .i64 (20000 + (x : Int)))).run Tryd.prog w = .ok (.slice (some ⟨w.heap.size, 0, none⟩) (20000 + x) (20000 + x)) (w.alloc (.cells (madeCells #[.int .u8 0] (20000 + x)) 5)) := by
  have h := run_make_row' (P := Tryd.prog) 22 5 (.int .u8 0) 1 Tryd.underlying22 info5 rfl .i64 .i64 (20000 + x) (by omega) (by omega) w
  rw [Int.natCast_add] at h
  exact h

theorem s_step {w : World} {b n k : Nat} (h : w.rowIs b 5 n (fun j => .int .u8 (if j < k then 59 else 0))) :
    (w.setCell ⟨b, k, none⟩ (.int .u8 59)).rowIs b 5 n (fun j => .int .u8 (if j < k + 1 then 59 else 0)) :=
  (h.set k _).congr fun i hi => by
    by_cases h : i = k
    · simp [h]
    · have e : (i < k + 1) ↔ (i < k) := by omega
      simp [h, e]

theorem own_of_rowS {w : World} {b N : Nat} (h : w.rowIs b 5 N (fun _ => .int .u8 59)) (hN : N ≤ maxLen) : w.ownsRow 0 5 1 (.slice (some ⟨b, 0, none⟩) N N) N (byteCells (List.replicate N 59)) := by
  obtain ⟨c, hb, hc, hi⟩ := h
  refine ⟨by simp [byteCells], .inr ⟨b, N, c, rfl, Nat.zero_le _, hb, Nat.le_refl _, hN, by simpa using hc, ?_⟩⟩
  rw [Nat.mul_one, ← hc, ← Array.length_toList, List.take_length]
  apply List.ext_getElem?
  intro i
  rcases Nat.lt_or_ge i N with h | h
  · rw [Array.getElem?_toList, hi i h]
    simp [byteCells, hc, h]
  · rw [Array.getElem?_toList, Array.getElem?_eq_none (by omega)]
    simp [byteCells, hc]
    omega

set_option maxHeartbeats 2000000 in
theorem drawLex (a : Option Addr) (n cap : Nat) (w : World) (hb : CodeB w a n) (hn : n ≤ 1048576) (hlt : ∀ x, a = some x → 0 < n → x.block < w.heap.size) :
    Calls Tryd.prog 20 #[.slice a n cap] w fun e w' => ∃ s : ByteArray, e = .returned (.string s) ∧ s.size ≤ 20001 ∧ Below w.heap.size w w' := by
  go_enter Tryd.func20, Tryd.ntmps20
  go_wp2_with (first
    | (go_at_call 23; refine (new_any a n cap w hb hn).mono ?_; rintro e w0 ⟨rfl, h0, rfl⟩; have C0 := new_can (cap := cap) hb hn hlt h0)
    | (go_at_call 39; refine (draw_can C0 (by simp)).mono ?_; rintro e w1 ⟨s, rfl, hs, D1⟩; have hw1 := D1.grown.size)
    | (go_at_call 27; refine (once_can (C0.draws D1) 100 (by decide) (by decide)).mono ?_; rintro e w2 ⟨b2, rfl, d2⟩; have D2 := D1.trans d2; clear d2 D1; have hw2 := D2.grown.size; cases b2)
    | (go_at_call 28; refine (below_can (C0.draws D2) 2 (by decide) (by decide)).mono ?_; rintro e w3 ⟨x3, rfl, hx3, d3⟩; have D3 := D2.trans d3; clear d3 D2; have hmk := made20 x3 hx3))
  · go_ret
    exact ⟨s, rfl, by omega, ((Below.refl _ w).alloc (Nat.le_refl _) _).trans (below_of_grown D2.grown (Nat.le_refl _) (by simp))⟩
  · clear hmk
    obtain ⟨N, hN⟩ : ∃ N : Nat, N = 20000 + x3 := ⟨_, rfl⟩
    rw [← hN]
    have hN2 : N ≤ 20001 := by omega
    clear hN
    have B3 : Below w.heap.size w w3 := ((Below.refl _ w).alloc (Nat.le_refl _) _).trans (below_of_grown D3.grown (Nat.le_refl _) (by simp))
    have hs3 := B3.size
    go_loopw [6] (fun i wq => ∃ q : Nat, q ≤ N ∧ i = .int .i64 (q : Int) ∧ wq.rowIs w3.heap.size 5 N (fun j => .int .u8 (if j < q then 59 else 0)) ∧ Below w.heap.size w wq) (fun i _ => N - (intOf i).toNat)
    case atStart => exact ⟨0, Nat.zero_le _, rfl, by simpa using World.rowIs_made w3 _ N 5, B3.alloc hs3 _⟩
    case round =>
      obtain ⟨q, hq, rfl, hrow, hbel⟩ := hrel
      by_cases hqn : q < N
      · have hqi : (q : Int) < (N : Int) := by omega
        have g1 := hrow.cell hqn
        have g2 := hrow.frozen q
        go_wp2
        go_roundw
        case rel => exact ⟨q + 1, by omega, by go_num, s_step hrow, hbel.setCell (p := ⟨_, q, none⟩) hs3 _⟩
        case measure => simp [intOf]; omega
      · obtain rfl : q = N := by omega
        have hl4 := own_of_rowS (hrow.congr (g := fun _ => .int .u8 59) fun i hi => by simp [hi]) (by unfold maxLen; omega)
        have hconv := own_string (P := Tryd.prog) Tryd.underlying22 Tryd.underlying5 Tryd.underlying9 hl4
        go_wp2
        go_ret
        refine ⟨_, rfl, ?_, hbel⟩
        simp [ByteArray.size]
        omega

end Go.Proofs.YtbnmefponeomiaaDoor.dr
