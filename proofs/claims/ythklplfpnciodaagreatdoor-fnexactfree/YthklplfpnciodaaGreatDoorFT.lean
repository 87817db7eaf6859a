import Derived.Test.YthklplfpnciodaaGreatDoorRE
import Derived.Test.YthklplfpnciodaaGreatDoorXN
namespace Go.Proofs.YthklplfpnciodaaGreatDoor.ex
open Go.ChangeShapes Go.WideShapes Go.ChangeAt Go.RowKit Go.Deep
set_option linter.unusedVariables false
set_option linter.unusedSimpArgs false

/-- A row of nodes that may be written. -/
def WrR (w : World) (b n : Nat) : Prop := ∃ cs, w.heap[b]? = some (.cells cs 38 (0, 0)) ∧ n * 4 ≤ cs.size

theorem WrR.cell {w : World} {b n : Nat} (h : WrR w b n) (i : Nat) (hi : i < n * 4) : ∃ x, w.cell? ⟨b, i, none⟩ = some x ∧ w.frozen? ⟨b, i, none⟩ = false := by
  obtain ⟨cs, hc, hs⟩ := h
  have hlt : i < cs.size := by omega
  exact ⟨cs[i], by simp [World.cell?, hc, hlt], by simp [World.frozen?, hc]⟩

theorem WrR.setCell {w : World} {b n : Nat} (h : WrR w b n) (i : Nat) (x : Value) : WrR (w.setCell ⟨b, i, none⟩ x) b n := by
  obtain ⟨cs, hc, hs⟩ := h
  exact ⟨cs.setIfInBounds i x, by simp [World.setCell, Array.getElem?_modify, hc], by simpa using hs⟩

theorem WrR.grown {w w' : World} {b n : Nat} (h : WrR w b n) (hb : Below w.heap.size w w') : WrR w' b n := by
  obtain ⟨cs, hc, hs⟩ := h
  exact ⟨cs, by rw [hb.block _ (Array.getElem?_eq_some_iff.1 hc).1]; exact hc, hs⟩

theorem grown_set {w w' : World} {b : Nat} (h : w.grownBy w' (some b)) (i : Nat) (x : Value) : w.grownBy (w'.setCell ⟨b, i, none⟩ x) (some b) :=
  ⟨h.os, h.tape, h.output, by simpa using h.size, fun k hk hne => by
    rw [← h.block k hk hne]
    simp only [World.setCell]
    rw [Array.getElem?_modify]
    split
    · next e => exact absurd (by simp [e]) hne
    · rfl⟩

theorem grown_below {w w' w'' : World} {b : Nat} (h : w.grownBy w' (some b)) (hb : Below w'.heap.size w' w'') : w.grownBy w'' (some b) :=
  ⟨hb.os.trans h.os, hb.tape.trans h.tape, hb.output.trans h.output, Nat.le_trans h.size hb.size, fun k hk hne => (hb.block k (Nat.lt_of_lt_of_le hk h.size)).trans (h.block k hk hne)⟩

set_option maxRecDepth 100000 in
set_option maxHeartbeats 1000000 in
theorem markE_any (b n c k0 : Nat) (w : World) (hW : WrR w b n) (h0 : 0 < k0) (hn : n ≤ 1048576) (hk0 : k0 ≤ 1000000) :
    Calls Tryz.prog 10 #[.slice (some ⟨b, 0, none⟩) n c, .int .i64 (k0 : Int)] w fun e w' => e = .returned (.int .i64 ((k0 + 4 * n : Nat) : Int)) ∧ w.grownBy w' (some b) := by
  go_enter Tryz.func10, Tryz.ntmps10
  go_wp2
  go_loopw [1, 5] (fun a x wr => ∃ (i : Nat), i ≤ n ∧ x = .int .i64 (i : Int) ∧ a = .int .i64 ((k0 + 4 * i : Nat) : Int) ∧ WrR wr b n ∧ w.grownBy wr (some b)) (fun _ x _ => n - (intOf x).toNat)
  case atStart => exact ⟨0, Nat.zero_le _, rfl, rfl, hW, ⟨rfl, rfl, rfl, Nat.le_refl _, fun _ _ _ => rfl⟩⟩
  case round =>
    clear hW
    obtain ⟨i, hi, rfl, rfl, hW, hg⟩ := hrel
    by_cases h : i < n
    · have h' : (i : Int) < (n : Int) := by omega
      obtain ⟨K, hK⟩ : ∃ K : Nat, k0 + 4 * i = K := ⟨_, rfl⟩
      have HKK : Hid (k0 + 4 * i = K) := hK
      rw [hK]
      have hKb : K ≤ 6000000 := by omega
      have hK0 : 0 < K := by omega
      clear hK
      obtain ⟨x0, c0, f0⟩ := hW.cell (i * 4) (by omega)
      have HMT : Hid (∀ W, Calls Tryz.prog 24 #[.int .i64 ((K : Int) + 1)] W fun e w' => e = .returned (.string (sr.mark (K + 1))) ∧ Below W.heap.size W w') := fun W => by
        have := sr.mark_any (K + 1) (by omega) (by omega) W
        rwa [show ((K + 1 : Nat) : Int) = (K : Int) + 1 by omega] at this
      obtain ⟨s, hs⟩ : ∃ s, sr.mark (K + 1) = s := ⟨_, rfl⟩
      rw [hs] at HMT
      clear hs
      have HW1 : Hid (WrR (wr.setCell ⟨b, i * 4, none⟩ (.int .i64 (K : Int))) b n) := hW.setCell _ _
      have HG1 : Hid (w.grownBy (wr.setCell ⟨b, i * 4, none⟩ (.int .i64 (K : Int))) (some b)) := grown_set hg _ _
      go_wp2_with (go_at_call 24; refine (HMT.out _).mono ?_; rintro e w1 ⟨rfl, hb1⟩; obtain ⟨x1, c1, f1⟩ := (HW1.out.grown hb1).cell (i * 4 + 1) (by omega); obtain ⟨x2, c2, f2⟩ := (HW1.out.grown hb1).cell (i * 4 + 2) (by omega); obtain ⟨x3, c3, f3⟩ := (HW1.out.grown hb1).cell (i * 4 + 3) (by omega))
      go_roundw
      case rel =>
        refine ⟨i + 1, by omega, by go_num, by rw [Nat.mul_add, ← Nat.add_assoc, HKK.out]; go_num, ?_, ?_⟩
        · exact (((HW1.out.grown hb1).setCell _ _).setCell _ _).setCell _ _
        · exact grown_set (grown_set (grown_set (grown_below HG1.out hb1) _ _) _ _) _ _
      case measure => simp [intOf]; omega
    · have h' : ¬ (i : Int) < (n : Int) := by omega
      obtain rfl : i = n := by omega
      go_wp2
      go_ret
      exact ⟨rfl, hg⟩

end Go.Proofs.YthklplfpnciodaaGreatDoor.ex
