import Derived.Test.YtccgoodmkanncaaDoorQL
import Derived.Test.YtccgoodmkanncaaDoorRE
import Derived.Test.YtccgoodmkanncaaDoorSVT
namespace Go.Proofs.YtccgoodmkanncaaDoor.rc
open Go.ChangeShapes Go.WideShapes Go.ChangeAt Go.RowKit Go.Deep Go.Lib Go.Shelf Go.Proofs.YtccgoodmkanncaaDoor.vr
set_option linter.unusedVariables false
set_option linter.unusedSimpArgs false

/-- The cells of a row of terms, the first ones marked. -/
def MkT (w : World) (g n k i : Nat) : Prop := (∃ cs, w.heap[g]? = some (.cells cs 42 (0, 0)) ∧ n * 2 ≤ cs.size) ∧ ∀ j, j < i → w.cell? ⟨g, j, none⟩ = some (.string (sr.mark (k + j)))

theorem MkT.blk {w w' : World} {g n k i : Nat} (h : MkT w g n k i) (hb : w'.heap[g]? = w.heap[g]?) : MkT w' g n k i := by
  obtain ⟨⟨cs, hc, hs⟩, hm⟩ := h
  exact ⟨⟨cs, hb.trans hc, hs⟩, fun j hj => (World.cell?_of_block (a := ⟨g, j, none⟩) hb).trans (hm j hj)⟩
theorem MkT.lt {w : World} {g n k i : Nat} (h : MkT w g n k i) : g < w.heap.size := by
  obtain ⟨⟨cs, hc, _⟩, _⟩ := h
  exact (Array.getElem?_eq_some_iff.1 hc).1
theorem MkT.below {w w' : World} {g n k i : Nat} (h : MkT w g n k i) (hb : Below w.heap.size w w') : MkT w' g n k i := h.blk (hb.block g h.lt)

theorem MkT.step {w : World} {g n k i : Nat} (h : MkT w g n k i) (hi : i < n * 2) : MkT (w.setCell ⟨g, i, none⟩ (.string (sr.mark (k + i)))) g n k (i + 1) := by
  obtain ⟨⟨cs, hc, hs⟩, hm⟩ := h
  have e : (w.setCell ⟨g, i, none⟩ (.string (sr.mark (k + i)))).heap[g]? = some (.cells (cs.setIfInBounds i (.string (sr.mark (k + i)))) 42 (0, 0)) := by
    simp [World.setCell, Array.getElem?_modify, hc]
  refine ⟨⟨_, e, by simp; omega⟩, fun j hj => ?_⟩
  have key : (w.setCell ⟨g, i, none⟩ (.string (sr.mark (k + i)))).cell? ⟨g, j, none⟩ = (cs.setIfInBounds i (.string (sr.mark (k + i))))[j]? := by simp [World.cell?, e]
  rw [key, Array.getElem?_setIfInBounds]
  by_cases hji : j = i
  · subst hji
    rw [if_pos rfl, if_pos (by omega)]
  · have := hm j (by omega)
    simp only [World.cell?, hc] at this
    rw [if_neg (by omega)]
    simpa using this

theorem MkT.cell {w : World} {g n k i : Nat} (h : MkT w g n k i) (j : Nat) (hj : j < n * 2) : ∃ x, w.cell? ⟨g, j, none⟩ = some x ∧ w.frozen? ⟨g, j, none⟩ = false := by
  obtain ⟨⟨cs, hc, hs⟩, _⟩ := h
  have hlt : j < cs.size := by omega
  exact ⟨cs[j], by simp [World.cell?, hc, hlt], by simp [World.frozen?, hc]⟩

set_option maxRecDepth 100000 in
set_option maxHeartbeats 2000000 in
theorem markTS_any (g n c k0 : Nat) (w : World) (hM : MkT w g n k0 0) (h0 : 0 < k0) (hn : k0 + n * 2 ≤ 1000000) :
    Calls Tryd.prog 42 #[.slice (some ⟨g, 0, none⟩) n c, .int .i64 (k0 : Int)] w fun e w' => e = .returned (.int .i64 ((k0 + n * 2 : Nat) : Int)) ∧ MkT w' g n k0 (n * 2) ∧ w.grownBy w' (some g) := by
  go_enter Tryd.func42, Tryd.ntmps42
  go_wp2
  go_loopw [1, 5] (fun a x wr => ∃ (i : Nat), i ≤ n ∧ x = .int .i64 (i : Int) ∧ a = .int .i64 ((k0 + i * 2 : Nat) : Int) ∧ MkT wr g n k0 (i * 2) ∧ w.grownBy wr (some g)) (fun _ x _ => n - (intOf x).toNat)
  case atStart => exact ⟨0, Nat.zero_le _, rfl, rfl, hM, sv.grown_refl _ _⟩
  case round =>
    clear hM
    obtain ⟨i, hi, rfl, rfl, hM, hbel⟩ := hrel
    by_cases h : i < n
    · have h' : (i : Int) < (n : Int) := by omega
      have HMT : Hid (∀ (K : Nat) (W : World), 0 < K → K ≤ 2000000 → Calls Tryd.prog 48 #[.int .i64 (K : Int)] W fun e w' => e = .returned (.string (sr.mark K)) ∧ Below W.heap.size W w') := fun K W h1 h2 => sr.mark_any K h1 (by omega) W
      obtain ⟨K, hK⟩ : ∃ K : Nat, k0 + i * 2 = K := ⟨_, rfl⟩
      have HKK : Hid (k0 + i * 2 = K) := hK
      have HMM : Hid (MkT wr g n k0 (i * 2)) := hM
      have HBB : Hid (w.grownBy wr (some g)) := hbel
      rw [hK]
      have hKb : K ≤ 1000000 := by omega
      have hK0 : 0 < K := by omega
      have M1 : Hid (∀ W, Calls Tryd.prog 48 #[.int .i64 (K : Int)] W fun e w' => e = .returned (.string (sr.mark K)) ∧ Below W.heap.size W w') := fun W => HMT.out K W hK0 (by omega)
      have M2 : Hid (∀ W, Calls Tryd.prog 48 #[.int .i64 ((K : Int) + 1)] W fun e w' => e = .returned (.string (sr.mark (K + 1))) ∧ Below W.heap.size W w') := fun W => by
        have := HMT.out (K + 1) W (by omega) (by omega)
        rwa [Int.natCast_add] at this
      obtain ⟨S1, hS1⟩ : ∃ s, sr.mark K = s := ⟨_, rfl⟩
      obtain ⟨S2, hS2⟩ : ∃ s, sr.mark (K + 1) = s := ⟨_, rfl⟩
      have HS1 : Hid (sr.mark (k0 + i * 2) = S1) := by show _ = _; rw [hK]; exact hS1
      have HS2 : Hid (sr.mark (k0 + (i * 2 + 1)) = S2) := by show _ = _; rw [← Nat.add_assoc, hK]; exact hS2
      rw [hS1] at M1
      rw [hS2] at M2
      have F1 : Hid True := trivial
      clear hK hM hbel hS1 hS2
      go_wp2_with (first
        | (go_at_call 48; have := F1.out; refine (M1.out _).mono ?_; rintro e w1 ⟨rfl, hb1⟩; have HM1 : Hid (MkT (w1.setCell ⟨g, i * 2, none⟩ (.string S1)) g n k0 (i * 2 + 1)) := (by have := (HMM.out.below hb1).step (show i * 2 < n * 2 by omega); rw [HS1.out] at this; exact this); obtain ⟨x, hx, hfx⟩ := (HMM.out.below hb1).cell (i * 2) (by omega); clear F1)
        | (go_at_call 48; refine (M2.out _).mono ?_; rintro e w2 ⟨rfl, hb2⟩; obtain ⟨y, hy, hfy⟩ := (HM1.out.below hb2).cell (i * 2 + 1) (by omega)))
      go_roundw
      case rel =>
        refine ⟨i + 1, by omega, by go_num, by rw [Nat.add_mul, ← Nat.add_assoc, HKK.out]; go_num, ?_, ?_⟩
        · have := (HM1.out.below hb2).step (show i * 2 + 1 < n * 2 by omega)
          rw [HS2.out] at this
          rw [show (i + 1) * 2 = i * 2 + 1 + 1 by omega]
          exact this
        · exact sv.grown_set (sv.grown_below (sv.grown_set (sv.grown_below HBB.out hb1) _ _) hb2) _ _
      case measure => simp [intOf]; omega
    · have h' : ¬ (i : Int) < (n : Int) := by omega
      obtain rfl : i = n := by omega
      go_wp2
      go_ret
      exact ⟨rfl, hM, hbel⟩

set_option maxRecDepth 100000 in
set_option maxHeartbeats 2000000 in
theorem heldTS_any (g n c k0 : Nat) (w : World) (hM : MkT w g n k0 (n * 2)) (h0 : 0 < k0) (hn : k0 + n * 2 ≤ 1000000) :
    Calls Tryd.prog 43 #[.slice (some ⟨g, 0, none⟩) n c, .int .i64 (k0 : Int)] w fun e w' => e = .returned (.int .i64 ((k0 + n * 2 : Nat) : Int)) ∧ Below w.heap.size w w' := by
  go_enter Tryd.func43, Tryd.ntmps43
  go_wp2
  go_loopw [1, 5] (fun a x wr => ∃ (i : Nat), i ≤ n ∧ x = .int .i64 (i : Int) ∧ a = .int .i64 ((k0 + i * 2 : Nat) : Int) ∧ Below w.heap.size w wr) (fun _ x _ => n - (intOf x).toNat)
  case atStart => exact ⟨0, Nat.zero_le _, rfl, rfl, Below.refl _ _⟩
  case round =>
    obtain ⟨i, hi, rfl, rfl, hbel⟩ := hrel
    by_cases h : i < n
    · have h' : (i : Int) < (n : Int) := by omega
      have hi0 : (0 : Int) ≤ (i : Int) := by omega
      obtain ⟨K, hK⟩ : ∃ K : Nat, k0 + i * 2 = K := ⟨_, rfl⟩
      have HKK : Hid (k0 + i * 2 = K) := hK
      have HBB : Hid (Below w.heap.size w wr) := hbel
      have HC1 : Hid (∀ W, Below w.heap.size w W → W.cell? ⟨g, i * 2, none⟩ = some (.string (sr.mark K))) := fun W hb => by have := (hM.below hb).2 (i * 2) (by omega); rwa [hK] at this
      have HC2 : Hid (∀ W, Below w.heap.size w W → W.cell? ⟨g, i * 2 + 1, none⟩ = some (.string (sr.mark (K + 1)))) := fun W hb => by have := (hM.below hb).2 (i * 2 + 1) (by omega); rwa [← Nat.add_assoc, hK] at this
      rw [hK]
      have hKb : K ≤ 1000000 := by omega
      have hK0 : 0 < K := by omega
      have M1 : Hid (∀ W, Calls Tryd.prog 48 #[.int .i64 (K : Int)] W fun e w' => e = .returned (.string (sr.mark K)) ∧ Below W.heap.size W w') := fun W => sr.mark_any K hK0 (by omega) W
      have M2 : Hid (∀ W, Calls Tryd.prog 48 #[.int .i64 ((K : Int) + 1)] W fun e w' => e = .returned (.string (sr.mark (K + 1))) ∧ Below W.heap.size W w') := fun W => by
        have := sr.mark_any (K + 1) (by omega) (by omega) W
        rwa [Int.natCast_add] at this
      obtain ⟨S1, hS1⟩ : ∃ s, sr.mark K = s := ⟨_, rfl⟩
      obtain ⟨S2, hS2⟩ : ∃ s, sr.mark (K + 1) = s := ⟨_, rfl⟩
      rw [hS1] at M1 HC1
      rw [hS2] at M2 HC2
      clear hK hS1 hS2 hbel hM
      go_wp2_with fail
      go_region_held3 (fun W => W.cell? ⟨g, i * 2, none⟩ = some (.string S1))
        (first | exact HC1.out _ HBB.out.drew | exact HC1.out _ hb1 | exact HC1.out _ HBB.out | go_keep)
        (((go_at_call 48; refine (M1.out _).mono ?_; rintro e w1 ⟨rfl, hl1⟩; have hb1 : Below w.heap.size w w1 := HBB.out.drew.trans (hl1.mono HBB.out.size))))
      go_wp2_with fail
      go_region_held3 (fun W => W.cell? ⟨g, i * 2 + 1, none⟩ = some (.string S2))
        (first | exact HC2.out _ hb1.drew | exact HC2.out _ hb2 | exact HC2.out _ hb1 | go_keep)
        (((go_at_call 48; refine (M2.out _).mono ?_; rintro e w2 ⟨rfl, hl2⟩; have hb2 : Below w.heap.size w w2 := hb1.drew.trans (hl2.mono hb1.size))))
      go_wp2_with fail
      go_roundw
      case rel => exact ⟨i + 1, by omega, by go_num, by rw [Nat.add_mul, ← Nat.add_assoc, HKK.out]; go_num, hb2⟩
      case measure => simp [intOf]; omega
    · have h' : ¬ (i : Int) < (n : Int) := by omega
      obtain rfl : i = n := by omega
      go_wp2
      go_ret
      exact ⟨rfl, hbel⟩

end Go.Proofs.YtccgoodmkanncaaDoor.rc
