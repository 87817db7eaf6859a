import Derived.Test.YtbgfgidgpbgbhaaRE
import Derived.Test.YtbgfgidgpbgbhaaFLE
namespace Go.Proofs.Ytbgfgidgpbgbhaa.fl
open Go.ChangeShapes Go.WideShapes Go.ChangeAt Go.RowKit Go.Deep Go.Sort
set_option linter.unusedVariables false
set_option linter.unusedSimpArgs false

/-- A row of nodes that may be written. -/
def WrR (w : World) (b n : Nat) : Prop := ∃ cs, w.heap[b]? = some (.cells cs 41 (0, 0)) ∧ n * 3 ≤ cs.size

theorem WrR.cell {w : World} {b n : Nat} (h : WrR w b n) (i : Nat) (hi : i < n * 3) : ∃ x, w.cell? ⟨b, i, none⟩ = some x ∧ w.frozen? ⟨b, i, none⟩ = false := by
  obtain ⟨cs, hc, hs⟩ := h
  have hlt : i < cs.size := by omega
  exact ⟨cs[i], by simp [World.cell?, hc, hlt], by simp [World.frozen?, hc]⟩

theorem WrR.setCell {w : World} {b n : Nat} (h : WrR w b n) (i : Nat) (x : Value) : WrR (w.setCell ⟨b, i, none⟩ x) b n := by
  obtain ⟨cs, hc, hs⟩ := h
  exact ⟨cs.setIfInBounds i x, by simp [World.setCell, Array.getElem?_modify, hc], by simpa using hs⟩

theorem WrR.grown {w w' : World} {b n : Nat} (h : WrR w b n) (hb : Below w.heap.size w w') : WrR w' b n := by
  obtain ⟨cs, hc, hs⟩ := h
  exact ⟨cs, by rw [hb.block _ (Array.getElem?_eq_some_iff.1 hc).1]; exact hc, hs⟩

theorem grown_set {w w' : World} {b : Nat} (h : w.grownBy w' (some b)) (i : Nat) (x : Value) : w.grownBy (w'.setCell ⟨b, i, none⟩ x) (some b) :=
  ⟨h.os, h.tape, h.output, by simpa using h.size, fun k hk hne => by
    rw [← h.block k hk hne]
    simp only [World.setCell]
    rw [Array.getElem?_modify]
    split
    · next e => exact absurd (by simp [e]) hne
    · rfl⟩

theorem grown_below {w w' w'' : World} {b : Nat} (h : w.grownBy w' (some b)) (hb : Below w'.heap.size w' w'') : w.grownBy w'' (some b) :=
  ⟨hb.os.trans h.os, hb.tape.trans h.tape, hb.output.trans h.output, Nat.le_trans h.size hb.size, fun k hk hne => (hb.block k (Nat.lt_of_lt_of_le hk h.size)).trans (h.block k hk hne)⟩

set_option maxRecDepth 100000 in
set_option maxHeartbeats 1000000 in
theorem markC_any (b n c k0 : Nat) (w : World) (hW : WrR w b n) (h0 : 0 < k0) (hn : n ≤ 1048576) (hk0 : k0 ≤ 1000000) :
    Calls Try.prog 14 #[.slice (some ⟨b, 0, none⟩) n c, .int .i64 (k0 : Int)] w fun e w' => e = .returned (.int .i64 ((k0 + 3 * n : Nat) : Int)) ∧ w.grownBy w' (some b) := by
  go_enter Try.func14, Try.ntmps14
  go_wp2
  go_loopw [1, 5] (fun a x wr => ∃ (i : Nat), i ≤ n ∧ x = .int .i64 (i : Int) ∧ a = .int .i64 ((k0 + 3 * i : Nat) : Int) ∧ WrR wr b n ∧ w.grownBy wr (some b)) (fun _ x _ => n - (intOf x).toNat)
  case atStart => exact ⟨0, Nat.zero_le _, rfl, rfl, hW, ⟨rfl, rfl, rfl, Nat.le_refl _, fun _ _ _ => rfl⟩⟩
  case round =>
    clear hW
    obtain ⟨i, hi, rfl, rfl, hW, hg⟩ := hrel
    by_cases h : i < n
    · have h' : (i : Int) < (n : Int) := by omega
      obtain ⟨K, hK⟩ : ∃ K : Nat, k0 + 3 * i = K := ⟨_, rfl⟩
      have HKK : Hid (k0 + 3 * i = K) := hK
      rw [hK]
      have hKb : K ≤ 6000000 := by omega
      have hK0 : 0 < K := by omega
      clear hK
      obtain ⟨x0, c0, f0⟩ := hW.cell (i * 3) (by omega)
      have HMT : Hid (∀ W, Calls Try.prog 30 #[.int .i64 ((K : Int) + 1)] W fun e w' => e = .returned (.string (sr.mark (K + 1))) ∧ Below W.heap.size W w') := fun W => by
        have := sr.mark_any (K + 1) (by omega) (by omega) W
        rwa [show ((K + 1 : Nat) : Int) = (K : Int) + 1 by omega] at this
      obtain ⟨s, hs⟩ : ∃ s, sr.mark (K + 1) = s := ⟨_, rfl⟩
      rw [hs] at HMT
      clear hs
      have HW1 : Hid (WrR (wr.setCell ⟨b, i * 3, none⟩ (.int .i64 (K : Int))) b n) := hW.setCell _ _
      have HG1 : Hid (w.grownBy (wr.setCell ⟨b, i * 3, none⟩ (.int .i64 (K : Int))) (some b)) := grown_set hg _ _
      go_wp2_with (go_at_call 30; refine (HMT.out _).mono ?_; rintro e w1 ⟨rfl, hb1⟩; obtain ⟨x1, c1, f1⟩ := (HW1.out.grown hb1).cell (i * 3 + 1) (by omega); obtain ⟨x2, c2, f2⟩ := (HW1.out.grown hb1).cell (i * 3 + 2) (by omega))
      go_roundw
      case rel =>
        refine ⟨i + 1, by omega, by go_num, by rw [Nat.mul_add, ← Nat.add_assoc, HKK.out]; go_num, ?_, ?_⟩
        · exact ((HW1.out.grown hb1).setCell _ _).setCell _ _
        · exact grown_set (grown_set (grown_below HG1.out hb1) _ _) _ _
      case measure => simp [intOf]; omega
    · have h' : ¬ (i : Int) < (n : Int) := by omega
      obtain rfl : i = n := by omega
      go_wp2
      go_ret
      exact ⟨rfl, hg⟩

def FMA (xs : List (List UInt8)) : List ByteArray := xs.map fun x => ⟨x.toArray⟩

theorem StrR.ssF {w : World} {v : Value} {xs : List (List UInt8)} (h : StrR w v xs) : ∃ a c, v = .slice a xs.length c ∧ st.Ss w a xs.length (FMA xs) := by
  obtain ⟨bb, off, cap, rfl, _, _, hc⟩ := h
  refine ⟨_, cap, rfl, .inr ⟨bb, off, rfl, fun i hi => ?_⟩⟩
  rw [hc i _ (xAt_some hi), strL]
  congr 2
  simp [st.atS, FMA, xAt, hi]

theorem blk_marks {w : World} {g c : Nat} {xs : List (List UInt8)} (h : Blk w g c xs) : sr.MkR w g 0 xs.length 1 0 ∧ st.Ss w (some ⟨g, 0, none⟩) xs.length (FMA xs) ∧ g < w.heap.size := by
  obtain ⟨cur, hg, hs, ht⟩ := h.row
  have hle := h.le
  refine ⟨⟨⟨cur, hg, by omega⟩, fun j hj => by omega⟩, .inr ⟨g, 0, rfl, fun i hi => ?_⟩, (Array.getElem?_eq_some_iff.1 hg).1⟩
  have h0 := (holds_of_block hg ht i (by simpa using hi)).1
  rw [h0]
  show some (Value.string _) = _
  congr 2
  have : xs.toArray[i]! = xs[i] := at_toArray xs i hi
  rw [this]
  simp [st.atS, FMA, hi]

theorem mk_grown {w w' : World} {g off n k i b : Nat} (h : sr.MkR w g off n k i) (hg : w.grownBy w' (some b)) (hne : g ≠ b) : sr.MkR w' g off n k i := by
  obtain ⟨⟨cs, hc, hs⟩, hm⟩ := h
  have hlt := (Array.getElem?_eq_some_iff.1 hc).1
  have e := hg.block g hlt (by simp [hne])
  exact ⟨⟨cs, e.trans hc, hs⟩, fun j hj => (World.cell?_of_block e).trans (hm j hj)⟩

theorem ss_grown {w w' : World} {g n b : Nat} {l : List ByteArray} (h : st.Ss w (some ⟨g, 0, none⟩) n l) (hg : w.grownBy w' (some b)) (hne : g ≠ b) : st.Ss w' (some ⟨g, 0, none⟩) n l := by
  rcases h with h | ⟨g', off, e, hc⟩
  · exact .inl h
  · cases e
    exact .inr ⟨g, 0, rfl, fun i hi => (World.cell?_of_block (hg.block g (World.block_lt_of_cell? _ _ (hc i hi)) (by simp [hne]))).trans (hc i hi)⟩

theorem grow_below {B b : Nat} {w w1 w2 : World} (h : Below B w w1) (hg : w1.grownBy w2 (some b)) (hB : B ≤ w1.heap.size) (hb : B ≤ b) : Below B w w2 := h.grown hg hB (fun k hk => by cases hk; exact hb)

theorem row_wr {w w' : World} {b n : Nat} {f : Nat → Value} (h : w.rowIs b 41 (n * 3) f) (hb : Below w.heap.size w w') : WrR w' b n := by
  obtain ⟨c, hc, hs, _⟩ := h
  exact ⟨c, (hb.block b (Array.getElem?_eq_some_iff.1 hc).1).trans hc, by omega⟩


end Go.Proofs.Ytbgfgidgpbgbhaa.fl
