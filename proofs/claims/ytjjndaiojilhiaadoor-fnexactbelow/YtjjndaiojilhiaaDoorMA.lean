import Derived.Test.YtjjndaiojilhiaaDoorRE
import Derived.Test.YtjjndaiojilhiaaDoorTN
import Derived.Test.YtjjndaiojilhiaaDoorBF
namespace Go.Proofs.YtjjndaiojilhiaaDoor.tt
open Go.ChangeShapes Go.WideShapes Go.ChangeAt Go.RowKit Go.Deep
set_option linter.unusedVariables false
set_option linter.unusedSimpArgs false

/-! ### The law's marks: entries and bytes -/

theorem grown_set {w w' : World} {b : Nat} (h : w.grownBy w' (some b)) (i : Nat) (x : Value) : w.grownBy (w'.setCell ⟨b, i, none⟩ x) (some b) :=
  ⟨h.os, h.tape, h.output, by simpa using h.size, fun k hk hne => by
    rw [← h.block k hk hne]
    simp only [World.setCell]
    rw [Array.getElem?_modify]
    split
    · next e => exact absurd (by simp [e]) hne
    · rfl⟩
theorem grown_below {w w' w'' : World} {b : Nat} (h : w.grownBy w' (some b)) (hb : Below w'.heap.size w' w'') : w.grownBy w'' (some b) :=
  ⟨hb.os.trans h.os, hb.tape.trans h.tape, hb.output.trans h.output, Nat.le_trans h.size hb.size, fun k hk hne => (hb.block k (Nat.lt_of_lt_of_le hk h.size)).trans (h.block k hk hne)⟩
theorem grown_refl (w : World) (r : Option Nat) : w.grownBy w r := ⟨rfl, rfl, rfl, Nat.le_refl _, fun _ _ _ => rfl⟩

/-- Bytes, marked up to there. -/
def MB (w : World) (g i k0 : Nat) : Prop := ∀ j, j < i → w.cell? ⟨g, j, none⟩ = some (.int .u8 (((k0 + j : Nat) : Int) % 256))
/-- Cells that may be written. -/
def WB (w : World) (g z : Nat) : Prop := ∀ j, j < z → (w.cell? ⟨g, j, none⟩).isSome = true ∧ w.frozen? ⟨g, j, none⟩ = false

theorem WB.set {w : World} {g z : Nat} (h : WB w g z) (i : Nat) (x : Value) : WB (w.setCell ⟨g, i, none⟩ x) g z := fun j hj => by
  obtain ⟨h1, h2⟩ := h j hj
  refine ⟨?_, by rw [← h2]; simp [go_sem]⟩
  by_cases hji : j = i
  · subst hji
    obtain ⟨u, hu⟩ := Option.isSome_iff_exists.1 h1
    rw [World.cell?_setCell_same _ _ _ hu]; rfl
  · rw [World.cell?_setCell_other _ _ _ _ (fun e => hji (by cases e; rfl))]; exact h1

theorem MB.set {w : World} {g z i k0 : Nat} (h : MB w g i k0) (hw : WB w g z) (hi : i < z) : MB (w.setCell ⟨g, i, none⟩ (.int .u8 (((k0 + i : Nat) : Int) % 256))) g (i + 1) k0 := fun j hj => by
  by_cases hji : j = i
  · subst hji
    obtain ⟨u, hu⟩ := Option.isSome_iff_exists.1 (hw j hi).1
    exact World.cell?_setCell_same _ _ _ hu
  · rw [World.cell?_setCell_other _ _ _ _ (fun e => hji (by cases e; rfl))]; exact h j (by omega)

/-- What an entry is marked as. -/
def mEs (k0 : Nat) (i : Nat) : En := ⟨sr.mark (k0 + 4 * i), ((k0 + 4 * i + 1 : Nat) : Int), sr.mark (k0 + 4 * i + 2), decide ((k0 + 4 * i + 3) % 3 = 0)⟩

set_option maxRecDepth 100000 in
set_option maxHeartbeats 2000000 in
theorem markE_any (b n c k0 N : Nat) (f : Nat → Value) (w : World) (hr : w.rowIs b 38 N f) (hN : n * 4 ≤ N) (h0 : 0 < k0) (hn : n ≤ 1048576) (hk0 : k0 ≤ 1000000) :
    Calls Tryd.prog 10 #[.slice (some ⟨b, 0, none⟩) n c, .int .i64 (k0 : Int)] w fun e w' => e = .returned (.int .i64 ((k0 + 4 * n : Nat) : Int)) ∧ w'.rowIs b 38 N (fun j => if j < n * 4 then cellE (mEs k0) j else f j) ∧ w.grownBy w' (some b) := by
  go_enter Tryd.func10, Tryd.ntmps10
  go_wp2
  go_loopw [1, 5] (fun a x wr => ∃ (i : Nat), i ≤ n ∧ x = .int .i64 (i : Int) ∧ a = .int .i64 ((k0 + 4 * i : Nat) : Int) ∧ wr.rowIs b 38 N (fun j => if j < i * 4 then cellE (mEs k0) j else f j) ∧ w.grownBy wr (some b)) (fun _ x _ => n - (intOf x).toNat)
  case atStart => exact ⟨0, Nat.zero_le _, rfl, rfl, hr.congr (fun j hj => by simp), grown_refl _ _⟩
  case round =>
    clear hr
    obtain ⟨i, hi, rfl, rfl, hrow, hg⟩ := hrel
    by_cases h : i < n
    · have h' : (i : Int) < (n : Int) := by omega
      have HR : Hid (wr.rowIs b 38 N (fun j => if j < i * 4 then cellE (mEs k0) j else f j)) := hrow
      have HG : Hid (w.grownBy wr (some b)) := hg
      have HV0 : Hid (cellE (mEs k0) (i * 4) = .string (sr.mark (k0 + 4 * i))) := cellE0 _ _
      have HV1 : Hid (cellE (mEs k0) (i * 4 + 1) = .int .i64 ((k0 + 4 * i + 1 : Nat) : Int)) := cellE1 _ _
      have HV2 : Hid (cellE (mEs k0) (i * 4 + 2) = .string (sr.mark (k0 + 4 * i + 2))) := cellE2 _ _
      have HV3 : Hid (cellE (mEs k0) (i * 4 + 3) = .bool (decide ((k0 + 4 * i + 3) % 3 = 0))) := cellE3 _ _
      obtain ⟨K, hK⟩ : ∃ K : Nat, k0 + 4 * i = K := ⟨_, rfl⟩
      rw [hK] at HV0 HV1 HV2 HV3
      have HKK : Hid (k0 + 4 * i = K) := hK
      rw [hK]
      have hKb : K ≤ 6000000 := by omega
      have hK0 : 0 < K := by omega
      clear hK hrow hg
      have HM0 : Hid (∀ W, Calls Tryd.prog 25 #[.int .i64 (K : Int)] W fun e w' => e = .returned (.string (sr.mark K)) ∧ Below W.heap.size W w') := fun W => sr.mark_any K (by omega) (by omega) W
      have HM2 : Hid (∀ W, Calls Tryd.prog 25 #[.int .i64 ((K : Int) + 1 + 1)] W fun e w' => e = .returned (.string (sr.mark (K + 2))) ∧ Below W.heap.size W w') := fun W => by
        have := sr.mark_any (K + 2) (by omega) (by omega) W
        rwa [show ((K + 2 : Nat) : Int) = (K : Int) + 1 + 1 by omega] at this
      obtain ⟨s, hs⟩ : ∃ s, sr.mark K = s := ⟨_, rfl⟩
      obtain ⟨s2, hs2⟩ : ∃ s, sr.mark (K + 2) = s := ⟨_, rfl⟩
      rw [hs] at HM0 HV0
      rw [hs2] at HM2 HV2
      clear hs hs2
      go_wp2_with (go_at_call 25; refine (HM0.out _).mono ?_; rintro e w1 ⟨rfl, hb1⟩; refine Hid.out ?_)
      refine Lib.hid ?_
      have HR1 : Hid (w1.rowIs b 38 N (fun j => if j < i * 4 then cellE (mEs k0) j else f j)) := HR.out.of_block (hb1.block _ HR.out.lt)
      have q0 := HR1.out.cell (i := i * 4) (by omega)
      have q0f := HR1.out.frozen (i * 4)
      have q1 := HR1.out.cell (i := i * 4 + 1) (by omega)
      have q1f := HR1.out.frozen (i * 4 + 1)
      have HR2 : Hid (((w1.setCell ⟨b, i * 4, none⟩ (.string s)).setCell ⟨b, i * 4 + 1, none⟩ (.int .i64 ((K : Int) + 1))).rowIs b 38 N (fun j => if j < i * 4 + 2 then cellE (mEs k0) j else f j)) := mk_step (mk_step HR1.out HV0.out) (by rw [HV1.out]; congr 1)
      have HG2 : Hid (w.grownBy ((w1.setCell ⟨b, i * 4, none⟩ (.string s)).setCell ⟨b, i * 4 + 1, none⟩ (.int .i64 ((K : Int) + 1))) (some b)) := grown_set (grown_set (grown_below HG.out hb1) _ _) _ _
      clear hb1
      go_wp2_with (go_at_call 25; refine (HM2.out _).mono ?_; rintro e w2 ⟨rfl, hb2⟩; refine Hid.out ?_)
      refine Lib.hid ?_
      have HR3 : Hid (w2.rowIs b 38 N (fun j => if j < i * 4 + 2 then cellE (mEs k0) j else f j)) := HR2.out.of_block (hb2.block _ HR2.out.lt)
      have p2 := HR3.out.cell (i := i * 4 + 2) (by omega)
      have p2f := HR3.out.frozen (i * 4 + 2)
      have p3 := HR3.out.cell (i := i * 4 + 3) (by omega)
      have p3f := HR3.out.frozen (i * 4 + 3)
      have HG3 : Hid (∀ v, w.grownBy ((w2.setCell ⟨b, i * 4 + 2, none⟩ (.string s2)).setCell ⟨b, i * 4 + 3, none⟩ v) (some b)) := fun v => grown_set (grown_set (grown_below HG2.out hb2) _ _) _ _
      clear hb2 q0 q0f q1 q1f
      by_cases h3 : (K + 3) % 3 = 0
      · have h3' : (((K : Int) + 1 + 1 + 1) % 3 == 0) = true := by rw [beq_iff_eq]; omega
        have h3'' : ((K : Int) + 1 + 1 + 1) % 3 = 0 := by omega
        have HR4 : Hid (((w2.setCell ⟨b, i * 4 + 2, none⟩ (.string s2)).setCell ⟨b, i * 4 + 3, none⟩ (.bool true)).rowIs b 38 N (fun j => if j < (i + 1) * 4 then cellE (mEs k0) j else f j)) := by
          have := mk_step (mk_step HR3.out HV2.out) (HV3.out.trans (by rw [decide_eq_true h3]))
          rw [show (i + 1) * 4 = i * 4 + 2 + 1 + 1 by omega]
          exact this
        go_wp2
        go_roundw
        case rel => exact ⟨i + 1, by omega, by go_num, by rw [Nat.mul_add, ← Nat.add_assoc, HKK.out]; go_num, HR4.out, HG3.out _⟩
        case measure => simp [intOf]; omega
      · have h3' : (((K : Int) + 1 + 1 + 1) % 3 == 0) = false := by rw [beq_eq_false_iff_ne]; omega
        have h3'' : ¬ ((K : Int) + 1 + 1 + 1) % 3 = 0 := by omega
        have HR4 : Hid (((w2.setCell ⟨b, i * 4 + 2, none⟩ (.string s2)).setCell ⟨b, i * 4 + 3, none⟩ (.bool false)).rowIs b 38 N (fun j => if j < (i + 1) * 4 then cellE (mEs k0) j else f j)) := by
          have := mk_step (mk_step HR3.out HV2.out) (HV3.out.trans (by rw [decide_eq_false h3]))
          rw [show (i + 1) * 4 = i * 4 + 2 + 1 + 1 by omega]
          exact this
        go_wp2
        go_roundw
        case rel => exact ⟨i + 1, by omega, by go_num, by rw [Nat.mul_add, ← Nat.add_assoc, HKK.out]; go_num, HR4.out, HG3.out _⟩
        case measure => simp [intOf]; omega
    · have h' : ¬ (i : Int) < (n : Int) := by omega
      obtain rfl : i = n := by omega
      go_wp2
      go_ret
      exact ⟨rfl, hrow, hg⟩

end Go.Proofs.YtjjndaiojilhiaaDoor.tt
