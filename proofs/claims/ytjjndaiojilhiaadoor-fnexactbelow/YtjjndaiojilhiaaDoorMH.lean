import Derived.Test.YtjjndaiojilhiaaDoorMA
import Derived.Deep.RegionHeld3
namespace Go.Proofs.YtjjndaiojilhiaaDoor.tt
open Go.ChangeShapes Go.WideShapes Go.ChangeAt Go.RowKit Go.Deep
set_option linter.unusedVariables false
set_option linter.unusedSimpArgs false

/-! ### The law's marks, held -/

set_option maxRecDepth 100000 in
set_option maxHeartbeats 4000000 in
theorem heldE_any (b n c k0 : Nat) (w : World) (hR : EnR w b 0 n (mEs k0)) (h0 : 0 < k0) (hn : n ≤ 1048576) (hk0 : k0 ≤ 1000000) :
    Calls Tryd.prog 11 #[.slice (some ⟨b, 0, none⟩) n c, .int .i64 (k0 : Int)] w fun e w' => e = .returned (.int .i64 ((k0 + 4 * n : Nat) : Int)) ∧ Below w.heap.size w w' := by
  have HER : Hid (EnR w b 0 n (mEs k0)) := hR
  clear hR
  go_enter Tryd.func11, Tryd.ntmps11
  go_wp2
  go_loopw [1, 5] (fun a x wr => ∃ (i : Nat), i ≤ n ∧ x = .int .i64 (i : Int) ∧ a = .int .i64 ((k0 + 4 * i : Nat) : Int) ∧ Below w.heap.size w wr) (fun _ x _ => n - (intOf x).toNat)
  case atStart => exact ⟨0, Nat.zero_le _, rfl, rfl, Below.refl _ _⟩
  case round =>
    obtain ⟨i, hi, rfl, rfl, hbel⟩ := hrel
    by_cases h : i < n
    · have h' : (i : Int) < (n : Int) := by omega
      have HBB : Hid (Below w.heap.size w wr) := hbel
      have HC : Hid (∀ W, Below w.heap.size w W → W.cell? ⟨b, i * 4, none⟩ = some (.string (sr.mark (k0 + 4 * i))) ∧ W.cell? ⟨b, i * 4 + 1, none⟩ = some (.int .i64 ((k0 + 4 * i + 1 : Nat) : Int)) ∧ W.cell? ⟨b, i * 4 + 2, none⟩ = some (.string (sr.mark (k0 + 4 * i + 2))) ∧ W.cell? ⟨b, i * 4 + 3, none⟩ = some (.bool (decide ((k0 + 4 * i + 3) % 3 = 0)))) := fun W hW => by
        obtain ⟨a0, a1, a2, a3⟩ := (HER.out i h).below hW
        rw [Nat.zero_add] at a0 a1 a2 a3
        exact ⟨a0, a1, a2, a3⟩
      obtain ⟨K, hK⟩ : ∃ K : Nat, k0 + 4 * i = K := ⟨_, rfl⟩
      rw [hK] at HC
      have HKK : Hid (k0 + 4 * i = K) := hK
      rw [hK]
      have hKb : K ≤ 6000000 := by omega
      have hK0 : 0 < K := by omega
      clear hK hbel
      have HM0 : Hid (∀ W, Calls Tryd.prog 25 #[.int .i64 (K : Int)] W fun e w' => e = .returned (.string (sr.mark K)) ∧ Below W.heap.size W w') := fun W => sr.mark_any K (by omega) (by omega) W
      have HM2 : Hid (∀ W, Calls Tryd.prog 25 #[.int .i64 ((K : Int) + 1 + 1)] W fun e w' => e = .returned (.string (sr.mark (K + 2))) ∧ Below W.heap.size W w') := fun W => by
        have := sr.mark_any (K + 2) (by omega) (by omega) W
        rwa [show ((K + 2 : Nat) : Int) = (K : Int) + 1 + 1 by omega] at this
      obtain ⟨s, hs⟩ : ∃ s, sr.mark K = s := ⟨_, rfl⟩
      obtain ⟨s2, hs2⟩ : ∃ s, sr.mark (K + 2) = s := ⟨_, rfl⟩
      obtain ⟨bb, hbb⟩ : ∃ bb, decide ((K + 3) % 3 = 0) = bb := ⟨_, rfl⟩
      rw [hs, hs2, hbb] at HC
      rw [hs] at HM0
      rw [hs2] at HM2
      have HQ : Hid (((((K : Int) + 1 + 1 + 1) % 3 == 0) : Bool) = bb) := by
        show _ = _
        rw [← hbb, Bool.eq_iff_iff]
        simp only [beq_iff_eq, decide_eq_true_eq]
        omega
      clear hs hs2 hbb
      have HCd : Hid (∀ W, Below w.heap.size w W → W.cell? ⟨b, i * 4, none⟩ = some (.string s)) := fun W hW => (HC.out W hW).1
      have HCe : Hid (∀ W, Below w.heap.size w W → W.cell? ⟨b, i * 4 + 2, none⟩ = some (.string s2)) := fun W hW => (HC.out W hW).2.2.1
      have d0 := HCd.out wr HBB.out
      go_wp2_with fail
      go_region_held3 (fun w' => w'.cell? ⟨b, i * 4, none⟩ = some (.string s))
        (first
          | go_keep
          | exact HCd.out _ (HBB.out.drew.trans (hb1.mono HBB.out.size)))
        (first | ((go_at_call 25; refine (HM0.out _).mono ?_; rintro e w1 ⟨rfl, hb1⟩)))
      have HB1 : Hid (Below w.heap.size w w1) := HBB.out.drew.trans (hb1.mono HBB.out.size)
      have e1 := (HC.out w1 HB1.out).2.1
      have e2 := HCe.out w1 HB1.out
      rw [show ((K + 1 : Nat) : Int) = (K : Int) + 1 by omega] at e1
      clear hb1 d0
      go_wp2_with fail
      go_region_held3 (fun w' => w'.cell? ⟨b, i * 4 + 2, none⟩ = some (.string s2))
        (first
          | go_keep
          | exact HCe.out _ (HB1.out.drew.trans (hb2.mono HB1.out.size)))
        (first | ((go_at_call 25; refine (HM2.out _).mono ?_; rintro e w2 ⟨rfl, hb2⟩)))
      have HB2 : Hid (Below w.heap.size w w2) := HB1.out.drew.trans (hb2.mono HB1.out.size)
      have e3 := (HC.out w2 HB2.out).2.2.2
      clear hb2 e1 e2
      cases bb with
      | true =>
        have hq : ((K : Int) + 1 + 1 + 1) % 3 = 0 := by have := HQ.out; simpa using this
        have hq' := HQ.out
        go_wp2
        go_roundw
        case rel => exact ⟨i + 1, by omega, by go_num, by rw [Nat.mul_add, ← Nat.add_assoc, HKK.out]; go_num, HB2.out⟩
        case measure => simp [intOf]; omega
      | false =>
        have hq : ¬ ((K : Int) + 1 + 1 + 1) % 3 = 0 := by have := HQ.out; simpa using this
        have hq' := HQ.out
        go_wp2
        go_roundw
        case rel => exact ⟨i + 1, by omega, by go_num, by rw [Nat.mul_add, ← Nat.add_assoc, HKK.out]; go_num, HB2.out⟩
        case measure => simp [intOf]; omega
    · have h' : ¬ (i : Int) < (n : Int) := by omega
      obtain rfl : i = n := by omega
      go_wp2
      go_ret
      exact ⟨rfl, hbel⟩

end Go.Proofs.YtjjndaiojilhiaaDoor.tt
