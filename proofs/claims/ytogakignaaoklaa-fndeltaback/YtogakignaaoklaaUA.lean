import Derived.Test.YtogakignaaoklaaBN
import Derived.Lib.Hide
import Derived.Test.YtogakignaaoklaaRows
namespace Go.Proofs.Ytogakignaaoklaa.up
open Go.ChangeShapes Go.WideShapes Go.ChangeAt Go.RowKit Go.Deep
set_option linter.unusedVariables false
set_option linter.unusedSimpArgs false

/-! ### Bytes that are unpacked: the program's reader -/

/-- What is left of the bytes in block b, from place i on. -/
def Rs (w : World) (p b N i : Nat) : Prop := ∃ o c, w.cell? ⟨p, 0, none⟩ = some (.slice (some ⟨b, o, none⟩) (N - i) c) ∧ w.frozen? ⟨p, 0, none⟩ = false ∧ (i < N → o = i) ∧ N - i ≤ c ∧ c ≤ 9223372036854775807 ∧ i ≤ N

theorem Rs.kept {w w' : World} {p b N i : Nat} (h : Rs w p b N i) (hb : w'.heap[p]? = w.heap[p]?) : Rs w' p b N i := by
  obtain ⟨o, c, h1, h2, h3⟩ := h
  exact ⟨o, c, (World.cell?_of_block (a := ⟨p, 0, none⟩) hb).trans h1, (World.frozen?_of_block (a := ⟨p, 0, none⟩) hb).trans h2, h3⟩
theorem Rs.lt {w : World} {p b N i : Nat} (h : Rs w p b N i) : p < w.heap.size := by obtain ⟨o, c, h1, _⟩ := h; exact World.block_lt_of_cell? _ _ h1
theorem Rs.below {w w' : World} {p b N i : Nat} (h : Rs w p b N i) (hb : Below w.heap.size w w') : Rs w' p b N i := h.kept (hb.block p h.lt)

theorem grown_set {w w' : World} {b : Nat} (h : w.grownBy w' (some b)) (i : Nat) (x : Value) : w.grownBy (w'.setCell ⟨b, i, none⟩ x) (some b) :=
  ⟨h.os, h.tape, h.output, by simpa using h.size, fun k hk hne => by
    rw [← h.block k hk hne]
    simp only [World.setCell]
    rw [Array.getElem?_modify]
    split
    · next e => exact absurd (by simp [e]) hne
    · rfl⟩
theorem grown_refl (w : World) (r : Option Nat) : w.grownBy w r := ⟨rfl, rfl, rfl, Nat.le_refl _, fun _ _ _ => rfl⟩

theorem Rs.next {w : World} {p b N i o c k : Nat} (hc : w.cell? ⟨p, 0, none⟩ = some (.slice (some ⟨b, o, none⟩) (N - i) c)) (hf : w.frozen? ⟨p, 0, none⟩ = false) (ho : i < N → o = i) (hcN : N - i ≤ c) (hcm : c ≤ 9223372036854775807) (hiN : i ≤ N) (hk : k ≤ N - i) (z o' : Nat) (hz : z = N - (i + k)) (ho' : i + k < N → o' = i + k) :
    Rs (w.setCell ⟨p, 0, none⟩ (.slice (some ⟨b, o', none⟩) z (c - k))) p b N (i + k) := by
  subst hz
  exact ⟨o', c - k, World.cell?_setCell_same _ _ _ hc, by rw [← hf]; simp [go_sem], ho', by omega, by omega, by omega⟩

/-- What a cut leaves. -/
def CutR (w w' : World) (p b N i s : Nat) (e : Ending) : Prop := ∃ o k, k = min s (N - i) ∧ e = .returned (.slice (some ⟨b, o, none⟩) k k) ∧ (i < N → o = i) ∧ Rs w' p b N (i + k) ∧ w.grownBy w' (some p)
theorem cutR_mk {w w' : World} {p b N i s o k : Nat} (h1 : k = min s (N - i)) (h2 : i < N → o = i) (h3 : Rs w' p b N (i + k)) (h4 : w.grownBy w' (some p)) : CutR w w' p b N i s (.returned (.slice (some ⟨b, o, none⟩) k k)) := ⟨o, k, h1, rfl, h2, h3, h4⟩

set_option maxRecDepth 100000 in
theorem cut_any (b p N i s : Nat) (hs : s < 18446744073709551616) (w : World) (h : Rs w p b N i) (hN : N ≤ 1048576) :
    Calls Try.prog 23 #[.pointer (some ⟨p, 0, none⟩), .int .u64 (s : Int)] w fun e w' => CutR w w' p b N i s e := by
  obtain ⟨o, c, hc, hf, ho, hcN, hcm, hiN⟩ := h
  obtain ⟨n, hn⟩ : ∃ n, n = N - i := ⟨_, rfl⟩
  have HNN : Hid (n = N - i) := hn
  have HS : Hid (s < 18446744073709551616) := hs
  rw [← hn] at hc hcN
  have HC : Hid (w.cell? ⟨p, 0, none⟩ = some (.slice (some ⟨b, o, none⟩) (N - i) c)) := by rw [← hn]; exact hc
  have hnm : n ≤ 1048576 := by omega
  obtain ⟨k, hk⟩ : ∃ k, k = min s n := ⟨_, rfl⟩
  have hmn : min (s : Int) (n : Int) = (k : Int) := by omega
  have hkn : k ≤ n := by omega
  have HKK : Hid (k = min s (N - i)) := by show _ = _; rw [hk, HNN.out]
  have HZ : Hid (n - k = N - (i + k)) := by show _ = _; have := HNN.out; omega
  have HO : Hid (i < N → o = i) := ho
  have HNI : Hid (k ≤ N - i) := by show _ ≤ _; have := HNN.out; omega
  clear hs hn hk ho
  go_enter Try.func23, Try.ntmps23
  go_wp2_with fail
  · go_ret
    have h := Rs.next HC.out hf HO.out (by have := HNN.out; omega) hcm hiN HNI.out (n - k) o HZ.out (fun h => by have := HNN.out; omega)
    rw [show c - k = 0 by omega] at h
    exact cutR_mk HKK.out HO.out h (grown_set (grown_refl _ _) _ _)
  · go_ret
    exact cutR_mk HKK.out HO.out (Rs.next HC.out hf HO.out (by have := HNN.out; omega) hcm hiN HNI.out (n - k) (o + k) HZ.out (fun h => by rw [HO.out (by omega)])) (grown_set (grown_refl _ _) _ _)

end Go.Proofs.Ytogakignaaoklaa.up
