import Derived.Test.YtlnagmdoepldmaaDoorSA
import Derived.Lib.ItoaLen
namespace Go.Proofs.YtlnagmdoepldmaaDoor.ex
open Go.ChangeShapes Go.WideShapes Go.ChangeAt Go.RowKit Go.Deep
set_option linter.unusedVariables false
set_option linter.unusedSimpArgs false

/-! ### The specification's numbers -/

def dgt (k : Nat) : UInt8 := UInt8.ofNat (48 + k % 10)
theorem dgt_nat (k : Nat) : ((dgt k).toNat : Int) = 48 + ((k % 10 : Nat) : Int) := by
  have : (48 + k % 10) % 256 = 48 + k % 10 := Nat.mod_eq_of_lt (by omega)
  simp [dgt, UInt8.toNat_ofNat', this]

theorem dgt_conv (k : Nat) (wr : World) (z : Int) (hz : z = 48 + ((k % 10 : Nat) : Int)) : (convert 35 9 (.slice (some ⟨wr.heap.size, 0, none⟩) 1 1)).run Tryd.prog (wr.alloc (.cells #[.int .u8 z] 5)) = .ok (.string ⟨[dgt k].toArray⟩) (wr.alloc (.cells #[.int .u8 z] 5)) := by
  subst hz
  refine own_string (base := wr.heap.size) (n := 1) Tryd.underlying35 Tryd.underlying5 Tryd.underlying9 ?_
  rw [byteCells_one, dgt_nat]
  exact ⟨rfl, .inr ⟨wr.heap.size, 1, #[.int .u8 (48 + ((k % 10 : Nat) : Int))], rfl, Nat.le_refl _, heap_alloc_new wr _, by decide, by decide, rfl, rfl⟩⟩

theorem dec_step {k : Nat} (h : 9 < k) : Lib.decDigits k = Lib.decDigits (k / 10) ++ [dgt k] := by
  rw [Lib.decDigits, dif_neg (by omega)]; rfl
theorem dec_last {k : Nat} (h : ¬ 9 < k) : Lib.decDigits k = [dgt k] := by
  rw [Lib.decDigits, dif_pos (by omega), dgt, Nat.mod_eq_of_lt (by omega)]

set_option maxHeartbeats 1000000 in
theorem int_is (k0 : Nat) (h1 : k0 ≤ 9223372036854775807) (w : World) :
    Calls Tryd.prog 22 #[.int .i64 (k0 : Int)] w fun e w' => e = .returned (.string ⟨(numL (k0 : Int)).toArray⟩) ∧ Below w.heap.size w w' := by
  have hN : numL (k0 : Int) = Lib.decDigits k0 := by simp [numL, Lib.itoa]
  rw [hN]
  obtain ⟨G, hG⟩ : ∃ G, Lib.decDigits k0 = G := ⟨_, rfl⟩
  rw [hG]
  have hgl : G.length ≤ 21 := by
    have h := Lib.itoa_length_le (k0 : Int) (by omega) (by omega)
    rw [← hG, ← hN]
    exact h
  clear hN
  go_enter Tryd.func22, Tryd.ntmps22
  go_wp2
  go_loopw [0, 3] (fun a b wr => ∃ (k : Nat) (l : List UInt8), a = .int .i64 (k : Int) ∧ b = .string ⟨l.toArray⟩ ∧ k ≤ 9223372036854775807 ∧ Lib.decDigits k ++ l = G ∧ Below w.heap.size w wr) (fun a _ _ => (intOf a).toNat)
  case atStart => exact ⟨k0, [], rfl, rfl, h1, by rw [List.append_nil]; exact hG, Below.refl _ _⟩
  case round =>
    obtain ⟨k, l, rfl, rfl, hk, hd, hbel⟩ := hrel
    have HD : Hid (Lib.decDigits k ++ l = G) := hd
    have hll : l.length ≤ 21 := by rw [← hd, List.length_append] at hgl; omega
    clear hd hG hgl
    have hsz : (⟨l.toArray⟩ : ByteArray).size = l.length := by simp [ByteArray.size]
    have hcat : ¬ 9223372036854775807 < 1 + (⟨l.toArray⟩ : ByteArray).size := by omega
    obtain ⟨s, hs⟩ : ∃ s : ByteArray, (⟨l.toArray⟩ : ByteArray) = s := ⟨_, rfl⟩
    rw [hs] at hcat ⊢
    have HS : Hid ((⟨l.toArray⟩ : ByteArray) = s) := hs
    clear hs hsz
    have HC : Hid ((⟨#[dgt k]⟩ : ByteArray) ++ s = ⟨(dgt k :: l).toArray⟩) := by
      show _ = _
      rw [← HS.out]
      apply ByteArray.ext
      simp
    by_cases hlt : 9 < k
    · have hlti : 9 < (k : Int) := by omega
      have hconv := dgt_conv k wr (48 + (k : Int) % 10) (by omega)
      go_wp2
      go_roundw
      case rel => exact ⟨k / 10, dgt k :: l, by go_num, by rw [← HC.out], by omega, by rw [← HD.out, dec_step hlt]; simp, hbel.alloc hbel.size _⟩
      case measure => simp [intOf]; omega
    · have hlti : ¬ 9 < (k : Int) := by omega
      have hconv := dgt_conv k wr (48 + (k : Int)) (by omega)
      go_wp2
      go_ret
      refine ⟨?_, hbel.alloc hbel.size _⟩
      rw [← HD.out, dec_last hlt]
      exact ret_str HC.out

end Go.Proofs.YtlnagmdoepldmaaDoor.ex
