import Derived.Test.YtjjndaiojilhiaaDoorST
import Derived.Deep.RegionHeld3
import Derived.WalkLawsBesides
import Derived.Lib.ItoaLen
namespace Go.Proofs.YtjjndaiojilhiaaDoor.sr
open Go.ChangeShapes Go.WideShapes Go.ChangeAt Go.RowKit Go.Deep
set_option linter.unusedVariables false
set_option linter.unusedSimpArgs false

/-! ### The marks -/

def dgt (k : Nat) : UInt8 := UInt8.ofNat (48 + k % 10)
theorem dgt_nat (k : Nat) : ((dgt k).toNat : Int) = 48 + ((k % 10 : Nat) : Int) := by
  have : (48 + k % 10) % 256 = 48 + k % 10 := Nat.mod_eq_of_lt (by omega)
  simp [dgt, UInt8.toNat_ofNat', this]

theorem dgt_conv (k : Nat) (wr : World) (z : Int) (hz : z = 48 + ((k % 10 : Nat) : Int)) : (convert 61 9 (.slice (some ⟨wr.heap.size, 0, none⟩) 1 1)).run Tryd.prog (wr.alloc (.cells #[.int .u8 z] 5)) = .ok (.string ⟨[dgt k].toArray⟩) (wr.alloc (.cells #[.int .u8 z] 5)) := by
  subst hz
  refine own_string (base := wr.heap.size) (n := 1) Tryd.underlying61 Tryd.underlying5 Tryd.underlying9 ?_
  rw [byteCells_one, dgt_nat]
  exact ⟨rfl, .inr ⟨wr.heap.size, 1, #[.int .u8 (48 + ((k % 10 : Nat) : Int))], rfl, Nat.le_refl _, heap_alloc_new wr _, by decide, by decide, rfl, rfl⟩⟩

theorem dec_step {k : Nat} (h : 9 < k) : Lib.decDigits k = Lib.decDigits (k / 10) ++ [dgt k] := by
  rw [Lib.decDigits, dif_neg (by omega)]; rfl
theorem dec_last {k : Nat} (h : ¬ 9 < k) : Lib.decDigits k = [dgt k] := by
  rw [Lib.decDigits, dif_pos (by omega), dgt, Nat.mod_eq_of_lt (by omega)]

/-- Digits of what is left; none of 0. -/
def dig (k : Nat) : List UInt8 := if k = 0 then [] else Lib.decDigits k
theorem dig_step {k : Nat} (h : 0 < k) : dig k = dig (k / 10) ++ [dgt k] := by
  unfold dig
  rw [if_neg (by omega)]
  by_cases h9 : 9 < k
  · rw [if_neg (by omega), dec_step h9]
  · rw [if_pos (by omega), dec_last h9]; rfl

def mark (k : Nat) : ByteArray := ⟨(109 :: Lib.decDigits k).toArray⟩

set_option maxRecDepth 100000 in
set_option maxHeartbeats 1000000 in
theorem mark_any (k0 : Nat) (h0 : 0 < k0) (h1 : k0 ≤ 9223372036854775807) (w : World) :
    Calls Tryd.prog 25 #[.int .i64 (k0 : Int)] w fun e w' => e = .returned (.string (mark k0)) ∧ Below w.heap.size w w' := by
  obtain ⟨G, hG⟩ : ∃ G, Lib.decDigits k0 = G := ⟨_, rfl⟩
  have hgl : G.length ≤ 21 := by
    have h := Lib.itoa_length_le (k0 : Int) (by omega) (by omega)
    have hN : Lib.itoa (k0 : Int) = Lib.decDigits k0 := by simp [Lib.itoa]
    rw [hN, hG] at h
    exact h
  have hd0 : dig k0 = G := by rw [dig, if_neg (by omega), hG]
  have HGG : Hid (mark k0 = ⟨(109 :: G).toArray⟩) := by show _ = _; rw [mark, hG]
  rw [HGG.out]
  have hpos : ¬ (k0 : Int) ≤ 0 := by omega
  clear hG
  go_enter Tryd.func25, Tryd.ntmps25
  go_wp2
  go_loopw [0, 3] (fun a b wr => ∃ (k : Nat) (l : List UInt8), a = .int .i64 (k : Int) ∧ b = .string ⟨l.toArray⟩ ∧ k ≤ 9223372036854775807 ∧ dig k ++ l = G ∧ Below w.heap.size w wr) (fun a _ _ => (intOf a).toNat)
  case atStart => exact ⟨k0, [], rfl, rfl, h1, by rw [List.append_nil]; exact hd0, Below.refl _ _⟩
  case round =>
    obtain ⟨k, l, rfl, rfl, hk, hd, hbel⟩ := hrel
    have HD : Hid (dig k ++ l = G) := hd
    have hll : l.length ≤ 21 := by rw [← hd, List.length_append] at hgl; omega
    clear hd hd0 hgl
    have hsz : (⟨l.toArray⟩ : ByteArray).size = l.length := by simp [ByteArray.size]
    obtain ⟨s, hs⟩ : ∃ s : ByteArray, (⟨l.toArray⟩ : ByteArray) = s := ⟨_, rfl⟩
    rw [hs] at hsz ⊢
    have hcat : ¬ 9223372036854775807 < 1 + s.size := by omega
    have HS : Hid ((⟨l.toArray⟩ : ByteArray) = s) := hs
    clear hs hsz
    have HC : Hid ((⟨#[dgt k]⟩ : ByteArray) ++ s = ⟨(dgt k :: l).toArray⟩) := by
      show _ = _
      rw [← HS.out]
      apply ByteArray.ext
      simp
    by_cases hlt : 0 < k
    · have hlti : 0 < (k : Int) := by omega
      have hconv := dgt_conv k wr (48 + (k : Int) % 10) (by omega)
      go_wp2
      go_roundw
      case rel => exact ⟨k / 10, dgt k :: l, by go_num, by rw [← HC.out], by omega, by rw [← HD.out, dig_step hlt]; simp, hbel.alloc hbel.size _⟩
      case measure => simp [intOf]; omega
    · have hlti : ¬ 0 < (k : Int) := by omega
      obtain rfl : k = 0 := by omega
      have HR : Hid ((⟨#[109]⟩ : ByteArray) ++ s = ⟨(109 :: G).toArray⟩) := by
        show _ = _
        rw [← HD.out, ← HS.out]
        apply ByteArray.ext; simp [dig]
      go_wp2
      go_ret
      exact ⟨ret_str HR.out, hbel⟩

/-- The cells of a row, the first ones marked. -/
def MkR (w : World) (bb off n k i : Nat) : Prop := (∃ cs, w.heap[bb]? = some (.cells cs 9 (0, 0)) ∧ off + n ≤ cs.size) ∧ ∀ j, j < i → w.cell? ⟨bb, off + j, none⟩ = some (.string (mark (k + j)))

theorem MkR.below {w w' : World} {bb off n k i : Nat} (h : MkR w bb off n k i) (hb : Below w.heap.size w w') : MkR w' bb off n k i := by
  obtain ⟨⟨cs, hc, hs⟩, hm⟩ := h
  have hlt := (Array.getElem?_eq_some_iff.1 hc).1
  exact ⟨⟨cs, (hb.block bb hlt).trans hc, hs⟩, fun j hj => (hb.cell (p := ⟨bb, _, none⟩) hlt).trans (hm j hj)⟩

theorem MkR.step {w : World} {bb off n k i : Nat} (h : MkR w bb off n k i) (hi : i < n) : MkR (w.setCell ⟨bb, off + i, none⟩ (.string (mark (k + i)))) bb off n k (i + 1) := by
  obtain ⟨⟨cs, hc, hs⟩, hm⟩ := h
  have hlt := (Array.getElem?_eq_some_iff.1 hc).1
  have e : (w.setCell ⟨bb, off + i, none⟩ (.string (mark (k + i)))).heap[bb]? = some (.cells (cs.setIfInBounds (off + i) (.string (mark (k + i)))) 9 (0, 0)) := by
    simp [World.setCell, Array.getElem?_modify, hc]
  refine ⟨⟨_, e, by simp; omega⟩, fun j hj => ?_⟩
  have key : (w.setCell ⟨bb, off + i, none⟩ (.string (mark (k + i)))).cell? ⟨bb, off + j, none⟩ = (cs.setIfInBounds (off + i) (.string (mark (k + i))))[off + j]? := by simp [World.cell?, e]
  rw [key, Array.getElem?_setIfInBounds]
  by_cases hji : j = i
  · subst hji
    rw [if_pos rfl, if_pos (by omega)]
  · have := hm j (by omega)
    simp only [World.cell?, hc] at this
    rw [if_neg (by omega)]
    simpa using this

theorem MkR.cell {w : World} {bb off n k i : Nat} (h : MkR w bb off n k i) (j : Nat) (hj : j < n) : ∃ x, w.cell? ⟨bb, off + j, none⟩ = some x ∧ w.frozen? ⟨bb, off + j, none⟩ = false := by
  obtain ⟨⟨cs, hc, hs⟩, _⟩ := h
  have hlt : off + j < cs.size := by omega
  exact ⟨cs[off + j], by simp [World.cell?, hc, hlt], by simp [World.frozen?, hc]⟩

end Go.Proofs.YtjjndaiojilhiaaDoor.sr
