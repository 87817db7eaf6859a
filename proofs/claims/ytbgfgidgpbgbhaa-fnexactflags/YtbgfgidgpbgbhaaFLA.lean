import Derived.Test.YtbgfgidgpbgbhaaCD
import Derived.Sort.Walk0
namespace Go.Proofs.Ytbgfgidgpbgbhaa.fl
open Go.ChangeShapes Go.WideShapes Go.ChangeAt Go.RowKit Go.Deep
set_option linter.unusedVariables false
set_option linter.unusedSimpArgs false

/-! ### Names, ascending -/

/-- A text more in an ascending list. -/
def fadd : List (List UInt8) → List UInt8 → List (List UInt8)
  | [], s => [s]
  | x :: r, s => if Op.bytesLess x s = true then x :: fadd r s else if x = s then x :: r else s :: x :: r

/-! ### Rows of texts -/

def strL (l : List UInt8) : Value := .string ⟨l.toArray⟩
theorem strL_of (s : ByteArray) : strL s.data.toList = .string s := by cases s; simp [strL]
theorem toL (l : List UInt8) : (⟨l.toArray⟩ : ByteArray).toList = l := by simp [ByteArray.toList_eq]

theorem info9 : (Try.prog.info? 9).map (fun i => (i.zero, i.size, i.bytes)) = some (some (.string ⟨#[]⟩), 1, 16) := by kernel_rfl
theorem info_parts {e : TypeId} {z : Value} {size bytes : Nat} (hinfo : (Try.prog.info? e).map (fun i => (i.zero, i.size, i.bytes)) = some (some z, size, bytes)) : ∃ i, Try.prog.info? e = some i ∧ i.zero = some z ∧ i.size = size ∧ i.bytes = bytes := by
  obtain ⟨i, hi, hzz⟩ := Option.map_eq_some_iff.1 hinfo
  simp only [Prod.mk.injEq] at hzz
  exact ⟨i, hi, hzz.1, hzz.2.1, hzz.2.2⟩

/-- A value is a row of texts, wherever it lies. -/
def StrR (w : World) (v : Value) (xs : List (List UInt8)) : Prop := ∃ bb off cap, v = .slice (some ⟨bb, off, none⟩) xs.length cap ∧ xs.length ≤ cap ∧ cap ≤ maxLen ∧ ∀ i x, xs[i]? = some x → w.cell? ⟨bb, off + i, none⟩ = some (strL x)

theorem StrR.below {w w' : World} {v : Value} {xs : List (List UInt8)} (h : StrR w v xs) (hb : Below w.heap.size w w') : StrR w' v xs := by
  obtain ⟨bb, off, cap, e, h1, h2, hc⟩ := h
  exact ⟨bb, off, cap, e, h1, h2, fun i x hx => (hb.cell (p := ⟨bb, _, none⟩) (World.block_lt_of_cell? _ _ (hc i x hx))).trans (hc i x hx)⟩

theorem StrR.drew {w : World} {v : Value} {xs : List (List UInt8)} (h : StrR w v xs) : StrR w.drew v xs := h

theorem StrR.own {w : World} {base : Nat} {v : Value} {xs : List (List UInt8)} (h : w.ownsRow base 9 1 v xs.length (xs.map strL)) (hpos : 0 < xs.length) : StrR w v xs := by
  obtain ⟨_, a, cap, rfl, h1, h2, bb, off, ha, hc⟩ := cd.PsO.own h
  obtain ⟨rfl, _⟩ := ha.resolve_left (by simp; intro e; subst e; simp at hpos)
  exact ⟨bb, off, cap, rfl, h1, h2, fun i x hx => hc i _ (by simp [hx])⟩

def xAt (xs : List (List UInt8)) (i : Nat) : List UInt8 := xs[i]?.getD []
theorem xAt_some {xs : List (List UInt8)} {i : Nat} (h : i < xs.length) : xs[i]? = some (xAt xs i) := by simp [xAt, h]

theorem fadd_len (s : List UInt8) : ∀ (xs : List (List UInt8)), xs.length ≤ (fadd xs s).length ∧ (fadd xs s).length ≤ xs.length + 1
  | [] => by simp [fadd]
  | x :: r => by
    have := fadd_len s r
    unfold fadd
    split
    · simp; omega
    · split <;> simp

/-- Where a text comes into the list. -/
theorem fadd_at {s : List UInt8} : ∀ {xs : List (List UInt8)} {k : Nat}, k ≤ xs.length → (∀ i, i < k → Op.bytesLess (xAt xs i) s = true) → (k = xs.length ∨ Op.bytesLess (xAt xs k) s = false) →
    fadd xs s = if k < xs.length ∧ xAt xs k = s then xs else xs.take k ++ [s] ++ xs.drop k
  | [], k, hk, _, _ => by
    obtain rfl : k = 0 := by simpa using hk
    simp [fadd]
  | x :: r, 0, hk, _, h => by
    have hx : Op.bytesLess x s = false := by
      rcases h with h | h
      · simp at h
      · simpa [xAt] using h
    unfold fadd
    rw [if_neg (by simp [hx])]
    simp [xAt]
  | x :: r, k + 1, hk, ha, h => by
    have hx : Op.bytesLess x s = true := by simpa [xAt] using ha 0 (by omega)
    have ih := fadd_at (s := s) (xs := r) (k := k) (by simp at hk; omega) (fun i hi => by simpa [xAt] using ha (i + 1) (by omega)) (by
      rcases h with h | h
      · left; simpa using h
      · right; simpa [xAt] using h)
    unfold fadd
    rw [if_pos hx, ih]
    have e : xAt (x :: r) (k + 1) = xAt r k := by simp [xAt]
    by_cases hh : k < r.length ∧ xAt r k = s
    · rw [if_pos hh, if_pos ⟨by simp; omega, by rw [e]; exact hh.2⟩]
    · rw [if_neg hh, if_neg (fun h2 => hh ⟨by have := h2.1; simp at this; omega, by rw [← e]; exact h2.2⟩)]
      simp

end Go.Proofs.Ytbgfgidgpbgbhaa.fl
