import Derived.Test.YthklplfpnciodaaGreatDoorNA
import Derived.Sort.Walk0
namespace Go.Proofs.YthklplfpnciodaaGreatDoor.ex
open Go.ChangeShapes Go.WideShapes Go.ChangeAt Go.RowKit Go.Deep
set_option linter.unusedVariables false
set_option linter.unusedSimpArgs false

/-! ### Free names: the plain model -/

/-- A text more in an ascending list. -/
def fadd : List (List UInt8) → List UInt8 → List (List UInt8)
  | [], s => [s]
  | x :: r, s => if Op.bytesLess x s = true then x :: fadd r s else if x = s then x :: r else s :: x :: r

def namesT (ps : List Tr) : List (List UInt8) := (ps.filter fun q => !exprK q.kind).map fun q => q.text.data.toList

def innT (k : Int) (t : ByteArray) (n : Int) (ps : List Tr) (b : List (List UInt8)) : List (List UInt8) :=
  if k = 13 then b ++ [t.data.toList] else if k = 14 ∨ k = 8 ∨ (k = 5 ∧ n = 1) then b ++ namesT ps else b

/-- The names that are free, in the order in which they are met. -/
def freesT : Nat → Tr → List (List UInt8) → List (List UInt8)
  | 0, _, _ => []
  | r + 1, .mk k t n ps, b =>
    if k = 3 ∨ k = 7 then (if t.data.toList ∈ b then [] else [t.data.toList])
    else ps.flatMap fun q => freesT r q (if q.kind = 7 then b else innT k t n ps b)

/-! ### Rows of texts -/

def strL (l : List UInt8) : Value := .string ⟨l.toArray⟩
theorem strL_of (s : ByteArray) : strL s.data.toList = .string s := by cases s; simp [strL]
theorem toL (l : List UInt8) : (⟨l.toArray⟩ : ByteArray).toList = l := by simp [ByteArray.toList_eq]

/-- A value is a row of texts, wherever it lies. -/
def StrR (w : World) (v : Value) (xs : List (List UInt8)) : Prop := ∃ bb off cap, v = .slice (some ⟨bb, off, none⟩) xs.length cap ∧ xs.length ≤ cap ∧ cap ≤ maxLen ∧ ∀ i x, xs[i]? = some x → w.cell? ⟨bb, off + i, none⟩ = some (strL x)

theorem StrR.below {w w' : World} {v : Value} {xs : List (List UInt8)} (h : StrR w v xs) (hb : Below w.heap.size w w') : StrR w' v xs := by
  obtain ⟨bb, off, cap, e, h1, h2, hc⟩ := h
  exact ⟨bb, off, cap, e, h1, h2, fun i x hx => (hb.cell (p := ⟨bb, _, none⟩) (World.block_lt_of_cell? _ _ (hc i x hx))).trans (hc i x hx)⟩

theorem StrR.drew {w : World} {v : Value} {xs : List (List UInt8)} (h : StrR w v xs) : StrR w.drew v xs := h

theorem StrR.own {w : World} {base : Nat} {v : Value} {xs : List (List UInt8)} (h : w.ownsRow base 9 1 v xs.length (xs.map strL)) (hpos : 0 < xs.length) : StrR w v xs := by
  obtain ⟨_, a, cap, rfl, h1, h2, bb, off, ha, hc⟩ := PsB.own h
  obtain rfl := ha.resolve_left (by simp; intro e; subst e; simp at hpos)
  exact ⟨bb, off, cap, rfl, h1, h2, fun i x hx => hc i _ (by simp [hx])⟩

def xAt (xs : List (List UInt8)) (i : Nat) : List UInt8 := xs[i]?.getD []
theorem xAt_some {xs : List (List UInt8)} {i : Nat} (h : i < xs.length) : xs[i]? = some (xAt xs i) := by simp [xAt, h]

theorem fadd_len (s : List UInt8) : ∀ (xs : List (List UInt8)), xs.length ≤ (fadd xs s).length ∧ (fadd xs s).length ≤ xs.length + 1
  | [] => by simp [fadd]
  | x :: r => by
    have := fadd_len s r
    unfold fadd
    split
    · simp; omega
    · split <;> simp

/-- Where a text comes into the list. -/
theorem fadd_at {s : List UInt8} : ∀ {xs : List (List UInt8)} {k : Nat}, k ≤ xs.length → (∀ i, i < k → Op.bytesLess (xAt xs i) s = true) → (k = xs.length ∨ Op.bytesLess (xAt xs k) s = false) →
    fadd xs s = if k < xs.length ∧ xAt xs k = s then xs else xs.take k ++ [s] ++ xs.drop k
  | [], k, hk, _, _ => by
    obtain rfl : k = 0 := by simpa using hk
    simp [fadd]
  | x :: r, 0, hk, _, h => by
    have hx : Op.bytesLess x s = false := by
      rcases h with h | h
      · simp at h
      · simpa [xAt] using h
    unfold fadd
    rw [if_neg (by simp [hx])]
    simp [xAt]
  | x :: r, k + 1, hk, ha, h => by
    have hx : Op.bytesLess x s = true := by simpa [xAt] using ha 0 (by omega)
    have ih := fadd_at (s := s) (xs := r) (k := k) (by simp at hk; omega) (fun i hi => by simpa [xAt] using ha (i + 1) (by omega)) (by
      rcases h with h | h
      · left; simpa using h
      · right; simpa [xAt] using h)
    unfold fadd
    rw [if_pos hx, ih]
    have e : xAt (x :: r) (k + 1) = xAt r k := by simp [xAt]
    by_cases hh : k < r.length ∧ xAt r k = s
    · rw [if_pos hh, if_pos ⟨by simp; omega, by rw [e]; exact hh.2⟩]
    · rw [if_neg hh, if_neg (fun h2 => hh ⟨by have := h2.1; simp at this; omega, by rw [← e]; exact h2.2⟩)]
      simp

set_option maxRecDepth 100000 in
theorem shas_any (xs : List (List UInt8)) (v : Value) (s : ByteArray) (w : World) (hR : StrR w v xs) :
    Calls Tryz.prog 28 #[v, .string s] w fun e w' => e = .returned (.bool (decide (s.data.toList ∈ xs))) ∧ w' = w := by
  obtain ⟨bb, off, cap, rfl, h1, h2, hc⟩ := hR
  have HC : Hid (∀ i, i < xs.length → w.cell? ⟨bb, off + i, none⟩ = some (strL (xAt xs i))) := fun i hi => hc i _ (xAt_some hi)
  unfold maxLen at h2
  clear hc
  go_enter Tryz.func28, Tryz.ntmps28
  go_wp2
  go_loopw [5] (fun x wr => ∃ (i : Nat), i ≤ xs.length ∧ x = .int .i64 (i : Int) ∧ (∀ j, j < i → xAt xs j ≠ s.data.toList) ∧ wr = w) (fun x _ => xs.length - (intOf x).toNat)
  case atStart => exact ⟨0, Nat.zero_le _, rfl, fun j h => by omega, rfl⟩
  case round =>
    obtain ⟨i, hi, rfl, hno, rfl⟩ := hrel
    have HNO : Hid (∀ j, j < i → xAt xs j ≠ s.data.toList) := hno
    clear hno
    by_cases h : i < xs.length
    · have h' : (i : Int) < (xs.length : Int) := by omega
      have ce := HC.out i h
      rw [strL] at ce
      obtain ⟨u, hu⟩ : ∃ u : ByteArray, (⟨(xAt xs i).toArray⟩ : ByteArray) = u := ⟨_, rfl⟩
      rw [hu] at ce
      have HU : Hid (u.toList = xAt xs i) := by show _ = _; rw [← hu, toL]
      clear hu
      cases he : (u.toList == s.toList) with
      | true =>
        have HY : Hid (decide (s.data.toList ∈ xs) = true) := by
          show _ = _
          rw [decide_eq_true_eq]
          have e : xAt xs i = s.data.toList := by rw [← HU.out, ← ByteArray.toList_eq]; simpa using he
          rw [← e]
          exact List.mem_of_getElem? (xAt_some h)
        go_wp2
        go_ret
        exact ⟨ret_bool HY.out.symm, rfl⟩
      | false =>
        have HX : Hid (xAt xs i ≠ s.data.toList) := by
          intro e
          rw [← HU.out, ← ByteArray.toList_eq] at e
          simp [e] at he
        go_wp2
        go_roundw
        case rel => exact ⟨i + 1, by omega, by go_num, fun j hj => by
          rcases Nat.lt_or_ge j i with h | h
          · exact HNO.out j h
          · obtain rfl : j = i := by omega
            exact HX.out, by first | rfl | trivial⟩
        case measure => simp [intOf]; omega
    · have h' : ¬ (i : Int) < (xs.length : Int) := by omega
      obtain rfl : i = xs.length := by omega
      have HY : Hid (decide (s.data.toList ∈ xs) = false) := by
        show _ = _
        rw [decide_eq_false_iff_not]
        intro hm
        obtain ⟨j, hj, e⟩ := List.mem_iff_getElem.1 hm
        exact HNO.out j hj (by simp [xAt, hj, e])
      go_wp2
      go_ret
      exact ⟨ret_bool HY.out.symm, rfl⟩

end Go.Proofs.YthklplfpnciodaaGreatDoor.ex
