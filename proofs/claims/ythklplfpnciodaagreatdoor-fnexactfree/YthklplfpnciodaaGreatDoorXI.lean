import Derived.Test.YthklplfpnciodaaGreatDoorXH
namespace Go.Proofs.YthklplfpnciodaaGreatDoor.ex
open Go.ChangeShapes Go.WideShapes Go.ChangeAt Go.RowKit Go.Deep Go.Maps
set_option linter.unusedVariables false
set_option linter.unusedSimpArgs false

theorem info9 : (Tryz.prog.info? 9).map (fun i => (i.zero, i.size, i.bytes)) = some (some (.string ⟨#[]⟩), 1, 16) := by kernel_rfl

def strV (s : ByteArray) : Value := .string s
def bytesOf (s : ByteArray) : List UInt8 := s.data.toList

theorem kinds_drop {E : Nat → Ex} {ps : List Nat} {i : Nat} (k : Int) (h : i < ps.length) : kindsL k ((ps.map E).drop i) = (kindP k (decide (i + 1 = ps.length)) (E ps[i]) && kindsL k ((ps.map E).drop (i + 1))) := by
  have he : ((ps.map E).drop (i + 1)).isEmpty = decide (i + 1 = ps.length) := by
    rw [Bool.eq_iff_iff, List.isEmpty_iff, List.drop_eq_nil_iff, decide_eq_true_eq]
    simp
    omega
  rw [drop_cons h, kindsL, he]
theorem names_drop {E : Nat → Ex} {ps : List Nat} {i : Nat} (k : Int) (h : i < ps.length) : namesL k ((ps.map E).drop i) = if special k (decide (i + 1 = ps.length)) = true then bytesOf (E ps[i]).text :: namesL k ((ps.map E).drop (i + 1)) else namesL k ((ps.map E).drop (i + 1)) := by
  have he : ((ps.map E).drop (i + 1)).isEmpty = decide (i + 1 = ps.length) := by
    rw [Bool.eq_iff_iff, List.isEmpty_iff, List.drop_eq_nil_iff, decide_eq_true_eq]
    simp
    omega
  rw [drop_cons h, namesL, he]
  rfl

/-- What the first loop has found. -/
structure Found (E : Nat → Ex) (ps : List Nat) (k : Int) (i : Nat) (nm : List ByteArray) : Prop where
  kinds : kindsL k (ps.map E) = kindsL k ((ps.map E).drop i)
  names : namesL k (ps.map E) = nm.map bytesOf ++ namesL k ((ps.map E).drop i)
  len : nm.length ≤ i

theorem Found.start (E : Nat → Ex) (ps : List Nat) (k : Int) : Found E ps k 0 [] := ⟨rfl, rfl, Nat.le_refl _⟩
theorem Found.plain {E : Nat → Ex} {ps : List Nat} {k : Int} {i : Nat} {nm : List ByteArray} (h : Found E ps k i nm) (hi : i < ps.length) (hs : special k (decide (i + 1 = ps.length)) = false) (hk : kindP k (decide (i + 1 = ps.length)) (E ps[i]) = true) : Found E ps k (i + 1) nm := by
  refine ⟨?_, ?_, by have := h.len; omega⟩
  · rw [h.kinds, kinds_drop k hi, hk, Bool.true_and]
  · rw [h.names, names_drop k hi, if_neg (by simp [hs])]
theorem Found.more {E : Nat → Ex} {ps : List Nat} {k : Int} {i : Nat} {nm : List ByteArray} (h : Found E ps k i nm) (hi : i < ps.length) (hs : special k (decide (i + 1 = ps.length)) = true) (hk : kindP k (decide (i + 1 = ps.length)) (E ps[i]) = true) : Found E ps k (i + 1) (nm ++ [(E ps[i]).text]) := by
  refine ⟨?_, ?_, by have := h.len; simp; omega⟩
  · rw [h.kinds, kinds_drop k hi, hk, Bool.true_and]
  · rw [h.names, names_drop k hi, if_pos hs]
    simp [bytesOf]
theorem Found.no {E : Nat → Ex} {ps : List Nat} {k : Int} {i : Nat} {nm : List ByteArray} (h : Found E ps k i nm) (hi : i < ps.length) (hk : kindP k (decide (i + 1 = ps.length)) (E ps[i]) = false) : kindsL k (ps.map E) = false := by
  rw [h.kinds, kinds_drop k hi, hk, Bool.false_and]
theorem Found.done {E : Nat → Ex} {ps : List Nat} {k : Int} {nm : List ByteArray} (h : Found E ps k ps.length nm) : kindsL k (ps.map E) = true ∧ namesL k (ps.map E) = nm.map bytesOf := by
  have e : (ps.map E).drop ps.length = [] := by simp
  refine ⟨by rw [h.kinds, e]; rfl, by rw [h.names, e]; simp [namesL]⟩

def nmAt (nm : List ByteArray) (i : Nat) : ByteArray := nm[i]?.getD ⟨#[]⟩
/-- No two of the first. -/
def Dis (nm : List ByteArray) (i : Nat) : Prop := ∀ a c, a < c → c < i → bytesOf (nmAt nm a) ≠ bytesOf (nmAt nm c)

theorem dis_no {nm : List ByteArray} {i j : Nat} (hi : i < nm.length) (hj : j < i) (h : bytesOf (nmAt nm i) = bytesOf (nmAt nm j)) : decide (nm.map bytesOf).Nodup = false := by
  rw [decide_eq_false_iff_not]
  intro hn
  rw [List.Nodup, List.pairwise_iff_getElem] at hn
  have h1 : (nm.map bytesOf)[i]'(by simpa using hi) = bytesOf (nmAt nm i) := by simp [nmAt, hi]
  have h2 : (nm.map bytesOf)[j]'(by simp; omega) = bytesOf (nmAt nm j) := by simp [nmAt, show j < nm.length by omega]
  have := hn j i (by simp; omega) (by simpa using hi) hj
  rw [h1, h2, h] at this
  exact this rfl
theorem dis_yes {nm : List ByteArray} (h : Dis nm nm.length) : decide (nm.map bytesOf).Nodup = true := by
  rw [decide_eq_true_eq, List.Nodup, List.pairwise_iff_getElem]
  intro i j hi hj hij
  have h1 : (nm.map bytesOf)[i] = bytesOf (nmAt nm i) := by simp at hi; simp [nmAt, hi]
  have h2 : (nm.map bytesOf)[j] = bytesOf (nmAt nm j) := by simp at hj; simp [nmAt, hj]
  rw [h1, h2]
  exact h i j hij (by simpa using hj)

end Go.Proofs.YthklplfpnciodaaGreatDoor.ex
