import Derived.Test.YtpfnnjfapcnbnaaGreatDoorLa
namespace Go.Proofs.YtpfnnjfapcnbnaaGreatDoor.ap
open Go.ChangeShapes Go.WideShapes Go.ChangeAt Go.RowKit Go.Deep
set_option linter.unusedVariables false
set_option linter.unusedSimpArgs false
def atB (l : List ByteArray) (i : Nat) : ByteArray := l[i]?.getD ByteArray.empty
theorem atB_some {l : List ByteArray} {i : Nat} {x : ByteArray} (h : l[i]? = some x) : atB l i = x := by unfold atB; rw [h]; rfl
def ltB (l : List ByteArray) (i : Nat) : Bool := decide (i = 0) || Op.bytesLess (atB l (i - 1)).toList (atB l i).toList
def ascN (l : List ByteArray) (n : Nat) : Bool := (List.range n).all fun i => ltB l i
def asB (l : List ByteArray) : Bool := ascN l l.length
theorem ascN_succ {l : List ByteArray} {k : Nat} (h : ascN l k = true) (hk : ltB l k = true) : ascN l (k + 1) = true := by
 unfold ascN at h ⊢
 rw [List.range_succ, List.all_append, h]
 simpa using hk
theorem ascN_no {l : List ByteArray} {k n : Nat} (hn : k < n) (hk : ltB l k = false) : ascN l n = false := by
 unfold ascN
 rw [List.all_eq_false]
 exact ⟨k, List.mem_range.2 hn, by rw [hk]; decide⟩
theorem ltB_succ {l : List ByteArray} {K : Nat} {x y : ByteArray} (hx : l[K + 1]? = some x) (hy : l[K]? = some y) : ltB l (K + 1) = Op.bytesLess y.toList x.toList := by
 unfold ltB
 rw [Nat.add_sub_cancel, atB_some hx, atB_some hy]
 simp
theorem all_bad {α : Type} {f : α → Bool} {l : List α} {i : Nat} {x : α} (hx : l[i]? = some x) (h : f x = false) : l.all f = false := by
 cases e : l.all f with
 | false => rfl
 | true => rw [List.all_eq_true.1 e x (List.mem_of_getElem? hx)] at h; cases h
theorem all_step {α : Type} {f : α → Bool} {l : List α} {i : Nat} {x : α} (hx : l[i]? = some x) (h : ∀ y ∈ l.take i, f y = true) (hn : f x = true) : ∀ y ∈ l.take (i + 1), f y = true := by
 intro y hy
 rw [List.take_add_one, hx] at hy
 rcases List.mem_append.1 hy with hy | hy
 ·exact h y hy
 ·have : y = x := by simpa using hy
  rw [this]; exact hn
theorem all_end {α : Type} {f : α → Bool} {l : List α} (h : ∀ y ∈ l.take l.length, f y = true) : l.all f = true := by
 rw [List.take_length] at h
 exact List.all_eq_true.2 h
end Go.Proofs.YtpfnnjfapcnbnaaGreatDoor.ap
