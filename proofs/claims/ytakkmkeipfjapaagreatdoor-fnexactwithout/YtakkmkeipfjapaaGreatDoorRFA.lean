import Derived.Test.YtakkmkeipfjapaaGreatDoorAG1
import Derived.Test.YtakkmkeipfjapaaGreatDoorTM
namespace Go.Proofs.YtakkmkeipfjapaaGreatDoor.rf
open Go.ChangeShapes Go.WideShapes Go.ChangeAt Go.RowKit Go.Deep Go.Shelf Go.Sort
set_option linter.unusedVariables false
set_option linter.unusedSimpArgs false

/-! ### References: the plain model -/

/-- A piece stands in these bytes. -/
def Occ (d p : List UInt8) : Prop := ∃ i, i + p.length ≤ d.length ∧ (d.drop i).take p.length = p
/-- .. in the Data of one of the first n entries. -/
def InE (E : Nat → tt.En) (n : Nat) (p : List UInt8) : Prop := ∃ k, k < n ∧ Occ (E k).data.data.toList p
attribute [local instance] Classical.propDecidable
noncomputable def occB (d p : List UInt8) : Bool := decide (Occ d p)
noncomputable def inB (E : Nat → tt.En) (n : Nat) (p : List UInt8) : Bool := decide (InE E n p)
/-- The addresses among these texts whose words stand there, ascending. -/
noncomputable def rfs (E : Nat → tt.En) (n : Nat) (xs : List (List UInt8)) : List (List UInt8) := (sr.adr xs).filter fun a => inB E n (a.take 13)

theorem occB_iff {d p : List UInt8} : occB d p = true ↔ Occ d p := by unfold occB; simp
theorem inB_iff {E : Nat → tt.En} {n : Nat} {p : List UInt8} : inB E n p = true ↔ InE E n p := by unfold inB; simp

theorem filt_fold (p : List UInt8 → Bool) (xs : List (List UInt8)) : (xs.foldl sr.fadd []).filter p = (xs.filter p).foldl sr.fadd [] := by
  refine sr.asc_ext ((sr.fold_asc xs [] List.Pairwise.nil).filter _) (sr.fold_asc _ [] List.Pairwise.nil) fun x => ?_
  rw [List.mem_filter, sr.fold_mem, sr.fold_mem, List.mem_filter]
  simp

theorem rfs_spec (E : Nat → tt.En) (n : Nat) (xs : List (List UInt8)) : rfs E n xs = ((xs.filter sr.aokL).filter fun a => inB E n (a.take 13)).foldl sr.fadd [] := by
  unfold rfs sr.adr
  exact filt_fold _ _

theorem rfs_len (E : Nat → tt.En) (n : Nat) (xs : List (List UInt8)) : (rfs E n xs).length ≤ xs.length := by
  have h1 := sr.adr_len xs
  have h2 := List.length_filter_le (fun a => inB E n (a.take 13)) (sr.adr xs)
  unfold rfs
  omega

end Go.Proofs.YtakkmkeipfjapaaGreatDoor.rf
