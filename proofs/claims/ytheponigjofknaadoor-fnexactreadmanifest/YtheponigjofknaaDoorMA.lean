import Derived.Test.YtheponigjofknaaDoorST
import Derived.Test.YtheponigjofknaaDoorWF2
import Derived.Lib.Hide
namespace Go.Proofs.YtheponigjofknaaDoor.mt
open Go.ChangeShapes Go.WideShapes Go.ChangeAt Go.RowKit Go.Deep Go.Maps
set_option linter.unusedVariables false
set_option linter.unusedSimpArgs false

/-! ### Ascending addresses -/

def adA (l : List ByteArray) (n : Nat) : Bool := (List.range n).all fun i => wd.aokB (st.atS l i)
def ltA (l : List ByteArray) (i : Nat) : Bool := decide (i = 0) || Op.bytesLess (st.atS l (i - 1)).toList (st.atS l i).toList
def asA (l : List ByteArray) (n : Nat) : Bool := (List.range n).all fun i => ltA l i

theorem adA_succ {l : List ByteArray} {k : Nat} (h : adA l k = true) (hk : wd.aokB (st.atS l k) = true) : adA l (k + 1) = true := by
  unfold adA at h ⊢
  rw [List.range_succ, List.all_append, h]
  simpa using hk
theorem adA_no {l : List ByteArray} {k n : Nat} (hn : k < n) (hk : wd.aokB (st.atS l k) = false) : adA l n = false := by
  unfold adA
  rw [List.all_eq_false]
  exact ⟨k, List.mem_range.2 hn, by rw [hk]; decide⟩
theorem asA_succ {l : List ByteArray} {k : Nat} (h : asA l k = true) (hk : ltA l k = true) : asA l (k + 1) = true := by
  unfold asA at h ⊢
  rw [List.range_succ, List.all_append, h]
  simpa using hk
theorem asA_no {l : List ByteArray} {k n : Nat} (hn : k < n) (hk : ltA l k = false) : asA l n = false := by
  unfold asA
  rw [List.all_eq_false]
  exact ⟨k, List.mem_range.2 hn, by rw [hk]; decide⟩
theorem adA_zero (l : List ByteArray) : adA l 0 = true := rfl
theorem asA_zero (l : List ByteArray) : asA l 0 = true := rfl

end Go.Proofs.YtheponigjofknaaDoor.mt
