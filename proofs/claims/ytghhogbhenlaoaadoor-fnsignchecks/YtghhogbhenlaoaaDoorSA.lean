import Derived.Test.YtghhogbhenlaoaaDoorRows
import Derived.Test.YtghhogbhenlaoaaDoorSM
import Derived.Sort.AtCall
import Derived.Lib.Hide
namespace Go.Proofs.YtghhogbhenlaoaaDoor.sg
open Go.ChangeShapes Go.WideShapes Go.ChangeAt Go.RowKit Go.Deep
set_option linter.unusedVariables false

theorem add_mod_hi {a b m : Nat} (ha : a < m) (hb : b < m) (h : m - b ≤ a) : (a + b) % m = a - (m - b) := by
  rw [Nat.mod_eq_sub_mod (by omega), Nat.mod_eq_of_lt (by omega)]
  omega

theorem half_lt {b : Nat} (h : 0 < b) : b / 2 < b := by omega

end Go.Proofs.YtghhogbhenlaoaaDoor.sg
