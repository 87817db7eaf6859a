import Derived.Test.YtddamjpaodecdaaRows
import Derived.Test.YtddamjpaodecdaaL
namespace Go.Proofs.Ytddamjpaodecdaa.sg
open Go.ChangeShapes Go.WideShapes Go.ChangeAt Go.RowKit Go.Deep
set_option linter.unusedVariables false

theorem eqKey_any (a b c : Nat) (w : World) :
    Calls Try.prog 12 #[.agg #[.int .u64 (a : Int), .int .u64 (b : Int), .int .u64 (c : Int)], .agg #[.int .u64 (a : Int), .int .u64 (b : Int), .int .u64 (c : Int)]] w fun e w' => e = .returned (.bool true) ∧ Below w.heap.size w w' := by
  go_enter Try.func12, Try.ntmps12
  go_wp2
  go_ret
  exact ⟨rfl, ((Below.refl _ _).alloc (Nat.le_refl _) _).alloc (by simp) _⟩

end Go.Proofs.Ytddamjpaodecdaa.sg
