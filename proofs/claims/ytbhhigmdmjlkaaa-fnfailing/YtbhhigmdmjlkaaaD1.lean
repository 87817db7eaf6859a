import Derived.Test.YtbhhigmdmjlkaaaD0
namespace Go.Proofs.Ytbhhigmdmjlkaaa.dr
open Go.ChangeShapes Go.WideShapes Go.ChangeAt Go.RowKit Go.Deep
set_option linter.unusedVariables false
set_option linter.unusedSimpArgs false

theorem can_app {w1 w2 : World} {c : Nat} {a : Option Addr} {n cap : Nat} {o : Obj} {B size k : Nat} {e : TypeId} {v : Value} {xs : List Value} (h : Can w1 c a n cap) (ho : (w1.alloc o).ownsRow B e size v k xs) (hB : c < B) (hw : B ≤ w1.heap.size) (hg : (w1.alloc o).grownBy w2 v.ownBlock) : Can w2 c a n cap :=
  h.below (((Below.refl (c + 1) w1).alloc (by omega) o).grown hg (by simp; omega) (fun k e => by have := (ho.lt k e).1; omega))

end Go.Proofs.Ytbhhigmdmjlkaaa.dr
