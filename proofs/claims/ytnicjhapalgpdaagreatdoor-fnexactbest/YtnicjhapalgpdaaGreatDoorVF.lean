import Derived.Test.YtnicjhapalgpdaaGreatDoorVE
namespace Go.Proofs.YtnicjhapalgpdaaGreatDoor.vr
open Go.ChangeShapes Go.WideShapes Go.ChangeAt Go.RowKit Go.Deep Go.Shelf
set_option linter.unusedVariables false
set_option linter.unusedSimpArgs false

set_option maxRecDepth 100000 in
theorem iok_any (s : ByteArray) (hs : s.size ≤ 1048576) (w : World) :
    Calls Tryz.prog 52 #[.string s] w fun e w' => e = .returned (.bool (ver s.data.toList).isSome) ∧ Below w.heap.size w w' := by
  go_enter Tryz.func52, Tryz.ntmps52
  go_wp2_with (go_at_call 21; refine (versionOf_any s hs _).mono ?_; rintro e w1 ⟨⟨h, rfl⟩ | ⟨ps, v, h, rfl, ho⟩, hl1⟩)
  all_goals go_ret
  all_goals exact ⟨ret_bool (by rw [h]; rfl), hl1⟩

set_option maxRecDepth 100000 in
theorem sok_any (s : ByteArray) (hs : s.size ≤ 1048576) (w : World) :
    Calls Tryz.prog 17 #[.string s] w fun e w' => e = .returned (.bool (ver s.data.toList).isSome) ∧ Below w.heap.size w w' := by
  go_enter Tryz.func17, Tryz.ntmps17
  go_wp2_with (go_at_call 19; refine (parts_any s hs _).mono ?_; rintro e w1 ⟨⟨h, v, rfl⟩ | ⟨ps, v, h, rfl, ho⟩, hl1⟩)
  all_goals go_ret
  all_goals exact ⟨ret_bool (by rw [h]; rfl), hl1⟩

end Go.Proofs.YtnicjhapalgpdaaGreatDoor.vr
