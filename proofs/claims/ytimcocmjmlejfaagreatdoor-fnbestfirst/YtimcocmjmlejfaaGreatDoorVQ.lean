import Derived.Test.YtimcocmjmlejfaaGreatDoorVP
import Derived.Test.YtimcocmjmlejfaaGreatDoorV1
namespace Go.Proofs.YtimcocmjmlejfaaGreatDoor.dr
open Go.ChangeShapes Go.WideShapes Go.ChangeAt Go.RowKit Go.Deep
set_option linter.unusedVariables false
set_option linter.unusedSimpArgs false

theorem code_kept {w w' : World} {a : Option Addr} {n : Nat} (h : CodeB w a n) (hb : Below w.heap.size w w') : CodeB w' a n := by
  rcases h with h | ⟨b, off, e, h⟩
  · exact .inl h
  · refine .inr ⟨b, off, e, fun i hi => ?_⟩
    obtain ⟨x, hx, hc⟩ := h i hi
    exact ⟨x, hx, (hb.cell (p := ⟨b, _, none⟩) (World.block_lt_of_cell? _ _ hc)).trans hc⟩

theorem big_any (a : Option Addr) (n cap : Nat) (w : World) : Calls Tryz.prog 4 #[.slice a n cap] w fun e w' => e = .returned (.bool (decide (1048576 < (n : Int)))) ∧ w' = w := by
  go_enter Tryz.func4, Tryz.ntmps4
  go_wp2
  go_ret
  exact ⟨rfl, rfl⟩

end Go.Proofs.YtimcocmjmlejfaaGreatDoor.dr
namespace Go.Proofs.YtimcocmjmlejfaaGreatDoor.vr
open Go.ChangeShapes Go.WideShapes Go.ChangeAt Go.RowKit Go.Deep
set_option linter.unusedVariables false
set_option linter.unusedSimpArgs false

theorem ver12 : ver [49, 46, 50] = some [.num 1, .num 2] := by
  rw [ver_of (by decide) (by decide) (by intro c hc; cases hc; decide), prts_num rfl (by decide), show List.takeWhile dig [49, 46, 50] = [49] by decide, show List.dropWhile dig [49, 46, 50] = [46, 50] by decide, if_neg (by decide), prts_sep (by decide) (by decide) (.inl rfl), prts_num rfl (by decide), show List.takeWhile dig [50] = [50] by decide, show List.dropWhile dig [50] = [] by decide, if_neg (by decide), prts_nil]; rfl
theorem ver110 : ver [49, 46, 49, 48] = some [.num 1, .num 10] := by
  rw [ver_of (by decide) (by decide) (by intro c hc; cases hc; decide), prts_num rfl (by decide), show List.takeWhile dig [49, 46, 49, 48] = [49] by decide, show List.dropWhile dig [49, 46, 49, 48] = [46, 49, 48] by decide, if_neg (by decide), prts_sep (by decide) (by decide) (.inl rfl), prts_num rfl (by decide), show List.takeWhile dig [49, 48] = [49, 48] by decide, show List.dropWhile dig [49, 48] = [] by decide, if_neg (by decide), prts_nil]; rfl
theorem first_one : cmpV (⟨#[49, 46, 50]⟩ : ByteArray).data.toList (⟨#[49, 46, 49, 48]⟩ : ByteArray).data.toList = -1 := by
  show cmpV [49, 46, 50] [49, 46, 49, 48] = -1
  rw [cmpV_yes ver12 ver110]; rfl
theorem first_two : cmpV (⟨#[]⟩ : ByteArray).data.toList (⟨#[49]⟩ : ByteArray).data.toList = 2 := cmpV_no (.inl rfl)

theorem app_data (s : ByteArray) (b c : UInt8) : (s ++ ⟨#[b, c]⟩).data.toList = s.data.toList ++ [b, c] := by simp

end Go.Proofs.YtimcocmjmlejfaaGreatDoor.vr
