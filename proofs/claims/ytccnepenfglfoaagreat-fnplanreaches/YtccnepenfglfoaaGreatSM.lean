import Derived.Test.YtccnepenfglfoaaGreatSL
namespace Go.Proofs.YtccnepenfglfoaaGreat.hp
open Go.ChangeShapes Go.WideShapes Go.ChangeAt Go.RowKit Go.Deep Go.Maps
open fa (Us uNo nds aw aws nAt names_any RdN)
open fw (ndA ndA_some bhL Ua ua_of soA soB)
set_option linter.unusedVariables false
set_option linter.unusedSimpArgs false

/-! ### impl.StartOrder -/

theorem rdn_ib {base : Nat} {w : World} {g o cap : Nat} {l : List Nat} (h : fi.Ib base w g o cap l) : RdN w (.slice (some ⟨g, o, none⟩) l.length cap) l := ⟨_, _, rfl, fun i x hx => ⟨g, o, rfl, by
  obtain ⟨hi, rfl⟩ := List.getElem?_eq_some_iff.1 hx
  exact h.cells i hi⟩⟩

theorem soA_small (us : List ty.Un) : (soA us).length ≤ 1000000 := by
  unfold soA
  split
  · next h => have := fw.soN_len us us.length; have := (ua_of h).few; omega
  · simp
end Go.Proofs.YtccnepenfglfoaaGreat.hp
