import Derived.Test.YtihjdggmmmlpkaaDoorPK
import Derived.BigQuiet
import Derived.ArgAppend
namespace Go.Proofs.YtihjdggmmmlpkaaDoor.pf
open Go.ChangeShapes Go.WideShapes Go.ChangeAt Go.RowKit Go.Deep Go.Maps
set_option linter.unusedVariables false
set_option linter.unusedSimpArgs false

/-! ### Profiles: switchTo -/

def lastN (l : List Gn) : Int := (l[l.length - 1]?.getD ⟨0, ⟨#[]⟩⟩).n
def isNow (x : Pr) (pa : ByteArray) : Prop := 0 ≤ gIx x.gens x.now ∧ (x.gens[(gIx x.gens x.now).toNat]?.getD default).p = pa
open Classical in
noncomputable def sg (x : Pr) (pa : ByteArray) : Pr := if isNow x pa then x else ⟨x.name, lastN x.gens + 1, x.gens ++ [⟨lastN x.gens + 1, pa⟩]⟩

/-- An append to a row of gens that is full, at a step of a region that draws its order. -/
theorem step_growG {W : World} {ops : Array Oper} {o : Oper} {a : Act} {K : Act → World → Prop} {Q : Exit → Act → World → Prop} {Ex : Prop} (hgd : o.guard = none) (s x : Operand)
    (ho : o.op = .call { callee := .builtin .append, args := #[s, x], argTypes := #[38, 38] }) (b n cap : Nat) (olds : List Value) (hs : a.eval s = .slice (some ⟨b, 0, none⟩) n cap) (hlo : olds.length = n * 2) (holds : ∀ j u, olds[j]? = some u → W.cell? ((⟨b, 0, none⟩ : Addr).add j) = some u)
    (ad : Addr) (m c : Nat) (news : List Value) (hx : a.eval x = .slice (some ad) m c) (hm : news.length = m * 2) (hnews : ∀ j u, news[j]? = some u → W.cell? (ad.add j) = some u) (hfull : cap < n + m) (hlen : n + m ≤ 2000000)
    (h : ∀ v' w', w'.ownsRow W.heap.size 59 2 v' (n + m) (olds ++ news) → W.grownBy w' none → K (a.put o.dst v') w') :
    if Region.wanted o (yielded ops a.tmps) = true then Oper.wp Tryd.prog o a W K Q else Ex := by
  have hw : Region.wanted o (yielded ops a.tmps) = true := by simp [Region.wanted, hgd]
  rw [if_pos hw]
  obtain ⟨i, hi, hzz⟩ := Option.map_eq_some_iff.1 infoG
  simp only [Prod.mk.injEq] at hzz
  obtain ⟨hz, hsi, hb⟩ := hzz
  obtain ⟨v', w', hrun, r1, r2⟩ := run_append_arg_grows (P := Tryd.prog) W 38 o.type 59 i _ 2 24 Tryd.underlying38 hi hz hsi hb rfl (by decide) ⟨b, 0, none⟩ n cap olds hlo holds ad m c news hm hnews hfull (by unfold maxLen; omega) (by omega)
  unfold Oper.wp
  simp [execOp, ho, resolve, invoke, builtin, hs, hx, hrun, Result.andThen]
  exact h v' w' r1 r2

end Go.Proofs.YtihjdggmmmlpkaaDoor.pf
