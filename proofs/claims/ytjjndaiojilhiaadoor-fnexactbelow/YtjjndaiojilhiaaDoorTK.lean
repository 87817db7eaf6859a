import Derived.Test.YtjjndaiojilhiaaDoorTJ
namespace Go.Proofs.YtjjndaiojilhiaaDoor.tt
open Go.ChangeShapes Go.WideShapes Go.ChangeAt Go.RowKit Go.Deep Go.Maps Go.Shelf Go.Proofs.YtjjndaiojilhiaaDoor.rt
attribute [local go_sem] Oper.semAt_some
set_option linter.unusedVariables false
set_option linter.unusedSimpArgs false

/-! ### Trees of files: (*branch).at -/

theorem look_nil (x : ByteArray) (hx : x.size ≤ 1048576) (w : World) : (Instr.lookup 58 (.map none) (.string x) false).run Tryd.prog w = .ok (ptr 0) w := by
  have hK := string_keyed Tryd.underlying9
  rcases hK.find w (key9 x hx) [] (by simp) with ⟨f1, _⟩ | ⟨j, e0, _, f2, _⟩
  · simp [Instr.lookup, run_underlying Tryd.underlying58, hK.check w _ (key9 x hx), f1, Tryd.zeroValue40 w, Result.andThen, ptr]
  · simp at f2

theorem step {W : World} {E : Nat → En} {k rb rm N : Nat} {B M : Nat → Nat} (h : Br W E k rb rm N B M) (hT : Tr E k) {pre : List ByteArray} {b : Nat} (hb : nd E B k rb pre = b + 1) {x : ByteArray} (hx : lst x.data.toList = none) (hxs : x.size ≤ 1048576) :
    ∃ m, W.cell? ⟨b, 1, none⟩ = some (.map m) ∧ (Instr.lookup 58 (.map m) (.string x) false).run Tryd.prog W = .ok (ptr (nd E B k rb (pre ++ [x]))) W := by
  have hn2 : nd E B k rb (pre ++ [x]) = chd E B k (jo ((pre ++ [x]).map (·.data.toList))) := by unfold nd; rw [if_neg (by simp)]
  rw [hn2, List.map_append]
  by_cases hp : pre = []
  · subst hp
    have : rb = b := by simpa [nd] using hb
    subst this
    refine ⟨some rm, h.root1, ?_⟩
    rw [h.rootM.look x hxs, fM, if_pos hx]
    rfl
  · unfold nd at hb
    rw [if_neg hp] at hb
    rw [List.map_cons, List.map_nil, jo_snoc _ _ (by simpa using hp)]
    rcases chd_cases E B k (jo (pre.map (·.data.toList))) with ⟨j, hj, hpj, e⟩ | ⟨_, e⟩
    · obtain rfl : B j = b := by omega
      rw [← hpj]
      by_cases hk : (E j).kind = 1
      · obtain ⟨c, pm⟩ := h.dir j hj hk
        refine ⟨_, c, ?_⟩
        rw [pm.look x hxs, fM, if_pos hx]
        simp
      · refine ⟨_, h.leaf j hj hk, ?_⟩
        rw [look_nil x hxs, chd_leaf hT hj hk hx]
    · omega

end Go.Proofs.YtjjndaiojilhiaaDoor.tt
