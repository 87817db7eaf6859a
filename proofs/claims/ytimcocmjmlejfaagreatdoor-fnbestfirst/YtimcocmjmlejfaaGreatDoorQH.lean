import Derived.Test.YtimcocmjmlejfaaGreatDoorQG
import Derived.BigQuiet
import Derived.Deep.QuietTactic
namespace Go.Proofs.YtimcocmjmlejfaaGreatDoor.rc
open Go.ChangeShapes Go.WideShapes Go.ChangeAt Go.RowKit Go.Deep Go.Lib Go.Shelf Go.Proofs.YtimcocmjmlejfaaGreatDoor.vr
set_option linter.unusedVariables false
set_option linter.unusedSimpArgs false

def opsS : List (List UInt8) := [[62, 61], [60, 61], [33, 61], [61], [62], [60], [94], [126]]
def opA (i : Nat) : ByteArray := ⟨(opsS[i]?.getD []).toArray⟩
def cnd (l : List UInt8) (i : Nat) : Prop := (opsS[i]?.getD []).length < l.length ∧ l.take (opsS[i]?.getD []).length = opsS[i]?.getD [] ∧ (ver (l.drop (opsS[i]?.getD []).length)).isSome = true

theorem ver_dig {l : List UInt8} (h : (ver l).isSome = true) : ∃ c r, l = c :: r ∧ dig c = true := by
  cases l with
  | nil => simp [ver] at h
  | cons c r =>
    refine ⟨c, r, rfl, ?_⟩
    have e : ver (c :: r) = if (c :: r).length ≤ 30 ∧ dig c = true then prts (c :: r) else none := rfl
    rw [e] at h
    by_cases hh : (c :: r).length ≤ 30 ∧ dig c = true
    · exact hh.2
    · rw [if_neg hh] at h; simp at h

theorem op_split {o v : List UInt8} (ho : ∀ b ∈ o, dig b = false) (hv : (ver v).isSome = true) : opL (o ++ v) = o ∧ vL (o ++ v) = v := by
  obtain ⟨c, r, rfl, hc⟩ := ver_dig hv
  unfold opL vL
  exact tw_of rfl (fun b hb => by rw [ho b hb]; rfl) (fun b hb => by
    obtain rfl : c = b := by simpa using hb
    rw [hc]; rfl)

theorem opsS_dig : ∀ (i : Nat) (b : UInt8), b ∈ opsS[i]?.getD [] → dig b = false := by
  intro i b hb
  by_cases hi : i < 8
  · have : i = 0 ∨ i = 1 ∨ i = 2 ∨ i = 3 ∨ i = 4 ∨ i = 5 ∨ i = 6 ∨ i = 7 := by omega
    rcases this with rfl | rfl | rfl | rfl | rfl | rfl | rfl | rfl <;> (simp [opsS] at hb; first | (rcases hb with rfl | rfl <;> decide) | (subst hb; decide))
  · have : opsS[i]? = none := List.getElem?_eq_none (by simp [opsS]; omega)
    rw [this] at hb
    simp at hb

theorem opsS_is {i : Nat} (hi : i < 8) : isOp (opsS[i]?.getD []) = true := by
  have : i = 0 ∨ i = 1 ∨ i = 2 ∨ i = 3 ∨ i = 4 ∨ i = 5 ∨ i = 6 ∨ i = 7 := by omega
  rcases this with rfl | rfl | rfl | rfl | rfl | rfl | rfl | rfl <;> decide

theorem opsS_all {o : List UInt8} (h : isOp o = true) : ∃ i, i < 8 ∧ opsS[i]?.getD [] = o := by
  unfold isOp ops at h
  simp at h
  rcases h with rfl | rfl | rfl | rfl | rfl | rfl | rfl | rfl
  · exact ⟨3, by omega, rfl⟩
  · exact ⟨2, by omega, rfl⟩
  · exact ⟨4, by omega, rfl⟩
  · exact ⟨0, by omega, rfl⟩
  · exact ⟨5, by omega, rfl⟩
  · exact ⟨1, by omega, rfl⟩
  · exact ⟨6, by omega, rfl⟩
  · exact ⟨7, by omega, rfl⟩

theorem cnd_yes {l : List UInt8} {i : Nat} (hi : i < 8) (h : cnd l i) : opL l = opsS[i]?.getD [] ∧ vL l = l.drop (opsS[i]?.getD []).length ∧ termOk l = true := by
  obtain ⟨h1, h2, h3⟩ := h
  have e : opsS[i]?.getD [] ++ l.drop (opsS[i]?.getD []).length = l := by
    conv => lhs; arg 1; rw [← h2]
    exact List.take_append_drop _ _
  have := op_split (opsS_dig i) h3
  rw [e] at this
  refine ⟨this.1, this.2, ?_⟩
  unfold termOk
  rw [this.1, this.2, opsS_is hi, h3]
  rfl

theorem cnd_no {l : List UInt8} (h : ∀ i, i < 8 → ¬ cnd l i) : termOk l = false := by
  cases ht : termOk l with
  | false => rfl
  | true =>
    exfalso
    unfold termOk at ht
    rw [Bool.and_eq_true] at ht
    obtain ⟨i, hi, e⟩ := opsS_all ht.1
    have hl := op_v l
    obtain ⟨c, r, hv, _⟩ := ver_dig ht.2
    refine h i hi ⟨?_, ?_, ?_⟩
    · rw [e]; have := congrArg List.length hl; rw [List.length_append, hv] at this; simp at this; omega
    · rw [e]; exact tw_take _ _
    · rw [e, show l.drop (opL l).length = vL l from drop_tw _ _]; exact ht.2

theorem star_trm : trm [42] = ([42], []) := by decide
theorem star_no : termOk [42] = false := by decide

/-- What l6Term answers. -/
def tAns (l : List UInt8) : Value := if l = [42] ∨ termOk l = true then .tuple #[trmV (trm l), .bool true] else .tuple #[.agg #[.string ⟨#[]⟩, .string ⟨#[]⟩], .bool false]

theorem ret_two2 {fn : Func} {i j : Tmp} (hf : fn.results = #[.cell i 60, .tmp j]) {tmps : Array Value} {W : World} {b : Nat} {v0 v1 r : Value} {R : Ending → World → Prop} (h4 : tmps.getD i undef = .pointer (some ⟨b, 0, none⟩)) (h5 : tmps.getD j undef = r)
    (k0 : W.cell? ⟨b, 0, none⟩ = some v0) (k1 : W.cell? ⟨b, 1, none⟩ = some v1) (hR : R (.returned (.tuple #[.agg #[v0, v1], r])) W) :
    bodyPost Tryz.prog fn R Exit.ret { tmps := tmps, defers := [] } W := by
  have h4' : tmps[i]?.getD undef = .pointer (some ⟨b, 0, none⟩) := by simpa using h4
  have h5' : tmps[j]?.getD undef = r := by simpa using h5
  exact bodyPost_ret (v := .tuple #[.agg #[v0, v1], r]) (by simp [results, hf, go_sem, h4', h5', k0, k1]) rfl hR

set_option maxRecDepth 100000 in
theorem sops_any (w : World) : Calls Tryz.prog 51 #[] w fun e w' => e = .returned (.slice (some ⟨w.heap.size, 0, none⟩) 8 8) ∧ (∀ i, i < 8 → w'.cell? ⟨w.heap.size, i, none⟩ = some (.string (opA i))) ∧ Below w.heap.size w w' := by
  go_enter Tryz.func51, Tryz.ntmps51
  go_wp2
  go_ret
  refine ⟨rfl, fun i hi => ?_, (Below.refl _ _).alloc (Nat.le_refl _) _⟩
  have : i = 0 ∨ i = 1 ∨ i = 2 ∨ i = 3 ∨ i = 4 ∨ i = 5 ∨ i = 6 ∨ i = 7 := by omega
  rcases this with rfl | rfl | rfl | rfl | rfl | rfl | rfl | rfl <;> simp [go_sem, opA, opsS]

end Go.Proofs.YtimcocmjmlejfaaGreatDoor.rc
