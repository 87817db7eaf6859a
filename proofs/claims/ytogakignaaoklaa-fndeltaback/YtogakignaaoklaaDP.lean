import Derived.Test.YtogakignaaoklaaDD
namespace Go.Proofs.Ytogakignaaoklaa.dl
open Go.ChangeShapes Go.WideShapes Go.ChangeAt Go.RowKit Go.Deep
open bf (Bf Ap num)
set_option linter.unusedVariables false
set_option linter.unusedSimpArgs false

/-! ### What a delta makes of old bytes: the model; spec.ApplyDelta -/

def pc (old : List UInt8) (x : Sp) : List UInt8 := if x.k = 1 then (old.drop x.p.toNat).take x.n.toNat else x.d
def fits (old : List UInt8) (x : Sp) : Bool := if x.k = 1 then decide (x.p + x.n ≤ (old.length : Int)) else true
def pcL (old : List UInt8) (ss : List Sp) (k : Nat) : List UInt8 := ((ss.take k).map (pc old)).flatten
def adOk (old : List UInt8) (ss : List Sp) : Bool := okL ss && ss.all (fits old) && decide ((pcL old ss ss.length).length ≤ 1000000)
def adB (old : List UInt8) (ss : List Sp) : List UInt8 := if adOk old ss = true then pcL old ss ss.length else []

theorem pcL_succ {old : List UInt8} {ss : List Sp} {k : Nat} {x : Sp} (h : ss[k]? = some x) : pcL old ss (k + 1) = pcL old ss k ++ pc old x := by
  unfold pcL
  rw [List.take_add_one, h]
  simp
theorem pcL_mono (old : List UInt8) (ss : List Sp) {j : Nat} : ∀ d, (pcL old ss j).length ≤ (pcL old ss (j + d)).length
  | 0 => Nat.le_refl _
  | d + 1 => by
    refine Nat.le_trans (pcL_mono old ss d) ?_
    cases hx : ss[j + d]? with
    | none =>
      have : pcL old ss (j + (d + 1)) = pcL old ss (j + d) := by unfold pcL; rw [← Nat.add_assoc, List.take_add_one, hx]; simp
      rw [this]; exact Nat.le_refl _
    | some x => rw [← Nat.add_assoc, pcL_succ hx, List.length_append]; omega
theorem adOk_iff {old : List UInt8} {ss : List Sp} : adOk old ss = true ↔ ss.length ≤ 10000 ∧ (∀ x ∈ ss, okS x = true ∧ fits old x = true) ∧ (pcL old ss ss.length).length ≤ 1000000 := by
  unfold adOk okL
  rw [Bool.and_eq_true, Bool.and_eq_true, Bool.and_eq_true, decide_eq_true_iff, decide_eq_true_iff, allOk_iff, List.all_eq_true]
  constructor
  · rintro ⟨⟨⟨h1, h2⟩, h3⟩, h4⟩
    exact ⟨h1, fun x hx => ⟨h2 x hx, h3 x hx⟩, h4⟩
  · rintro ⟨h1, h2, h4⟩
    exact ⟨⟨⟨h1, fun x hx => (h2 x hx).1⟩, fun x hx => (h2 x hx).2⟩, h4⟩
theorem adOk_no {old : List UInt8} {ss : List Sp} (h : ¬ (ss.length ≤ 10000 ∧ (∀ x ∈ ss, okS x = true ∧ fits old x = true) ∧ (pcL old ss ss.length).length ≤ 1000000)) : adOk old ss = false := by
  cases hc : adOk old ss with
  | false => rfl
  | true => exact absurd (adOk_iff.1 hc) h
theorem adOk_big {old : List UInt8} {ss : List Sp} {i : Nat} (hi : i ≤ ss.length) (h : ¬ (pcL old ss i).length ≤ 1000000) : adOk old ss = false := adOk_no fun ⟨_, _, h4⟩ => by
  have := pcL_mono old ss (j := i) (ss.length - i)
  rw [show i + (ss.length - i) = ss.length by omega] at this
  omega
theorem adB_no {old : List UInt8} {ss : List Sp} (h : adOk old ss = false) : adB old ss = [] := by unfold adB; rw [if_neg (by rw [h]; simp)]
theorem adB_yes {old : List UInt8} {ss : List Sp} (h : adOk old ss = true) : adB old ss = pcL old ss ss.length := by unfold adB; rw [if_pos h]

/-- Bytes in a row from its beginning on. -/
def By (w : World) (g : Nat) (l : List UInt8) : Prop := ∀ j (h : j < l.length), w.cell? ⟨g, j, none⟩ = some (.int .u8 (l[j].toNat : Int))
theorem By.below {w w' : World} {g : Nat} {l : List UInt8} (h : By w g l) (hg : g < w.heap.size) (hb : Below w.heap.size w w') : By w' g l := fun j hj => (hb.cell (p := ⟨g, j, none⟩) hg).trans (h j hj)
theorem part_at {w : World} {g : Nat} {l : List UInt8} (h : By w g l) (p n : Nat) (hn : p + n ≤ l.length) : ∀ j u, (bf.byteVals ((l.drop p).take n))[j]? = some u → w.cell? ((⟨g, p, none⟩ : Addr).add j) = some u := fun j u hj => by
  obtain ⟨hj', rfl⟩ := bf.byteVals_get hj
  have hj2 : j < n := by rw [List.length_take, List.length_drop] at hj'; omega
  rw [addr_add, h (p + j) (by omega), List.getElem_take, List.getElem_drop]
theorem part_len {l : List UInt8} {p n : Nat} (hn : p + n ≤ l.length) : ((l.drop p).take n).length = n := by rw [List.length_take, List.length_drop]; omega

/-- What is handed back: bytes, and whether. -/
def Ans (w w' : World) (l : List UInt8) (ok : Bool) (e : Ending) : Prop := ∃ g c z, e = .returned (.tuple #[.slice (some ⟨g, 0, none⟩) z c, .bool ok]) ∧ Bys w w' l g c z
theorem ans_no {w w' : World} {old : List UInt8} {ss : List Sp} (h : adOk old ss = false) (hb : Below w.heap.size w w') {g : Nat} (hg : w.heap.size ≤ g) (hl : g < w'.heap.size) : Ans w w' (adB old ss) (adOk old ss) (.returned (.tuple #[.slice (some ⟨g, 0, none⟩) 0 0, .bool false])) := by
  rw [adB_no h, h]
  exact ⟨g, 0, 0, rfl, rfl, hg, hl, fun j hj => by simp at hj, fun j hj => by omega, Nat.le_refl _, by unfold maxLen; omega⟩

end Go.Proofs.Ytogakignaaoklaa.dl
