import Derived.Test.YthpgjamnekcjfaaDoorEA
import Derived.Test.YthpgjamnekcjfaaDoorCA
import Derived.Test.YthpgjamnekcjfaaDoorTY
import Derived.Test.YthpgjamnekcjfaaDoorWF2
namespace Go.Proofs.YthpgjamnekcjfaaDoor.tt
open Go.ChangeShapes Go.WideShapes Go.ChangeAt Go.RowKit Go.Deep
set_option linter.unusedVariables false
set_option linter.unusedSimpArgs false

/-! ### Replace: both sides -/

def reE (f t : ByteArray) (e : En) : En := ⟨e.path, e.kind, ⟨(rp f.data.toList t.data.toList e.data.data.toList).toArray⟩, e.exec⟩
def mixE (f t : ByteArray) (E : Nat → En) (i : Nat) : Nat → En := fun k => if k < i then reE f t (E k) else E k

theorem cell_mix (f t : ByteArray) (E : Nat → En) (i j : Nat) : cellE (mixE f t E (i + 1)) j = if j = i * 4 + 2 then .string (reE f t (E i)).data else cellE (mixE f t E i) j := by
  by_cases hj : j / 4 = i
  · have h1 : mixE f t E (i + 1) (j / 4) = reE f t (E i) := by unfold mixE; rw [hj, if_pos (by omega)]
    have h2 : mixE f t E i (j / 4) = E i := by unfold mixE; rw [hj, if_neg (by omega)]
    unfold cellE
    rw [h1, h2]
    have hm : j % 4 < 4 := Nat.mod_lt _ (by omega)
    by_cases h0 : j % 4 = 0
    · rw [if_pos h0, if_neg (by omega), if_pos h0]; rfl
    · by_cases h1' : j % 4 = 1
      · rw [if_neg h0, if_pos h1', if_neg (by omega), if_neg h0, if_pos h1']; rfl
      · by_cases h2' : j % 4 = 2
        · rw [if_neg h0, if_neg h1', if_pos h2', if_pos (by omega)]
        · rw [if_neg h0, if_neg h1', if_neg h2', if_neg (by omega), if_neg h0, if_neg h1', if_neg h2']; rfl
  · have h1 : mixE f t E (i + 1) (j / 4) = mixE f t E i (j / 4) := by
      unfold mixE
      by_cases h : j / 4 < i
      · rw [if_pos (by omega), if_pos h]
      · rw [if_neg (by omega), if_neg h]
    rw [if_neg (by omega)]
    unfold cellE
    rw [h1]

theorem row_of {w : World} {g N n : Nat} {fu : Nat → Value} {E : Nat → En} (hr : w.rowIs g 49 N fu) (hN : n * 4 ≤ N) (hE : EnR w g 0 n E) : w.rowIs g 49 N (fun j => if j < n * 4 then cellE E j else fu j) := by
  refine hr.congr fun j hj => ?_
  by_cases h : j < n * 4
  · rw [if_pos h]
    obtain ⟨a0, a1, a2, a3⟩ := hE (j / 4) (by omega)
    rw [Nat.zero_add] at a0 a1 a2 a3
    have hc := hr.cell hj
    have hm : j % 4 < 4 := Nat.mod_lt _ (by omega)
    unfold cellE
    by_cases h0 : j % 4 = 0
    · rw [show j / 4 * 4 = j by omega, hc] at a0
      rw [if_pos h0]; exact Option.some.inj a0
    · by_cases h1 : j % 4 = 1
      · rw [show j / 4 * 4 + 1 = j by omega, hc] at a1
        rw [if_neg h0, if_pos h1]; exact Option.some.inj a1
      · by_cases h2 : j % 4 = 2
        · rw [show j / 4 * 4 + 2 = j by omega, hc] at a2
          rw [if_neg h0, if_neg h1, if_pos h2]; exact Option.some.inj a2
        · rw [show j / 4 * 4 + 3 = j by omega, hc] at a3
          rw [if_neg h0, if_neg h1, if_neg h2]; exact Option.some.inj a3
  · rw [if_neg h]

theorem row_set {w : World} {g N n i : Nat} {fu : Nat → Value} {E : Nat → En} {f t : ByteArray} (hr : w.rowIs g 49 N (fun j => if j < n * 4 then cellE (mixE f t E i) j else fu j)) (hi : i < n) :
    (w.setCell ⟨g, i * 4 + 2, none⟩ (.string (reE f t (E i)).data)).rowIs g 49 N (fun j => if j < n * 4 then cellE (mixE f t E (i + 1)) j else fu j) := by
  refine (hr.set (i * 4 + 2) _).congr fun j hj => ?_
  by_cases h : j = i * 4 + 2
  · rw [if_pos h, if_pos (by omega), cell_mix, if_pos h]
  · rw [if_neg h]
    by_cases h2 : j < n * 4
    · rw [if_pos h2, if_pos h2, cell_mix, if_neg h]
    · rw [if_neg h2, if_neg h2]

theorem row_enr {w : World} {g N n : Nat} {fu : Nat → Value} {E : Nat → En} (hr : w.rowIs g 49 N (fun j => if j < n * 4 then cellE E j else fu j)) (hN : n * 4 ≤ N) : EnR w g 0 n E := fun i hi => by
  have hc : ∀ j, j < n * 4 → w.cell? ⟨g, j, none⟩ = some (cellE E j) := fun j hj => by rw [hr.cell (i := j) (by omega), if_pos hj]
  rw [Nat.zero_add]
  exact ⟨by rw [hc _ (by omega), cellE0], by rw [hc _ (by omega), cellE1], by rw [hc _ (by omega), cellE2], by rw [hc _ (by omega), cellE3]⟩

theorem row_none (w w1 : World) (hb : Below w.heap.size w w1) (E : Nat → En) : RowE w.heap.size (w1.alloc (.cells #[] 49)) (.slice (some ⟨w1.heap.size, 0, none⟩) 0 0) 0 E :=
  ⟨w1.heap.size, 0, fun _ => undef, rfl, hb.size, Nat.le_refl _, Nat.zero_le _, ⟨#[], heap_alloc_new w1 _, rfl, fun i hi => by omega⟩, fun i hi => by omega⟩

/-- What Replace answers. -/
noncomputable def reB (E : Nat → En) (n : Nat) (f t : ByteArray) : Bool := treeB E n && (wd.aokB f && (wd.aokB t && decide (f.size = t.size)))
noncomputable def reN (E : Nat → En) (n : Nat) (f t : ByteArray) : Nat := if reB E n f t = true then n else 0
theorem reN_no {E : Nat → En} {n : Nat} {f t : ByteArray} (h : reB E n f t = false) : reN E n f t = 0 := by unfold reN; rw [if_neg (by rw [h]; simp)]
theorem reN_yes {E : Nat → En} {n : Nat} {f t : ByteArray} (h : reB E n f t = true) : reN E n f t = n := by unfold reN; rw [if_pos h]
theorem reN_le (E : Nat → En) (n : Nat) (f t : ByteArray) : reN E n f t ≤ n := by unfold reN; split <;> omega
theorem aok_pos {f : ByteArray} (h : wd.aokB f = true) : 1 ≤ f.size := by unfold wd.aokB at h; simp only [Bool.and_eq_true, decide_eq_true_eq] at h; omega

theorem mix_all {f t : ByteArray} {E : Nat → En} {w : World} {g n : Nat} (h : EnR w g 0 n (mixE f t E n)) : EnR w g 0 n (fun k => reE f t (E k)) := fun i hi => by
  have := h i hi
  unfold mixE at this
  rw [if_pos hi] at this
  exact this

set_option maxRecDepth 100000 in
theorem copy_any (E : Nat → En) (b o n cap : Nat) (w : World) (hR : EnR w b o n E) (hn : n ≤ 1048576) :
    Calls Tryd.prog 51 #[.slice (some ⟨b, o, none⟩) n cap] w fun e w' => (∃ v, e = .returned v ∧ w'.ownsRow w.heap.size 49 4 v n (enC E n) ∧ v ≠ .slice none 0 0) ∧ Below w.heap.size w w' := by
  obtain ⟨i, hi, hzz⟩ := Option.map_eq_some_iff.1 infoE
  simp only [Prod.mk.injEq] at hzz
  obtain ⟨hz, hsi, hb⟩ := hzz
  have HNW : Hid (∀ j u, (enC E n)[j]? = some u → (w.alloc (.cells #[] 49)).cell? ((⟨b, o, none⟩ : Addr).add j) = some u) := by
    intro j u hj
    have hjl : j < n * 4 := by have := (List.getElem?_eq_some_iff.1 hj).1; rwa [enC_len] at this
    have hu : u = cellE E j := by simpa [enC, hjl] using hj.symm
    obtain ⟨a0, a1, a2, a3⟩ := (hR (j / 4) (by omega)).below ((Below.refl _ _).alloc (Nat.le_refl _) (.cells #[] 49))
    rw [addr_add, hu]
    have hm : j % 4 < 4 := Nat.mod_lt _ (by omega)
    unfold cellE
    by_cases h0 : j % 4 = 0
    · rw [if_pos h0, show o + j = o + j / 4 * 4 by omega]; exact a0
    · by_cases h1 : j % 4 = 1
      · rw [if_neg h0, if_pos h1, show o + j = o + j / 4 * 4 + 1 by omega]; exact a1
      · by_cases h2 : j % 4 = 2
        · rw [if_neg h0, if_neg h1, if_pos h2, show o + j = o + j / 4 * 4 + 2 by omega]; exact a2
        · rw [if_neg h0, if_neg h1, if_neg h2, show o + j = o + j / 4 * 4 + 3 by omega]; exact a3
  have HOC : Hid (∀ u ∈ enC E n, u.oneCell' = true) := by
    intro u hu
    obtain ⟨j, _, rfl⟩ := List.mem_map.1 hu
    unfold cellE
    split
    · rfl
    · split
      · rfl
      · split
        · rfl
        · rfl
  have HO0 : Hid ((w.alloc (.cells #[] 49)).ownsRow w.heap.size 49 4 (.slice (some ⟨w.heap.size, 0, none⟩) 0 0) 0 []) := made_own w 0 (by omega) #[] rfl
  have HB0 : Hid (Below w.heap.size w (w.alloc (.cells #[] 49))) := (Below.refl _ _).alloc (Nat.le_refl _) _
  have HS0 : Hid (w.heap.size ≤ (w.alloc (.cells #[] 49)).heap.size) := HB0.out.size
  have HEL : Hid ((enC E n).length = n * 4) := enC_len E n
  obtain ⟨XS, hXS⟩ : ∃ XS, XS = enC E n := ⟨_, rfl⟩
  rw [← hXS] at HNW HOC HEL ⊢
  have H63 : Hid (0 + n ≤ maxLen) := by show _ ≤ _; unfold maxLen; omega
  have HBY : Hid ((0 + n) * 48 ≤ 140737488355328) := by show _ ≤ _; omega
  clear hXS hR
  go_enter Tryd.func51, Tryd.ntmps51
  go_wp2_with (first
    | (at_builtin; refine wpList_append_own _ rfl _ _ 25 rfl w.heap.size 49 i _ 4 48 Tryd.underlying25 hi hz hsi hb rfl (by decide) _ _ _ rfl HO0.out ⟨b, o, none⟩ n cap XS rfl HEL.out HNW.out HOC.out H63.out HBY.out HS0.out ?_; intro v1 w1 hown1 hg1 hv1; refine Hid.out ?_)
    | go_in)
  refine Lib.hid ?_
  have HB1 : Hid (Below w.heap.size w w1) := below_grownS HB0.out HO0.out hg1 HS0.out
  have HO1 : Hid (w1.ownsRow w.heap.size 49 4 v1 n XS) := by first | exact hown1 | (have h := hown1; simp only [Nat.zero_add, List.nil_append] at h; exact h)
  have HV1 : Hid (v1 ≠ .slice none 0 0) := by first | exact hv1 | exact fun e => absurd (hv1.1 e).1 (fun h => by cases h)
  clear hown1 hg1 hv1
  go_wp2
  go_ret
  exact ⟨⟨_, rfl, HO1.out, HV1.out⟩, HB1.out⟩

end Go.Proofs.YthpgjamnekcjfaaDoor.tt
