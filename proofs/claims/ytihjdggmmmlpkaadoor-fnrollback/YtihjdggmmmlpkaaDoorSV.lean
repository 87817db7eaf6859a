import Derived.Test.YtihjdggmmmlpkaaDoorPU
import Derived.Test.YtihjdggmmmlpkaaDoorGA
namespace Go.Proofs.YtihjdggmmmlpkaaDoor.pf
open Go.ChangeShapes Go.WideShapes Go.ChangeAt Go.RowKit Go.Deep Go.Maps
set_option linter.unusedVariables false
set_option linter.unusedSimpArgs false

/-! ### Profiles: what Switch answers -/

def nw0 (q : ByteArray) : Pr := ⟨q, 0, []⟩
theorem sg_new (q pa : ByteArray) : sg (nw0 q) pa = ⟨q, 1, [⟨1, pa⟩]⟩ := by
  unfold sg
  rw [if_neg (fun h => by have := h.1; simp [nw0, gIx] at this)]
  rfl
open Classical in
noncomputable def rkP : List Pr → List UInt8 → Nat
  | [], _ => 0
  | x :: l, q => if nmL x < q then rkP l q + 1 else 0
theorem rkP_of : ∀ {ps : List Pr} {q : List UInt8} {a : Nat} (ha : a ≤ ps.length) (hlo : ∀ (j : Nat) (x : Pr), j < a → ps[j]? = some x → nmL x < q) (hhi : ∀ x, ps[a]? = some x → ¬ nmL x < q), rkP ps q = a
  | [], q, a, ha, _, _ => by simp at ha; subst ha; rfl
  | x :: l, q, 0, _, _, hhi => by unfold rkP; rw [if_neg (hhi x rfl)]
  | x :: l, q, a + 1, ha, hlo, hhi => by
    unfold rkP
    rw [if_pos (hlo 0 x (by omega) rfl), rkP_of (ps := l) (a := a) (by simpa using ha) (fun j y hj hy => hlo (j + 1) y (by omega) (by simpa using hy)) (fun y hy => hhi y (by simpa using hy))]
theorem rkP_rk {ps : List Pr} {q : List UInt8} {a : Nat} (h : Rk ps q a) : rkP ps q = a := rkP_of h.le h.lo (fun x hx => h.hi a x (Nat.le_refl _) hx)

noncomputable def swL (ps : List Pr) (q pa : ByteArray) : List Pr :=
  if fIx ps q.data.toList < 0 then ps.take (rkP ps q.data.toList) ++ sg (nw0 q) pa :: ps.drop (rkP ps q.data.toList)
  else ps.set (fIx ps q.data.toList).toNat (sg (ps[(fIx ps q.data.toList).toNat]?.getD default) pa)
theorem swL_at {ps : List Pr} {q pa : ByteArray} {i : Nat} {x : Pr} (hf : fIx ps q.data.toList = (i : Int)) (hx : ps[i]? = some x) : swL ps q pa = ps.set i (sg x pa) := by
  unfold swL
  rw [if_neg (by omega), hf, Int.toNat_natCast, hx]
  rfl
theorem swL_in {ps : List Pr} {q pa : ByteArray} {a : Nat} (hf : fIx ps q.data.toList = -1) (ha : rkP ps q.data.toList = a) : swL ps q pa = ps.take a ++ sg (nw0 q) pa :: ps.drop a := by
  unfold swL
  rw [if_pos (by omega), ha]
noncomputable def swP (ps : List Pr) (q pa : ByteArray) : List Pr × Bool := if psB ps = true then if psB (swL ps q pa) = true then (swL ps q pa, true) else (ps, false) else ([], false)
theorem swP_bad {ps : List Pr} {q pa : ByteArray} (h : psB ps = false) : swP ps q pa = ([], false) := by unfold swP; rw [if_neg (by rw [h]; simp)]
theorem swP_no {ps : List Pr} {q pa : ByteArray} (h : psB ps = true) (h2 : psB (swL ps q pa) = false) : swP ps q pa = (ps, false) := by unfold swP; rw [if_pos h, if_neg (by rw [h2]; simp)]
theorem swP_yes {ps : List Pr} {q pa : ByteArray} (h : psB ps = true) (h2 : psB (swL ps q pa) = true) : swP ps q pa = (swL ps q pa, true) := by unfold swP; rw [if_pos h, if_pos h2]
theorem sg_same {x : Pr} {pa : ByteArray} (h : isNow x pa) : sg x pa = x := by unfold sg; rw [if_pos h]
theorem sg_else {x : Pr} {pa : ByteArray} (h : ¬ isNow x pa) : sg x pa = ⟨x.name, lastN x.gens + 1, x.gens ++ [⟨lastN x.gens + 1, pa⟩]⟩ := by unfold sg; rw [if_neg h]
theorem mem_at {α : Type} {l : List α} {x : α} (h : x ∈ l) : ∃ i : Nat, l[i]? = some x := List.mem_iff_getElem?.1 h

theorem name_le {s : ByteArray} (h : nm.nameB s = true) : s.size ≤ 60 := by
  unfold nm.nameB at h
  simp only [Bool.and_eq_true, decide_eq_true_eq] at h
  exact h.1.1.2
theorem aok_le {s : ByteArray} (h : wd.aokB s = true) : s.size ≤ 74 := by
  unfold wd.aokB at h
  simp only [Bool.and_eq_true, decide_eq_true_eq] at h
  have := name_le h.2.2.2
  simp at this
  omega
theorem POk.path {x : Pr} (h : POk x) {g : Gn} (hg : g ∈ x.gens) : g.p.size ≤ 74 := by
  obtain ⟨i, hi⟩ := mem_at hg
  exact aok_le (h.gen i g hi).2.2
theorem sg_sz {x : Pr} {pa : ByteArray} (h1 : x.name.size ≤ 1048576) (h2 : x.gens.length ≤ 50) (h3 : ∀ g ∈ x.gens, g.p.size ≤ 1048576) (hp : pa.size ≤ 1048576) : (sg x pa).name.size ≤ 1048576 ∧ (sg x pa).gens.length ≤ 1048576 ∧ ∀ g ∈ (sg x pa).gens, g.p.size ≤ 1048576 := by
  by_cases h : isNow x pa
  · rw [sg_same h]
    exact ⟨h1, by omega, h3⟩
  · rw [sg_else h]
    refine ⟨h1, by simp; omega, fun g hg => ?_⟩
    rcases List.mem_append.1 hg with h | h
    · exact h3 g h
    · simp at h
      subst h
      exact hp
theorem swL_mem {ps : List Pr} {q pa : ByteArray} {y : Pr} (hy : y ∈ swL ps q pa) : y ∈ ps ∨ y = sg (nw0 q) pa ∨ ∃ x, x ∈ ps ∧ y = sg x pa := by
  unfold swL at hy
  split at hy
  · rcases List.mem_append.1 hy with h | h
    · exact .inl (List.mem_of_mem_take h)
    · rcases List.mem_cons.1 h with h | h
      · exact .inr (.inl h)
      · exact .inl (List.mem_of_mem_drop h)
  · rcases fIx_cases ps q.data.toList with h | ⟨i, x, h1, hx⟩
    · omega
    · rw [h1, Int.toNat_natCast, hx] at hy
      rcases List.mem_or_eq_of_mem_set hy with h | h
      · exact .inl h
      · exact .inr (.inr ⟨x, List.mem_of_getElem? hx, h⟩)
theorem swL_len (ps : List Pr) (q pa : ByteArray) : (swL ps q pa).length ≤ ps.length + 1 := by
  unfold swL
  split
  · simp only [List.length_append, List.length_take, List.length_cons, List.length_drop]
    omega
  · simp
theorem swL_sz {ps : List Pr} {q pa : ByteArray} (h : PsOk ps) (hq : q.size ≤ 1048576) (hp : pa.size ≤ 1048576) : SzB (swL ps q pa) := by
  have hall : ∀ y ∈ swL ps q pa, y.name.size ≤ 1048576 ∧ y.gens.length ≤ 1048576 ∧ ∀ g ∈ y.gens, g.p.size ≤ 1048576 := fun y hy => by
    rcases swL_mem hy with h1 | rfl | ⟨x, hx, rfl⟩
    · obtain ⟨i, hi⟩ := mem_at h1
      have hk := h.each i y hi
      exact ⟨by have := name_le hk.name; omega, by have := hk.few; omega, fun g hg => by have := hk.path hg; omega⟩
    · exact sg_sz hq (by simp [nw0]) (fun g hg => by simp [nw0] at hg) hp
    · obtain ⟨i, hi⟩ := mem_at hx
      have hk := h.each i x hi
      exact sg_sz (by have := name_le hk.name; omega) hk.few (fun g hg => by have := hk.path hg; omega) hp
  exact ⟨by have := swL_len ps q pa; have := h.few; omega, fun y hy => (hall y hy).1, fun y hy => (hall y hy).2.1, fun y hy => (hall y hy).2.2⟩
theorem sum_le {α : Type} (f : α → Nat) (B : Nat) : ∀ {l : List α}, (∀ x ∈ l, f x ≤ B) → (l.map f).sum ≤ l.length * B
  | [], _ => by simp
  | a :: l, h => by
    have h1 := sum_le f B (l := l) fun x hx => h x (List.mem_cons_of_mem _ hx)
    have h2 := h a (List.mem_cons_self ..)
    rw [List.map_cons, List.sum_cons, List.length_cons, Nat.succ_mul]
    omega
theorem psOk_wt {ps : List Pr} (h : PsOk ps) : wtP ps ≤ 1048576 := by
  have h1 : ∀ x ∈ ps, wt1 x ≤ 60 + 50 + 50 * 74 := fun x hx => by
    obtain ⟨i, hi⟩ := mem_at hx
    have hk := h.each i x hi
    have h2 : wtS x.gens x.gens.length ≤ 50 * 74 := by
      unfold wtS
      rw [List.take_length]
      exact Nat.le_trans (sum_le _ 74 fun g hg => hk.path hg) (Nat.mul_le_mul_right _ hk.few)
    have := name_le hk.name
    have := hk.few
    unfold wt1 wtG
    omega
  have h2 := sum_le wt1 _ h1
  have h3 := h.few
  have h4 := Nat.mul_le_mul_right (60 + 50 + 50 * 74) h3
  unfold wtP wtSP
  rw [List.take_length]
  omega
theorem swP_wt {ps : List Pr} {q pa : ByteArray} (h : wtP ps ≤ 1048576) : wtP (swP ps q pa).1 ≤ 1048576 := by
  unfold swP
  split
  · split
    · rename_i h2
      exact psOk_wt (psB_iff.1 h2)
    · exact h
  · simp [wtP, wtSP]

/-- A list with one more in it, by the cells that it lies in. -/
theorem ins_map {zs : List Pz} {ps : List Pr} (h : zs.map Pz.x = ps) (i : Nat) (z : Pz) : (zs.take i ++ z :: zs.drop i).map Pz.x = ps.take i ++ z.x :: ps.drop i := by
  rw [List.map_append, List.map_cons, List.map_take, List.map_drop, h]
theorem ins_at {zs : List Pz} {i : Nat} (hi : i ≤ zs.length) (z : Pz) {j : Nat} {y : Pz} (h : (zs.take i ++ z :: zs.drop i)[j]? = some y) : (j < i ∧ zs[j]? = some y) ∨ (j = i ∧ y = z) ∨ (i < j ∧ zs[j - 1]? = some y) := by
  rw [List.getElem?_append] at h
  rw [List.length_take, Nat.min_eq_left hi] at h
  split at h
  · rename_i hj
    rw [List.getElem?_take_of_lt hj] at h
    exact .inl ⟨hj, h⟩
  · rename_i hj
    rcases Nat.lt_or_ge i j with h1 | h1
    · rw [show j - i = (j - i - 1) + 1 by omega, List.getElem?_cons_succ, List.getElem?_drop, show i + (j - i - 1) = j - 1 by omega] at h
      exact .inr (.inr ⟨h1, h⟩)
    · obtain rfl : j = i := by omega
      rw [Nat.sub_self] at h
      simp at h
      exact .inr (.inl ⟨rfl, h.symm⟩)

end Go.Proofs.YtihjdggmmmlpkaaDoor.pf
