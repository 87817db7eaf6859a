import Derived.Test.YtajpfidgepebgaaG01
import Derived.Sort.Walk0
import Derived.Deep.RegionHeld3
import Derived.Deep.AppendLies
import Derived.Lib.SlicesCompact
import Derived.Test.YtajpfidgepebgaaRows
import Derived.ArgAppend
import Derived.Lib.Hide
namespace Go.Proofs.Ytajpfidgepebgaa.sr
open Go.ChangeShapes Go.WideShapes Go.ChangeAt Go.RowKit Go.Deep
set_option linter.unusedVariables false
set_option linter.unusedSimpArgs false

/-! ### Texts, ascending: the plain model; spec.l3Add -/

theorem own_none (w : World) (e : TypeId) : (w.alloc (.cells #[] e)).ownsRow w.heap.size e 1 (.slice (some ⟨w.heap.size, 0, none⟩) 0 0) 0 [] := World.ownsRow_made w #[] 0 (Nat.le_refl _) (by decide) rfl

/-- A text more in an ascending list. -/
def fadd : List (List UInt8) → List UInt8 → List (List UInt8)
  | [], s => [s]
  | x :: r, s => if Op.bytesLess x s = true then x :: fadd r s else if x = s then x :: r else s :: x :: r

theorem StrR.own {w : World} {base : Nat} {v : Value} {xs : List (List UInt8)} (h : w.ownsRow base 9 1 v xs.length (xs.map strL)) (hpos : 0 < xs.length) : StrR w v xs := StrR.own' h (by
  rintro rfl
  rcases h.2 with ⟨_, h2⟩ | ⟨g, cap, cur, h2, _⟩
  · omega
  · cases h2)

theorem fadd_len (s : List UInt8) : ∀ (xs : List (List UInt8)), xs.length ≤ (fadd xs s).length ∧ (fadd xs s).length ≤ xs.length + 1
  | [] => by simp [fadd]
  | x :: r => by
    have := fadd_len s r
    unfold fadd
    split
    · simp; omega
    · split <;> simp

/-- Where a text comes into the list. -/
theorem fadd_at {s : List UInt8} : ∀ {xs : List (List UInt8)} {k : Nat}, k ≤ xs.length → (∀ i, i < k → Op.bytesLess (xAt xs i) s = true) → (k = xs.length ∨ Op.bytesLess (xAt xs k) s = false) →
    fadd xs s = if k < xs.length ∧ xAt xs k = s then xs else xs.take k ++ [s] ++ xs.drop k
  | [], k, hk, _, _ => by
    obtain rfl : k = 0 := by simpa using hk
    simp [fadd]
  | x :: r, 0, hk, _, h => by
    have hx : Op.bytesLess x s = false := by
      rcases h with h | h
      · simp at h
      · simpa [xAt] using h
    unfold fadd
    rw [if_neg (by simp [hx])]
    simp [xAt]
  | x :: r, k + 1, hk, ha, h => by
    have hx : Op.bytesLess x s = true := by simpa [xAt] using ha 0 (by omega)
    have ih := fadd_at (s := s) (xs := r) (k := k) (by simp at hk; omega) (fun i hi => by simpa [xAt] using ha (i + 1) (by omega)) (by
      rcases h with h | h
      · left; simpa using h
      · right; simpa [xAt] using h)
    unfold fadd
    rw [if_pos hx, ih]
    have e : xAt (x :: r) (k + 1) = xAt r k := by simp [xAt]
    by_cases hh : k < r.length ∧ xAt r k = s
    · rw [if_pos hh, if_pos ⟨by simp; omega, by rw [e]; exact hh.2⟩]
    · rw [if_neg hh, if_neg (fun h2 => hh ⟨by have := h2.1; simp at this; omega, by rw [← e]; exact h2.2⟩)]
      simp

/-- One append of texts at a step of a region that draws its order. -/
theorem step_row {base : Nat} {W : World} {ops : Array Oper} {o : Oper} {a : Act} {K : Act → World → Prop} {Q : Exit → Act → World → Prop} {E : Prop} (hgd : o.guard = none) (s x : Operand)
    (ho : o.op = .call { callee := .builtin .append, args := #[s, x], argTypes := #[26, 26] }) (v : Value) (l : List (List UInt8)) (hs : a.eval s = v) (hown : W.ownsRow base 9 1 v l.length (l.map strL)) (hb : base ≤ W.heap.size) (ad : Addr) (m c : Nat) (news : List (List UInt8))
    (hx : a.eval x = .slice (some ad) m c) (hm : news.length = m) (hnews : ∀ j u, (news.map strL)[j]? = some u → W.cell? (ad.add j) = some u) (hlen : l.length + m ≤ 1000000) (h : ∀ v' w', w'.ownsRow base 9 1 v' (l ++ news).length ((l ++ news).map strL) → W.grownBy w' v.ownBlock → K (a.put o.dst v') w') :
    if Region.wanted o (yielded ops a.tmps) = true then Oper.wp Try.prog o a W K Q else E := by
  have hw : Region.wanted o (yielded ops a.tmps) = true := by simp [Region.wanted, hgd]
  rw [if_pos hw]
  obtain ⟨i0, hi, hz0, hz1, hz2⟩ := info_parts info9
  refine wp_append_own W s x 26 ho base 9 i0 _ 1 16 Try.underlying26 hi hz0 hz1 hz2 rfl (by omega) v l.length (l.map strL) hs hown ad m c (news.map strL) hx (by simpa using hm) hnews (strL_one _) (by unfold maxLen; omega) (by omega) hb ?_
  intro v' w' h1 h2 _
  exact h _ _ (by rw [List.length_append, List.map_append, hm]; exact h1) h2

/-- The cells of texts that are one block. -/
theorem one_atb (w : World) (s : ByteArray) : ∀ j u, ([s.data.toList].map strL)[j]? = some u → (w.alloc (.cells #[.string s] 9)).cell? ((⟨w.heap.size, 0, none⟩ : Addr).add j) = some u := by
  rw [List.map_singleton, strL_of]
  exact one_new w _ 9

theorem row_newsk {w : World} {bb off k n : Nat} {xs : List (List UInt8)} (hc : ∀ i x, xs[i]? = some x → w.cell? ⟨bb, off + i, none⟩ = some (strL x)) : ∀ j u, ((xs.take k).map strL)[j]? = some u → w.cell? ((⟨bb, off, none⟩ : Addr).add j) = some u := by
  intro j u h
  rw [List.getElem?_map, Option.map_eq_some_iff] at h
  obtain ⟨x, hx, rfl⟩ := h
  rw [List.getElem?_take] at hx
  split at hx
  · rw [addr_add]
    exact hc j x hx
  · cases hx

theorem row_drop {w : World} {bb off k cap : Nat} {xs : List (List UInt8)} (hc : ∀ i x, xs[i]? = some x → w.cell? ⟨bb, off + i, none⟩ = some (strL x)) (hk : k ≤ xs.length) (hcap : xs.length ≤ cap) {a1 : Addr} (ha : (if cap = k then some (⟨bb, off, none⟩ : Addr) else some ⟨bb, off + k, none⟩) = some a1) : ∀ j u, ((xs.drop k).map strL)[j]? = some u → w.cell? (a1.add j) = some u := by
  intro j u h
  rw [List.getElem?_map, Option.map_eq_some_iff] at h
  obtain ⟨x, hx, rfl⟩ := h
  rw [List.getElem?_drop] at hx
  have hlt := (List.getElem?_eq_some_iff.1 hx).1
  rw [if_neg (by omega)] at ha
  obtain rfl := Option.some.inj ha
  rw [addr_add, Nat.add_assoc]
  exact hc _ x hx



def asc (l : List (List UInt8)) : Prop := l.Pairwise (fun a b => a < b)

theorem bl (x y : List UInt8) : Op.bytesLess x y = true ↔ x < y := by rw [Go.Proofs.bytesLess_eq]; simp

theorem fadd_mem (s : List UInt8) : ∀ (l : List (List UInt8)) (x : List UInt8), x ∈ fadd l s ↔ x ∈ l ∨ x = s
  | [], x => by simp [fadd]
  | y :: r, x => by
    have ih := fadd_mem s r x
    unfold fadd
    split
    · simp [ih, or_assoc]
    · split
      · next h =>
        subst h
        constructor
        · exact fun h => .inl h
        · rintro (h | rfl)
          · exact h
          · simp
      · rw [List.mem_cons, Or.comm]

theorem fadd_asc (s : List UInt8) : ∀ (l : List (List UInt8)), asc l → asc (fadd l s)
  | [], _ => by simp [fadd, asc]
  | y :: r, h => by
    have h' := List.pairwise_cons.1 h
    unfold fadd
    split
    · next hl =>
      refine List.pairwise_cons.2 ⟨fun x hx => ?_, fadd_asc s r h'.2⟩
      rcases (fadd_mem s r x).1 hx with hx | rfl
      · exact h'.1 x hx
      · exact (bl _ _).1 hl
    · next hl =>
      split
      · exact h
      · next hne =>
        have hlt : s < y := by
          have h1 : ¬ y < s := fun hh => hl ((bl _ _).2 hh)
          rcases List.le_iff_lt_or_eq.1 (List.not_lt.1 h1) with h2 | h2
          · exact h2
          · exact absurd h2.symm hne
        refine List.pairwise_cons.2 ⟨fun x hx => ?_, h⟩
        rcases List.mem_cons.1 hx with rfl | hx
        · exact hlt
        · exact List.lt_trans hlt (h'.1 x hx)

theorem fold_mem : ∀ (l o : List (List UInt8)) (x : List UInt8), x ∈ l.foldl fadd o ↔ x ∈ o ∨ x ∈ l
  | [], o, x => by simp
  | y :: l, o, x => by
    have := fold_mem l (fadd o y) x
    rw [List.foldl_cons, this, fadd_mem]
    simp [or_assoc]
theorem fold_asc : ∀ (l o : List (List UInt8)), asc o → asc (l.foldl fadd o)
  | [], o, h => h
  | y :: l, o, h => fold_asc l _ (fadd_asc y o h)

theorem asc_nodup {l : List (List UInt8)} (h : asc l) : l.Nodup := h.imp fun hab e => by subst e; exact List.lt_irrefl _ hab

/-- The keys that are told, sorted, are the names found. -/

theorem asc_ext : ∀ {a b : List (List UInt8)}, asc a → asc b → (∀ x, x ∈ a ↔ x ∈ b) → a = b
  | [], [], _, _, _ => rfl
  | [], y :: b, _, _, h => by have := (h y).2 (by simp); simp at this
  | x :: a, [], _, _, h => by have := (h x).1 (by simp); simp at this
  | x :: a, y :: b, ha, hb, h => by
    have ha' := List.pairwise_cons.1 ha
    have hb' := List.pairwise_cons.1 hb
    have e : x = y := by
      rcases List.mem_cons.1 ((h x).1 (by simp)) with h1 | h1
      · exact h1
      · rcases List.mem_cons.1 ((h y).2 (by simp)) with h2 | h2
        · exact h2.symm
        · exact absurd (List.lt_trans (hb'.1 x h1) (ha'.1 y h2)) (List.lt_irrefl _)
    subst e
    rw [asc_ext ha'.2 hb'.2 (fun z => by
      constructor
      · intro hz
        rcases List.mem_cons.1 ((h z).1 (by simp [hz])) with h1 | h1
        · subst h1; exact absurd (ha'.1 z hz) (List.lt_irrefl _)
        · exact h1
      · intro hz
        rcases List.mem_cons.1 ((h z).2 (by simp [hz])) with h1 | h1
        · subst h1; exact absurd (hb'.1 z hz) (List.lt_irrefl _)
        · exact h1)]

theorem at_toArray (l : List (List UInt8)) (j : Nat) (h : j < l.length) : l.toArray[j]! = l[j] := by
  rw [getElem!_pos _ j (by simpa using h)]; simp

theorem compact_mem (l : List (List UInt8)) (x : List UInt8) : x ∈ Lib.compact l ↔ x ∈ l := by
  unfold Lib.compact Lib.compactUpTo
  simp only [List.mem_map, List.mem_filter, List.mem_range]
  constructor
  · rintro ⟨j, ⟨hj, _⟩, rfl⟩
    rw [at_toArray l j hj]; exact List.getElem_mem hj
  · intro hx
    obtain ⟨j, hj, rfl⟩ := List.getElem_of_mem hx
    induction j using Nat.strongRecOn with
    | ind j ih =>
      by_cases hk : Lib.keeps l.toArray j = true
      · exact ⟨j, ⟨hj, hk⟩, at_toArray l j hj⟩
      · have hk' : ¬ (j = 0) ∧ l[j] = l[j - 1]'(by omega) := by
          have hk2 : ¬ (j = 0 ∨ l.toArray[j]! ≠ l.toArray[j - 1]!) := by simpa [Lib.keeps] using hk
          have h0 : ¬ j = 0 := fun h => hk2 (.inl h)
          refine ⟨h0, ?_⟩
          have h1 : l.toArray[j]! = l.toArray[j - 1]! := Classical.byContradiction fun h => hk2 (.inr h)
          rwa [at_toArray l j hj, at_toArray l (j - 1) (by omega)] at h1
        have := ih (j - 1) (by omega) (by omega)
        rw [hk'.2]
        exact this (List.getElem_mem _)

theorem compact_asc {l : List (List UInt8)} (h : l.Pairwise (fun a b => a ≤ b)) : asc (Lib.compact l) := by
  unfold Lib.compact Lib.compactUpTo asc
  rw [List.pairwise_map]
  have hp : ((List.range l.length).filter (Lib.keeps l.toArray)).Pairwise (fun i j => i < j ∧ j < l.length ∧ Lib.keeps l.toArray j = true) := by
    rw [List.pairwise_iff_forall_sublist]
    intro i j hs
    have h1 : [i, j].Sublist (List.range l.length) := hs.trans List.filter_sublist
    have h2 := (List.pairwise_iff_forall_sublist.1 List.pairwise_lt_range) h1
    have h3 : j ∈ (List.range l.length).filter (Lib.keeps l.toArray) := hs.subset (by simp)
    rw [List.mem_filter, List.mem_range] at h3
    exact ⟨h2, h3.1, h3.2⟩
  refine hp.imp ?_
  rintro i j ⟨hij, hj, hk⟩
  rw [at_toArray l i (by omega), at_toArray l j hj]
  have hk2 : j = 0 ∨ l.toArray[j]! ≠ l.toArray[j - 1]! := by simpa [Lib.keeps] using hk
  have hne : l[j] ≠ l[j - 1]'(by omega) := by
    rcases hk2 with h | h
    · omega
    · rwa [at_toArray l j hj, at_toArray l (j - 1) (by omega)] at h
  have hs1 : l[j - 1]'(by omega) ≤ l[j] := (List.pairwise_iff_getElem.1 h) (j - 1) j (by omega) hj (by omega)
  have hs0 : l[i]'(by omega) ≤ l[j - 1]'(by omega) := by
    rcases Nat.lt_or_ge i (j - 1) with h' | h'
    · exact (List.pairwise_iff_getElem.1 h) i (j - 1) (by omega) (by omega) h'
    · have : i = j - 1 := by omega
      subst this; exact List.le_refl _
  have hlt : l[j - 1]'(by omega) < l[j] := by
    rcases Classical.em (l[j - 1]'(by omega) < l[j]) with h' | h'
    · exact h'
    · exact absurd (List.le_antisymm (List.not_lt.1 h') hs1) hne
  exact Classical.byContradiction fun hn => hne (List.le_antisymm (List.le_trans (List.not_lt.1 hn) hs0) hs1)

theorem sorted_compact (ss : List (List UInt8)) : Lib.compact (ss.mergeSort fun x y => decide (x ≤ y)) = ss.foldl fadd [] := by
  have hs : (ss.mergeSort fun x y => decide (x ≤ y)).Pairwise (fun a b => a ≤ b) := by
    have := List.pairwise_mergeSort (le := fun x y : List UInt8 => decide (x ≤ y)) (fun a b c h1 h2 => by simp only [decide_eq_true_eq] at *; exact List.le_trans h1 h2) (fun a b => by simp only [Bool.or_eq_true, decide_eq_true_eq]; exact List.le_total a b) ss
    exact this.imp (fun h => by simpa using h)
  refine asc_ext (compact_asc hs) (fold_asc ss [] List.Pairwise.nil) (fun x => ?_)
  rw [compact_mem, List.mem_mergeSort, fold_mem]
  simp


end Go.Proofs.Ytajpfidgepebgaa.sr

namespace Go.Proofs.Ytajpfidgepebgaa.fa
open Go.ChangeShapes Go.WideShapes Go.ChangeAt Go.RowKit Go.Deep Go.Maps
set_option linter.unusedVariables false
set_option linter.unusedSimpArgs false

/-! ### Failing, plainly -/

def nmL (u : ty.Un) : List UInt8 := u.fName.data.toList
theorem un_some {us : List ty.Un} {i : Nat} {u : ty.Un} (h : us[i]? = some u) : (us.map fun u => u.fName)[i]? = some u.fName := by rw [List.getElem?_map, h]; rfl
theorem ascN_at {l : List ByteArray} {n k : Nat} (h : un.ascN l n = true) (hk : k < n) : un.ltB l k = true := by
  unfold un.ascN at h
  exact List.all_eq_true.1 h k (List.mem_range.2 hk)
theorem asc_lt {us : List ty.Un} (h : un.asB (us.map fun u => u.fName) = true) : ∀ (i j : Nat) (x y : ty.Un), j < i → us[j]? = some y → us[i]? = some x → nmL y < nmL x
  | 0, j, x, y, hj, _, _ => by omega
  | K + 1, j, x, y, hj, hy, hx => by
    have hlt := (List.getElem?_eq_some_iff.1 hx).1
    have step : ∀ z, us[K]? = some z → nmL z < nmL x := fun z hz => by
      have h1 := ascN_at (k := K + 1) h (by rw [List.length_map]; exact hlt)
      rw [un.ltB_succ (un_some hx) (un_some hz), ByteArray.toList_eq, ByteArray.toList_eq, Go.Proofs.bytesLess_eq] at h1
      unfold nmL
      simpa using h1
    rcases Nat.lt_or_ge j K with hjk | hjk
    · obtain ⟨z, hz⟩ : ∃ z, us[K]? = some z := ⟨_, List.getElem?_eq_getElem (by omega)⟩
      exact List.lt_trans (asc_lt h K j z y hjk hy hz) (step z hz)
    · obtain rfl : j = K := by omega
      exact step y hy
/-- Units, ascending, few, each with few needs. -/
structure Us (us : List ty.Un) : Prop where
  few : us.length ≤ 100
  asc : ∀ (i j : Nat) (x y : ty.Un), j < i → us[j]? = some y → us[i]? = some x → nmL y < nmL x
  nds : ∀ u ∈ us, u.fNeeds.length ≤ 20
theorem us_of {us : List ty.Un} (h : un.usB us = true) : Us us := by
  unfold un.usB at h
  simp only [Bool.and_eq_true, decide_eq_true_eq, List.all_eq_true] at h
  refine ⟨h.1, asc_lt h.2.1, fun u hu => ?_⟩
  have := h.2.2 u hu
  unfold un.unB at this
  simp only [Bool.and_eq_true, decide_eq_true_eq] at this
  exact this.2.2.2.2.2.1
theorem Us.one {us : List ty.Un} (h : Us us) {i j : Nat} {x y : ty.Un} (hx : us[i]? = some x) (hy : us[j]? = some y) (e : nmL x = nmL y) : i = j := by
  rcases Nat.lt_trichotomy i j with k | k | k
  · have := h.asc j i y x k hx hy
    rw [e] at this
    exact absurd this (List.lt_irrefl _)
  · exact k
  · have := h.asc i j x y k hy hx
    rw [e] at this
    exact absurd this (List.lt_irrefl _)

/-- The number of the unit of that name; behind the last one for what is not there. -/
def uNo (us : List ty.Un) (m : List UInt8) : Nat := us.findIdx fun u => decide (nmL u = m)
theorem uNo_le (us : List ty.Un) (m : List UInt8) : uNo us m ≤ us.length := List.findIdx_le_length
theorem uNo_get {us : List ty.Un} {m : List UInt8} (h : uNo us m < us.length) : ∃ u, us[uNo us m]? = some u ∧ nmL u = m := by
  refine ⟨us[uNo us m], List.getElem?_eq_getElem h, ?_⟩
  have := List.findIdx_getElem (p := fun u => decide (nmL u = m)) (xs := us) (w := h)
  simp only [decide_eq_true_eq] at this
  exact this
theorem uNo_yes {us : List ty.Un} (hU : Us us) {i : Nat} {u : ty.Un} {m : List UInt8} (hu : us[i]? = some u) (hm : nmL u = m) : uNo us m = i := by
  have hlt : uNo us m < us.length := List.findIdx_lt_length_of_exists ⟨u, List.mem_of_getElem? hu, by simpa using hm⟩
  obtain ⟨v, hv, e⟩ := uNo_get hlt
  exact hU.one hv hu (e.trans hm.symm)
theorem uNo_no {us : List ty.Un} {m : List UInt8} (h : ∀ u ∈ us, nmL u ≠ m) : uNo us m = us.length := by
  rcases Nat.lt_or_ge (uNo us m) us.length with k | k
  · obtain ⟨u, hu, e⟩ := uNo_get k
    exact absurd e (h u (List.mem_of_getElem? hu))
  · have := uNo_le us m
    omega
theorem uNo_no' {us : List ty.Un} {m : List UInt8} (h : uNo us m = us.length) : ∀ u ∈ us, nmL u ≠ m := fun u hu e => by
  have hlt : uNo us m < us.length := List.findIdx_lt_length_of_exists ⟨u, hu, by simpa using e⟩
  omega
/-- The numbers of what a unit needs. -/
def nds (us : List ty.Un) (u : ty.Un) : List Nat := u.fNeeds.map fun m => uNo us m.data.toList
theorem nds_le {us : List ty.Un} {u : ty.Un} {x : Nat} (h : x ∈ nds us u) : x ≤ us.length := by
  obtain ⟨m, _, rfl⟩ := List.mem_map.1 h
  exact uNo_le _ _
theorem nds_len (us : List ty.Un) (u : ty.Un) : (nds us u).length = u.fNeeds.length := by simp [nds]

/-- What fails. -/
inductive Fl (us : List ty.Un) (br : List (List UInt8)) : Nat → Prop
  | brk {i : Nat} {u : ty.Un} (hu : us[i]? = some u) (h : nmL u ∈ br) : Fl us br i
  | lack {i : Nat} {u : ty.Un} (hu : us[i]? = some u) (h : us.length ∈ nds us u) : Fl us br i
  | over {i : Nat} {u : ty.Un} {j : Nat} (hu : us[i]? = some u) (h : j ∈ nds us u) (hf : Fl us br j) : Fl us br i
theorem Fl.lt {us : List ty.Un} {br : List (List UInt8)} {i : Nat} (h : Fl us br i) : i < us.length := by
  cases h with
  | brk hu _ => exact (List.getElem?_eq_some_iff.1 hu).1
  | lack hu _ => exact (List.getElem?_eq_some_iff.1 hu).1
  | over hu _ _ => exact (List.getElem?_eq_some_iff.1 hu).1
open Classical in
noncomputable def flN (us : List ty.Un) (br : List (List UInt8)) : List Nat := (List.range us.length).filter fun i => decide (Fl us br i)
theorem flN_mem {us : List ty.Un} {br : List (List UInt8)} {i : Nat} : i ∈ flN us br ↔ Fl us br i := by
  unfold flN
  rw [List.mem_filter, List.mem_range]
  simp only [decide_eq_true_eq]
  exact ⟨fun h => h.2, fun h => ⟨h.lt, h⟩⟩
def nAt (us : List ty.Un) (i : Nat) : List UInt8 := (us[i]?.map nmL).getD []
theorem nAt_some {us : List ty.Un} {i : Nat} {u : ty.Un} (h : us[i]? = some u) : nAt us i = nmL u := by unfold nAt; rw [h]; rfl
/-- What both answer where all is as it should be. -/
noncomputable def flA (us : List ty.Un) (br : List (List UInt8)) : List (List UInt8) := (flN us br).map (nAt us)
noncomputable def faiA (us : List ty.Un) (br : List ByteArray) : List (List UInt8) := if un.usB us = true ∧ br.length ≤ 2000 then flA us (br.map fun b => b.data.toList) else []
theorem flN_asc (us : List ty.Un) (br : List (List UInt8)) : (flN us br).Pairwise (· < ·) := List.Pairwise.filter _ List.pairwise_lt_range
theorem flA_asc {us : List ty.Un} (hU : Us us) (br : List (List UInt8)) : sr.asc (flA us br) := by
  unfold flA sr.asc
  rw [List.pairwise_map]
  refine (flN_asc us br).imp_of_mem fun {a b} ha hb hab => ?_
  have hl := (flN_mem.1 hb).lt
  rw [nAt_some (List.getElem?_eq_getElem (show a < us.length by omega)), nAt_some (List.getElem?_eq_getElem hl)]
  exact hU.asc b a _ _ hab (List.getElem?_eq_getElem _) (List.getElem?_eq_getElem _)
theorem flA_mem {us : List ty.Un} {br : List (List UInt8)} {q : List UInt8} : q ∈ flA us br ↔ ∃ i u, us[i]? = some u ∧ nmL u = q ∧ Fl us br i := by
  unfold flA
  rw [List.mem_map]
  constructor
  · rintro ⟨i, hi, rfl⟩
    have h := flN_mem.1 hi
    exact ⟨i, _, List.getElem?_eq_getElem h.lt, (nAt_some (List.getElem?_eq_getElem h.lt)).symm, h⟩
  · rintro ⟨i, u, hu, rfl, h⟩
    exact ⟨i, flN_mem.2 h, nAt_some hu⟩
theorem flA_len (us : List ty.Un) (br : List (List UInt8)) : (flA us br).length ≤ us.length := by
  unfold flA flN
  rw [List.length_map]
  refine Nat.le_trans (List.length_filter_le _ _) ?_
  rw [List.length_range]
  exact Nat.le_refl _
theorem faiA_len (us : List ty.Un) (br : List ByteArray) : (faiA us br).length ≤ us.length := by
  unfold faiA
  split
  · exact flA_len _ _
  · exact Nat.zero_le _

/-! Round by round. -/

/-- Is a unit bad, given what has failed so far? -/
def bad (us : List ty.Un) (br O : List (List UInt8)) (u : ty.Un) : Bool := decide (nmL u ∈ br) || u.fNeeds.any fun m => decide (m.data.toList ∈ O) || decide (uNo us m.data.toList = us.length)
def stp (us : List ty.Un) (br : List (List UInt8)) (O : List (List UInt8)) (u : ty.Un) : List (List UInt8) := if bad us br O u = true then sr.fadd O (nmL u) else O
def rnd (us : List ty.Un) (br O : List (List UInt8)) : List (List UInt8) := us.foldl (stp us br) O
def rnds (us : List ty.Un) (br : List (List UInt8)) : Nat → List (List UInt8)
  | 0 => []
  | k + 1 => rnd us br (rnds us br k)
/-- What is right of all that stands in between. -/
structure Mid (us : List ty.Un) (br O : List (List UInt8)) : Prop where
  asc : sr.asc O
  snd : ∀ q ∈ O, ∃ i u, us[i]? = some u ∧ nmL u = q ∧ Fl us br i
theorem Mid.nil (us : List ty.Un) (br : List (List UInt8)) : Mid us br [] := ⟨List.Pairwise.nil, fun q hq => by cases hq⟩
theorem bad_fl {us : List ty.Un} (hU : Us us) {br O : List (List UInt8)} (h : Mid us br O) {i : Nat} {u : ty.Un} (hu : us[i]? = some u) (hb : bad us br O u = true) : Fl us br i := by
  unfold bad at hb
  simp only [Bool.or_eq_true, decide_eq_true_eq, List.any_eq_true] at hb
  rcases hb with hb | ⟨m, hm, hb | hb⟩
  · exact .brk hu hb
  · obtain ⟨j, v, hv, e, hf⟩ := h.snd _ hb
    exact .over hu (List.mem_map.2 ⟨m, hm, uNo_yes hU hv e⟩) hf
  · exact .lack hu (List.mem_map.2 ⟨m, hm, hb⟩)
theorem Mid.stp {us : List ty.Un} (hU : Us us) {br O : List (List UInt8)} (h : Mid us br O) {i : Nat} {u : ty.Un} (hu : us[i]? = some u) : Mid us br (stp us br O u) := by
  unfold fa.stp
  split
  · next hb =>
    refine ⟨sr.fadd_asc _ _ h.asc, fun q hq => ?_⟩
    rcases (sr.fadd_mem _ _ _).1 hq with hq | hq
    · exact h.snd q hq
    · exact ⟨i, u, hu, hq.symm, bad_fl hU h hu hb⟩
  · exact h
theorem stp_sub (us : List ty.Un) (br O : List (List UInt8)) (u : ty.Un) : ∀ q ∈ O, q ∈ stp us br O u := fun q hq => by
  unfold stp
  split
  · exact (sr.fadd_mem _ _ _).2 (.inl hq)
  · exact hq
theorem foldl_sub (us : List ty.Un) (br : List (List UInt8)) : ∀ (l : List ty.Un) (O : List (List UInt8)), ∀ q ∈ O, q ∈ l.foldl (stp us br) O
  | [], O, q, hq => hq
  | u :: l, O, q, hq => foldl_sub us br l _ q (stp_sub us br O u q hq)
theorem foldl_mid {us : List ty.Un} (hU : Us us) {br : List (List UInt8)} : ∀ (l : List ty.Un) (O : List (List UInt8)), (∀ u ∈ l, ∃ i : Nat, us[i]? = some u) → Mid us br O → Mid us br (l.foldl (stp us br) O)
  | [], O, _, h => h
  | u :: l, O, hl, h => by
    obtain ⟨i, hi⟩ := hl u (by simp)
    exact foldl_mid hU l _ (fun v hv => hl v (by simp [hv])) (h.stp hU hi)
theorem Mid.rnd {us : List ty.Un} (hU : Us us) {br O : List (List UInt8)} (h : Mid us br O) : Mid us br (rnd us br O) := foldl_mid hU us O (fun u hu => List.getElem?_of_mem hu) h
theorem Mid.rnds {us : List ty.Un} (hU : Us us) (br : List (List UInt8)) : ∀ k, Mid us br (rnds us br k)
  | 0 => .nil us br
  | k + 1 => (Mid.rnds hU br k).rnd hU
/-- Nothing is left to add. -/
def Cl (us : List ty.Un) (br O : List (List UInt8)) : Prop := ∀ u ∈ us, bad us br O u = true → nmL u ∈ O
theorem fadd_same {O : List (List UInt8)} (h : sr.asc O) {q : List UInt8} (hq : q ∈ O) : sr.fadd O q = O := sr.asc_ext (sr.fadd_asc _ _ h) h fun x => by
  rw [sr.fadd_mem]
  exact ⟨fun k => k.elim id fun e => e ▸ hq, .inl⟩
theorem foldl_cl {us : List ty.Un} {br O : List (List UInt8)} (ha : sr.asc O) (hc : Cl us br O) : ∀ l : List ty.Un, (∀ u ∈ l, u ∈ us) → l.foldl (stp us br) O = O
  | [], _ => rfl
  | u :: l, hl => by
    have e : stp us br O u = O := by
      unfold stp
      split
      · next hb => exact fadd_same ha (hc u (hl u (by simp)) hb)
      · rfl
    rw [List.foldl_cons, e]
    exact foldl_cl ha hc l fun v hv => hl v (by simp [hv])
theorem bad_mono {us : List ty.Un} {br O O' : List (List UInt8)} {u : ty.Un} (h : ∀ q ∈ O, q ∈ O') (hb : bad us br O u = true) : bad us br O' u = true := by
  unfold bad at hb ⊢
  simp only [Bool.or_eq_true, decide_eq_true_eq, List.any_eq_true] at hb ⊢
  rcases hb with hb | ⟨m, hm, hb | hb⟩
  · exact .inl hb
  · exact .inr ⟨m, hm, .inl (h _ hb)⟩
  · exact .inr ⟨m, hm, .inr hb⟩
/-- A round that adds nothing has nothing left to add. -/
theorem foldl_has {us : List ty.Un} {br : List (List UInt8)} : ∀ (l : List ty.Un) (O : List (List UInt8)) (u : ty.Un), u ∈ l → bad us br O u = true → nmL u ∈ l.foldl (stp us br) O
  | v :: l, O, u, hu, hb => by
    rw [List.foldl_cons]
    rcases List.mem_cons.1 hu with rfl | hu
    · refine foldl_sub us br l _ _ ?_
      unfold stp
      rw [if_pos hb]
      exact (sr.fadd_mem _ _ _).2 (.inr rfl)
    · exact foldl_has l _ u hu (bad_mono (stp_sub us br O v) hb)
theorem nodup_len {F L : List (List UInt8)} (hn : F.Nodup) (hs : ∀ x ∈ F, x ∈ L) : F.length ≤ L.length := by
  induction F generalizing L with
  | nil => simp
  | cons a F ih =>
    rw [List.nodup_cons] at hn
    have ha := hs a (by simp)
    have h1 := ih (L := L.erase a) hn.2 (fun x hx => (List.mem_erase_of_ne (show x ≠ a from fun e => hn.1 (by rw [← e]; exact hx))).2 (hs x (by simp [hx])))
    rw [List.length_erase_of_mem ha] at h1
    have := List.length_pos_of_mem ha
    rw [List.length_cons]
    omega
theorem Mid.len {us : List ty.Un} {br O : List (List UInt8)} (h : Mid us br O) : O.length ≤ us.length := by
  have := nodup_len (L := us.map nmL) (sr.asc_nodup h.asc) fun q hq => by
    obtain ⟨i, u, hu, e, _⟩ := h.snd q hq
    exact List.mem_map.2 ⟨u, List.mem_of_getElem? hu, e⟩
  rwa [List.length_map] at this
theorem rnds_grow {us : List ty.Un} (hU : Us us) (br : List (List UInt8)) : ∀ k, Cl us br (rnds us br k) ∨ k ≤ (rnds us br k).length
  | 0 => .inr (Nat.le_refl _)
  | k + 1 => by
    have hm := Mid.rnds hU br k
    by_cases hc : Cl us br (rnds us br k)
    · left
      have e : rnds us br (k + 1) = rnds us br k := foldl_cl hm.asc hc us fun u hu => hu
      rw [e]
      exact hc
    · right
      have h1 : k ≤ (rnds us br k).length := (rnds_grow hU br k).resolve_left hc
      unfold Cl at hc
      obtain ⟨u, hu, hb, hn⟩ : ∃ u ∈ us, bad us br (rnds us br k) u = true ∧ nmL u ∉ rnds us br k := by
        by_cases he : ∃ u ∈ us, bad us br (rnds us br k) u = true ∧ nmL u ∉ rnds us br k
        · exact he
        · exact absurd (fun u hu hb => Classical.byContradiction fun hn => he ⟨u, hu, hb, hn⟩) hc
      have h2 := nodup_len (F := nmL u :: rnds us br k) (L := rnds us br (k + 1)) (List.nodup_cons.2 ⟨hn, sr.asc_nodup hm.asc⟩) fun x hx => by
        rcases List.mem_cons.1 hx with rfl | hx
        · exact foldl_has us _ u hu hb
        · exact foldl_sub us br us _ x hx
      rw [List.length_cons] at h2
      omega
/-- Behind as many rounds as there are units, and one more, all is there. -/
theorem rnds_all {us : List ty.Un} (hU : Us us) (br : List (List UInt8)) : rnds us br (us.length + 1) = flA us br := by
  have hm := Mid.rnds hU br (us.length + 1)
  have hc : Cl us br (rnds us br (us.length + 1)) := (rnds_grow hU br (us.length + 1)).resolve_right fun h => by have := hm.len; omega
  refine sr.asc_ext hm.asc (flA_asc hU br) fun q => ⟨fun hq => flA_mem.2 (hm.snd q hq), fun hq => ?_⟩
  obtain ⟨i, u, hu, rfl, hf⟩ := flA_mem.1 hq
  clear hq
  induction hf generalizing u with
  | brk hu' h =>
    rw [hu'] at hu; cases hu
    exact hc _ (List.mem_of_getElem? hu') (by unfold bad; simp [h])
  | lack hu' h =>
    rw [hu'] at hu; cases hu
    obtain ⟨m, hm', e⟩ := List.mem_map.1 h
    exact hc _ (List.mem_of_getElem? hu') (by unfold bad; simp only [Bool.or_eq_true, decide_eq_true_eq, List.any_eq_true]; exact .inr ⟨m, hm', .inr e⟩)
  | over hu' h hf ih =>
    rw [hu'] at hu; cases hu
    obtain ⟨m, hm', e⟩ := List.mem_map.1 h
    obtain ⟨v, hv, ev⟩ := uNo_get (us := us) (m := m.data.toList) (by rw [e]; exact hf.lt)
    rw [e] at hv
    have := ih v hv
    rw [ev] at this
    exact hc _ (List.mem_of_getElem? hu') (by unfold bad; simp only [Bool.or_eq_true, decide_eq_true_eq, List.any_eq_true]; exact .inr ⟨m, hm', .inl this⟩)

/-! A list of numbers that have been found, and one of numbers to be looked at. -/

structure Bfs (us : List ty.Un) (br : List (List UInt8)) (F W : List Nat) : Prop where
  snd : ∀ x, x ∈ F ∨ x ∈ W → x = us.length ∨ Fl us br x
  abs : us.length ∈ F ∨ us.length ∈ W
  sds : ∀ b ∈ br, uNo us b ∈ F ∨ uNo us b ∈ W
  cls : ∀ x ∈ F, ∀ y u, us[y]? = some u → x ∈ nds us u → y ∈ F ∨ y ∈ W
  nod : F.Nodup
theorem Bfs.le {us : List ty.Un} {br : List (List UInt8)} {F W : List Nat} (h : Bfs us br F W) {x : Nat} (hx : x ∈ F ∨ x ∈ W) : x ≤ us.length := by
  rcases h.snd x hx with rfl | k
  · exact Nat.le_refl _
  · exact Nat.le_of_lt k.lt
theorem Bfs.skip {us : List ty.Un} {br : List (List UInt8)} {F W : List Nat} {x : Nat} (h : Bfs us br F (x :: W)) (hx : x ∈ F) : Bfs us br F W := by
  have k : ∀ y, (y ∈ F ∨ y ∈ x :: W) → y ∈ F ∨ y ∈ W := fun y hy => by
    rcases hy with hy | hy
    · exact .inl hy
    · rcases List.mem_cons.1 hy with rfl | hy
      · exact .inl hx
      · exact .inr hy
  exact ⟨fun y hy => h.snd y (hy.imp id fun q => List.mem_cons_of_mem _ q), k _ h.abs, fun b hb => k _ (h.sds b hb), fun y hy z u hu hz => k _ (h.cls y hy z u hu hz), h.nod⟩
theorem Bfs.more {us : List ty.Un} (hU : Us us) {br : List (List UInt8)} {F W B : List Nat} {x : Nat} (h : Bfs us br F (x :: W)) (hx : x ∉ F) (hB : ∀ y, y ∈ B ↔ ∃ u, us[y]? = some u ∧ x ∈ nds us u) : Bfs us br (F ++ [x]) (W ++ B) := by
  have k : ∀ y, (y ∈ F ∨ y ∈ x :: W) → y ∈ F ++ [x] ∨ y ∈ W ++ B := fun y hy => by
    rcases hy with hy | hy
    · exact .inl (List.mem_append_left _ hy)
    · rcases List.mem_cons.1 hy with rfl | hy
      · exact .inl (by simp)
      · exact .inr (List.mem_append_left _ hy)
  have hxs := h.snd x (.inr (by simp))
  refine ⟨fun y hy => ?_, k _ h.abs, fun b hb => k _ (h.sds b hb), fun y hy z u hu hz => ?_, ?_⟩
  · rcases hy with hy | hy
    · rcases List.mem_append.1 hy with hy | hy
      · exact h.snd y (.inl hy)
      · simp only [List.mem_singleton] at hy
        subst hy
        exact hxs
    · rcases List.mem_append.1 hy with hy | hy
      · exact h.snd y (.inr (List.mem_cons_of_mem _ hy))
      · obtain ⟨u, hu, hn⟩ := (hB y).1 hy
        right
        rcases hxs with e | e
        · exact .lack hu (e ▸ hn)
        · exact .over hu hn e
  · rcases List.mem_append.1 hy with hy | hy
    · exact k _ (h.cls y hy z u hu hz)
    · simp only [List.mem_singleton] at hy
      subst hy
      exact .inr (List.mem_append_right _ ((hB z).2 ⟨u, hu, hz⟩))
  · rw [List.nodup_append]
    exact ⟨h.nod, by simp, fun a ha b hb => by simp only [List.mem_singleton] at hb; subst hb; exact fun e => hx (e ▸ ha)⟩
theorem Bfs.done {us : List ty.Un} (hU : Us us) {br : List (List UInt8)} {F : List Nat} (h : Bfs us br F []) (i : Nat) : (i ∈ F ∧ i ≠ us.length) ↔ Fl us br i := by
  have k : ∀ {y}, (y ∈ F ∨ y ∈ ([] : List Nat)) → y ∈ F := fun {y} hy => hy.elim id fun q => by cases q
  constructor
  · rintro ⟨h1, h2⟩
    exact (h.snd i (.inl h1)).resolve_left h2
  · intro hf
    refine ⟨?_, by have := hf.lt; omega⟩
    induction hf with
    | brk hu hb =>
      have := k (h.sds _ hb)
      rwa [uNo_yes hU hu rfl] at this
    | lack hu hl => exact k (h.cls _ (k h.abs) _ _ hu hl)
    | over hu hj hf ih => exact k (h.cls _ ih _ _ hu hj)
theorem nodup_lenN {F L : List Nat} (hn : F.Nodup) (hs : ∀ x ∈ F, x ∈ L) : F.length ≤ L.length := by
  induction F generalizing L with
  | nil => simp
  | cons a F ih =>
    rw [List.nodup_cons] at hn
    have ha := hs a (by simp)
    have h1 := ih (L := L.erase a) hn.2 (fun x hx => (List.mem_erase_of_ne (show x ≠ a from fun e => hn.1 (by rw [← e]; exact hx))).2 (hs x (by simp [hx])))
    rw [List.length_erase_of_mem ha] at h1
    have := List.length_pos_of_mem ha
    rw [List.length_cons]
    omega
theorem Bfs.len {us : List ty.Un} {br : List (List UInt8)} {F W : List Nat} (h : Bfs us br F W) : F.length ≤ us.length + 1 := by
  have := nodup_lenN (L := List.range (us.length + 1)) h.nod fun x hx => List.mem_range.2 (by have := h.le (.inl hx); omega)
  rwa [List.length_range] at this
/-- The beginning. -/
theorem Bfs.zero (us : List ty.Un) (br : List (List UInt8)) (hU : Us us) : Bfs us br [] (us.length :: br.map (uNo us)) := by
  refine ⟨fun x hx => ?_, .inr (by simp), fun b hb => .inr (List.mem_cons_of_mem _ (List.mem_map_of_mem hb)), fun x hx => (by cases hx), List.nodup_nil⟩
  rcases hx with hx | hx
  · cases hx
  · rcases List.mem_cons.1 hx with rfl | hx
    · exact .inl rfl
    · obtain ⟨b, hb, rfl⟩ := List.mem_map.1 hx
      rcases Nat.lt_or_ge (uNo us b) us.length with k | k
      · obtain ⟨u, hu, e⟩ := uNo_get k
        exact .inr (.brk hu (e ▸ hb))
      · exact .inl (by have := uNo_le us b; omega)

end Go.Proofs.Ytajpfidgepebgaa.fa

namespace Go.Proofs.Ytajpfidgepebgaa.fi
open Go.ChangeShapes Go.WideShapes Go.ChangeAt Go.RowKit Go.Deep
set_option linter.unusedVariables false
set_option linter.unusedSimpArgs false

/-! ### A row of numbers that can be appended to and be cut at its head -/

def nV (l : List Nat) : List Value := l.map fun (n : Nat) => Value.int .i64 (n : Int)
theorem nV_len (l : List Nat) : (nV l).length = l.length := by simp [nV]
theorem nV_get {l : List Nat} {j : Nat} {u : Value} (h : (nV l)[j]? = some u) : ∃ hj : j < l.length, u = .int .i64 (l[j] : Int) := by
  have hj : j < l.length := by have := (List.getElem?_eq_some_iff.1 h).1; rwa [nV_len] at this
  refine ⟨hj, ?_⟩
  simpa [nV, hj] using h.symm
theorem nV_at {l : List Nat} {j : Nat} (h : j < l.length) : (nV l)[j]? = some (.int .i64 (l[j] : Int)) := by simp [nV, h]
theorem nV_one (l : List Nat) : ∀ u ∈ nV l, u.oneCell' = true := by
  intro u hu
  obtain ⟨b, _, rfl⟩ := List.mem_map.1 hu
  rfl

structure Ib (base : Nat) (w : World) (g o cap : Nat) (l : List Nat) : Prop where
  new : base ≤ g
  lt : g < w.heap.size
  cells : ∀ j (h : j < l.length), w.cell? ⟨g, o + j, none⟩ = some (.int .i64 (l[j] : Int))
  spare : ∀ j, j < cap → (w.cell? ⟨g, o + j, none⟩).isSome = true ∧ w.frozen? ⟨g, o + j, none⟩ = false
  le : l.length ≤ cap
  max : cap ≤ maxLen

theorem Ib.kept {base : Nat} {w w' : World} {g o cap : Nat} {l : List Nat} (h : Ib base w g o cap l) (hs : w.heap.size ≤ w'.heap.size) (hb : w'.heap[g]? = w.heap[g]?) : Ib base w' g o cap l :=
  ⟨h.new, by have := h.lt; omega, fun j hj => (World.cell?_of_block (a := ⟨g, o + j, none⟩) hb).trans (h.cells j hj), fun j hj => by
    rw [World.cell?_of_block (a := ⟨g, o + j, none⟩) hb, World.frozen?_of_block (a := ⟨g, o + j, none⟩) hb]; exact h.spare j hj, h.le, h.max⟩
theorem Ib.below {base : Nat} {w w' : World} {g o cap : Nat} {l : List Nat} (h : Ib base w g o cap l) (hb : Below w.heap.size w w') : Ib base w' g o cap l := h.kept hb.size (hb.block g h.lt)
theorem Ib.drop {base : Nat} {w : World} {g o cap x : Nat} {l : List Nat} (h : Ib base w g o cap (x :: l)) : Ib base w g (o + 1) (cap - 1) l :=
  ⟨h.new, h.lt, fun j hj => by
    have := h.cells (j + 1) (by simpa using hj)
    rw [show o + 1 + j = o + (j + 1) by omega]
    simpa using this, fun j hj => by rw [show o + 1 + j = o + (j + 1) by omega]; exact h.spare (j + 1) (by omega), by have := h.le; simp at this; omega, by have := h.max; omega⟩
theorem Ib.mono {B B' : Nat} {w : World} {g o cap : Nat} {l : List Nat} (h : Ib B w g o cap l) (hb : B' ≤ B) : Ib B' w g o cap l := ⟨Nat.le_trans hb h.new, h.lt, h.cells, h.spare, h.le, h.max⟩
theorem Ib.emp {base : Nat} {w : World} {g o cap : Nat} {l : List Nat} (h : Ib base w g o cap l) (o' : Nat) : Ib base w g o' 0 [] := ⟨h.new, h.lt, fun j hj => by simp at hj, fun j hj => by omega, Nat.le_refl _, Nat.zero_le _⟩
/-- Cut at its head: where nothing more can stand, the address stays. -/
theorem Ib.tail {base : Nat} {w : World} {g o cap x : Nat} {l : List Nat} (h : Ib base w g o cap (x :: l)) : ∃ o', (if cap = 1 then some (⟨g, o, none⟩ : Addr) else some ⟨g, o + 1, none⟩) = some ⟨g, o', none⟩ ∧ Ib base w g o' (cap - 1) l := by
  have h1 := h.le
  rw [List.length_cons] at h1
  by_cases e : cap = 1
  · obtain rfl : l = [] := List.eq_nil_of_length_eq_zero (by omega)
    subst e
    exact ⟨o, by rw [if_pos rfl], h.emp o⟩
  · exact ⟨o + 1, by rw [if_neg e], h.drop⟩

/-- What an append leaves: the row, perhaps in a new block; but for its own block all stays. -/
structure Ap (base : Nat) (w : World) (g : Nat) (w' : World) (g' o' cap' : Nat) (l' : List Nat) : Prop where
  ib : Ib base w' g' o' cap' l'
  grown : w.grownBy w' (some g)
  here : g' = g ∨ w.heap.size ≤ g'
theorem Ap.bel {base : Nat} {w w1 : World} {g g1 o1 c1 : Nat} {l1 : List Nat} (h : Ap base w g w1 g1 o1 c1 l1) (hg : base ≤ g) (hB : base ≤ w.heap.size) : Below base w w1 :=
  ⟨h.grown.os, h.grown.tape, h.grown.output, h.grown.size, fun k hk => h.grown.block k (by omega) (fun e => by have := Option.some.inj e; omega)⟩

theorem below_setCells' {B : Nat} {a : World} {b : Nat} (hb : B ≤ b) : ∀ (vs : List Value) (o : Nat) (w : World), Below B a w → Below B a (w.setCells b o vs)
  | [], _, _, h => h
  | v :: r, o, w, h => below_setCells' hb r (o + 1) _ (h.setCell (p := ⟨b, o, none⟩) hb v)
theorem setCells_ib {base : Nat} {w : World} {g o cap : Nat} {l m : List Nat} (h : Ib base w g o cap l) (hr : l.length + m.length ≤ cap) : Ap base w g (w.setCells g (o + l.length) (nV m)) g o cap (l ++ m) := by
  have sz : ∀ (vs : List Value) (o : Nat) (W : World), (W.setCells g o vs).heap.size = W.heap.size := by
    intro vs
    induction vs with
    | nil => intro o W; rfl
    | cons v r ih => intro o W; exact (ih (o + 1) _).trans (by simp [World.setCell])
  have bl : Below g w (w.setCells g (o + l.length) (nV m)) := below_setCells' (Nat.le_refl _) _ _ _ (Below.refl _ _)
  have oth : ∀ (vs : List Value) (o : Nat) (W : World) (k : Nat), k ≠ g → (W.setCells g o vs).heap[k]? = W.heap[k]? := by
    intro vs
    induction vs with
    | nil => intro o W k _; rfl
    | cons v r ih => intro o W k hk; exact (ih (o + 1) _ k hk).trans (Below.heap_setCell _ _ _ _ hk)
  have fz : ∀ (vs : List Value) (o : Nat) (W : World) (j : Nat), (W.setCells g o vs).frozen? ⟨g, j, none⟩ = W.frozen? ⟨g, j, none⟩ := by
    intro vs
    induction vs with
    | nil => intro o W j; rfl
    | cons v r ih => intro o W j; exact (ih (o + 1) _ j).trans (by simp [go_sem])
  have cs : ∀ (j : Nat), (w.setCells g (o + l.length) (nV m)).cell? ⟨g, o + j, none⟩ = if h : l.length ≤ j ∧ j - l.length < m.length then some (.int .i64 (m[j - l.length] : Int)) else w.cell? ⟨g, o + j, none⟩ := by
    intro j
    split
    · next hj =>
      have := World.cell?_setCells_in g (nV m) (o + l.length) w (fun i hi => by rw [Nat.add_assoc]; exact (h.spare _ (by rw [nV_len] at hi; omega)).1) (j - l.length) (by rw [nV_len]; exact hj.2)
      rw [show o + l.length + (j - l.length) = o + j by omega] at this
      rw [this]
      simp [nV]
    · next hj =>
      exact World.cell?_setCells_out _ _ _ _ _ (fun _ _ => by rw [nV_len]; show o + j < _ ∨ _ ≤ o + j; omega)
  refine ⟨⟨h.new, by rw [sz]; exact h.lt, fun j hj => ?_, fun j hj => ⟨?_, ?_⟩, by simpa using hr, h.max⟩, ⟨bl.os, bl.tape, bl.output, by rw [sz]; exact Nat.le_refl _, fun k hk hn => oth _ _ _ _ (fun e => hn (by rw [e]))⟩, .inl rfl⟩
  · rw [cs]
    by_cases hl : l.length ≤ j
    · have hj' : j - l.length < m.length := by rw [List.length_append] at hj; omega
      rw [dif_pos ⟨hl, hj'⟩, List.getElem_append_right hl]
    · rw [dif_neg (fun e => hl e.1), h.cells j (by omega), List.getElem_append_left (by omega)]
  · rw [cs]
    split
    · rfl
    · exact (h.spare j hj).1
  · rw [fz]; exact (h.spare j hj).2

theorem grow_ib {base : Nat} {w : World} {g o cap c2 : Nat} {l m : List Nat} (h : Ib base w g o cap l) (hB : base ≤ w.heap.size) (e : TypeId) (hc : (l ++ m).length ≤ c2) (hm : c2 ≤ maxLen) :
    Ap base w g (w.drew.alloc (.cells ((nV l).toArray ++ (nV m).toArray ++ Builtin.zeroCells (Value.int .i64 0).cells (c2 - (l.length + m.length))) e)) w.heap.size 0 c2 (l ++ m) := by
  have hz : (Value.int IntKind.i64 0).cells.size = 1 := rfl
  have hlen : ((nV l).toArray ++ (nV m).toArray ++ Builtin.zeroCells (Value.int .i64 0).cells (c2 - (l.length + m.length))).size = c2 := by
    rw [List.length_append] at hc
    simp only [Array.size_append, List.size_toArray, size_zeroCells, hz, nV_len]
    omega
  have hcell : ∀ j, (w.drew.alloc (.cells ((nV l).toArray ++ (nV m).toArray ++ Builtin.zeroCells (Value.int .i64 0).cells (c2 - (l.length + m.length))) e)).cell? ⟨w.heap.size, 0 + j, none⟩ = ((nV l).toArray ++ (nV m).toArray ++ Builtin.zeroCells (Value.int .i64 0).cells (c2 - (l.length + m.length)))[j]? := fun j => by rw [Nat.zero_add]; exact World.cell?_alloc_new w.drew _ _ j
  refine ⟨⟨hB, by simp, fun j hj => ?_, fun j hj => ⟨?_, ?_⟩, hc, hm⟩, ⟨rfl, rfl, rfl, by simp, fun k hk _ => Below.heap_alloc w.drew _ k hk⟩, .inr (Nat.le_refl _)⟩
  · have hj2 : j < ((nV l).toArray ++ (nV m).toArray).size := by simpa [nV_len] using hj
    rw [hcell, Array.getElem?_append_left hj2]
    rw [← nV_at hj]
    simp [nV]
  · rw [hcell, Array.getElem?_eq_getElem (by omega)]; rfl
  · have hb : (w.drew.alloc (.cells ((nV l).toArray ++ (nV m).toArray ++ Builtin.zeroCells (Value.int .i64 0).cells (c2 - (l.length + m.length))) e)).heap[w.heap.size]? = _ := heap_alloc_new w.drew _
    unfold World.frozen?
    simp only [hb]
    simp

theorem infoI : (Try.prog.info? 3).map (fun i => (i.zero, i.size, i.bytes)) = some (some (.int .i64 0), 1, 8) := by kernel_rfl

/-- An append of numbers. -/
theorem run_ints {base : Nat} {w : World} {g o cap : Nat} {l m : List Nat} (h : Ib base w g o cap l) (hB : base ≤ w.heap.size) (ad : Addr) (c : Nat) (hm : ∀ j u, (nV m)[j]? = some u → w.cell? (ad.add j) = some u) (hz : l.length + m.length ≤ 1099511627) :
    ∃ g' o' cap' w', (∀ ty, (Builtin.append_ #[41, 41] ty #[.slice (some ⟨g, o, none⟩) l.length cap, .slice (some ad) m.length c]).run Try.prog w = .ok (.slice (some ⟨g', o', none⟩) (l ++ m).length cap') w') ∧ Ap base w g w' g' o' cap' (l ++ m) := by
  obtain ⟨i, hi, hzz⟩ := Option.map_eq_some_iff.1 infoI
  simp only [Prod.mk.injEq] at hzz
  obtain ⟨hz0, hsz, hby⟩ := hzz
  have hL : (l ++ m).length = l.length + m.length := List.length_append
  by_cases hroom : l.length + m.length ≤ cap
  · have hr := fun ty => run_append_room_cells (P := Try.prog) w 41 ty 3 i Try.underlying41 hi g o l.length cap ad m.length c (nV m) (by rw [hsz, nV_len]; omega) hm (nV_one m) hroom
      (fun j hj => by rw [hsz, Nat.mul_one, Nat.add_assoc]; exact (h.spare _ (by rw [nV_len] at hj; omega)).1) (fun j hj => by rw [hsz, Nat.mul_one, Nat.add_assoc]; exact (h.spare _ (by rw [nV_len] at hj; omega)).2)
    simp only [hsz, Nat.mul_one] at hr
    exact ⟨g, o, cap, _, fun ty => by rw [hr ty, hL], setCells_ib h hroom⟩
  · have holds : ∀ j u, (nV l)[j]? = some u → w.cell? ((⟨g, o, none⟩ : Addr).add j) = some u := by
      intro j u hj
      obtain ⟨hj', rfl⟩ := nV_get hj
      rw [addr_add]
      exact h.cells j hj'
    have hr := fun ty => run_append_grow (P := Try.prog) w 41 ty 3 i (.int .i64 0) Try.underlying41 hi hz0 ⟨g, o, none⟩ l.length cap (nV l) (by rw [hsz, nV_len]; omega) holds ad m.length c (nV m) (by rw [hsz, nV_len]; omega) hm (by omega) (by omega)
      (growslice_fits (by omega) (by rw [hby]; omega))
    refine ⟨w.heap.size, 0, grownCap w (l.length + m.length) cap 3, _, fun ty => by rw [hr ty, hL], grow_ib h hB 3 ?_ (grownCap_le_maxLen w _ cap 3 (by unfold maxLen; omega))⟩
    rw [hL]
    exact grownCap_ge w (l.length + m.length) cap 3

/-- An append as one operation that is carried out in a region. -/
theorem wp_appI {o : Oper} {a : Act} {W W6 : World} {v x v6 : Value} {K : Act → World → Prop} {Q : Exit → Act → World → Prop} (s y : Operand) (ho : o.op = .call { callee := .builtin .append, args := #[s, y], argTypes := #[41, 41] }) (hty : o.type = 41) (hs : a.eval s = v) (hx : a.eval y = x)
    (hr : (Builtin.append_ #[41, 41] 41 #[v, x]).run Try.prog W = .ok v6 W6) (h : K (a.put o.dst v6) W6) : o.wp Try.prog a W K Q := by
  unfold Oper.wp execOp
  simp only [ho, hty, resolve, invoke, builtin, Sem.run_bind, Sem.run_pure, Result.andThen_ok, List.map_toArray, List.map_cons, List.map_nil, hs, hx, hr]
  exact h

end Go.Proofs.Ytajpfidgepebgaa.fi
