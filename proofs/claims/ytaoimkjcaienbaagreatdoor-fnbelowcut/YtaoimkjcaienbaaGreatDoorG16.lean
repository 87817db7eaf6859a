import Derived.Test.YtaoimkjcaienbaaGreatDoorG15
import Derived.Test.YtaoimkjcaienbaaGreatDoorG04
import Derived.Sort.Walk0
import Derived.Deep.RegionHeld3
import Derived.Deep.AppendLies
import Derived.Lib.SlicesCompact
import Derived.Shelf.Slices.CompactS
import Derived.Sort.OwnSorted
import Derived.Ground.NamesProg
import Derived.Test.YtaoimkjcaienbaaGreatDoorG02
import Derived.Maps.Own
import Derived.Shelf.SlicesE.DeleteFunc
import Derived.Ground.SlgfProg
import Derived.Lib.Hide
namespace Go.Proofs.YtaoimkjcaienbaaGreatDoor.tt
set_option linter.unusedVariables false
set_option linter.unusedSimpArgs false

/-! ### What is below a directory of a tree is a tree -/

theorem pk_less : ∀ (l : List UInt8) (c c' : Nat) (cur : List UInt8), c' ≤ c → pk c cur l = true → pk c' cur l = true
  | [], c, c', cur, hc, h => by
    unfold pk at h ⊢
    rw [Bool.and_eq_true, decide_eq_true_iff] at h ⊢
    exact ⟨h.1, by omega⟩
  | b :: l, c, c', cur, hc, h => by
    unfold pk at h ⊢
    split
    · next hb =>
      rw [if_pos hb, Bool.and_eq_true, Bool.and_eq_true, decide_eq_true_iff] at h
      rw [Bool.and_eq_true, Bool.and_eq_true, decide_eq_true_iff]
      exact ⟨⟨h.1.1, by omega⟩, pk_less l _ _ _ (by omega) h.2⟩
    · next hb =>
      rw [if_neg hb] at h
      exact pk_less l _ _ _ hc h
theorem pk_tail (t : List UInt8) : ∀ (q : List UInt8) (c : Nat) (cur : List UInt8), pk c cur (q ++ 47 :: t) = true → ∃ c', c ≤ c' ∧ pk c' [] t = true
  | [], c, cur, h => by
    rw [List.nil_append] at h
    unfold pk at h
    rw [if_pos rfl, Bool.and_eq_true] at h
    exact ⟨c + 1, by omega, h.2⟩
  | b :: q, c, cur, h => by
    rw [List.cons_append] at h
    unfold pk at h
    split at h
    · rw [Bool.and_eq_true] at h
      obtain ⟨c', h1, h2⟩ := pk_tail t q _ _ h.2
      exact ⟨c', by omega, h2⟩
    · exact pk_tail t q _ _ h
theorem lt_cut {p s t : List UInt8} (h : p ++ s < p ++ t) : s < t := by
  induction p with
  | nil => exact h
  | cons a p ih =>
    rw [List.cons_append, List.cons_append, List.cons_lt_cons_iff] at h
    rcases h with h | h
    · exact absurd h (by simp)
    · exact ih h.2
section
variable {E : Nat → En} {n : Nat} {q : ByteArray}
theorem un_path {x : Nat} (h : Und (pth E x) q.data.toList) : pth E x = q.data.toList ++ 47 :: (shE (q.size + 1) (E x)).path.data.toList := by
  have hs := und_size (M := (E x).path) h
  obtain ⟨t, ht⟩ := h
  have e : pth E x = q.data.toList ++ 47 :: t := by rw [← ht]; simp
  have e2 : (shE (q.size + 1) (E x)).path.data.toList = t := by
    show ((E x).path.extract (q.size + 1) (E x).path.size).data.toList = t
    rw [ByteArray.data_extract, Array.toList_extract]
    show ((pth E x).drop _).take _ = t
    rw [e]
    have hq : q.data.toList.length = q.size := by simp
    have hl : (E x).path.size = q.size + 1 + t.length := by
      have := congrArg List.length e
      rw [List.length_append, List.length_cons, hq] at this
      unfold pth at this
      simp at this
      omega
    rw [hl, show q.data.toList ++ 47 :: t = (q.data.toList ++ [47]) ++ t by simp, List.drop_left' (by simp)]
    exact List.take_of_length_le (by omega)
  rw [e2]
  exact e
theorem un_at {k x : Nat} (h : (unL E q.data.toList n)[k]? = some x) : x < n ∧ Und (pth E x) q.data.toList := mem_un.1 (List.mem_of_getElem? h)
theorem selS_at {k x c : Nat} {U : List Nat} (h : U[k]? = some x) : selS E c U k = shE c (E x) := by
  unfold selS
  rw [List.getD_eq_getElem?_getD, h]
  rfl
theorem un_asc (E : Nat → En) (q : List UInt8) (n : Nat) : (unL E q n).Pairwise (· < ·) := List.Pairwise.sublist List.filter_sublist List.pairwise_lt_range

theorem below_tr (hT : Tr E n) : Tr (blF E n q.data.toList) (unL E q.data.toList n).length := by
  have hlen : q.data.toList.length = q.size := by simp
  have hF : blF E n q.data.toList = selS E (q.size + 1) (unL E q.data.toList n) := by unfold blF; rw [hlen]
  have key : ∀ k, k < (unL E q.data.toList n).length → ∃ x, (unL E q.data.toList n)[k]? = some x ∧ x < n ∧ pth E x = q.data.toList ++ 47 :: pth (blF E n q.data.toList) k ∧ (blF E n q.data.toList k) = shE (q.size + 1) (E x) := fun k hk => by
    have hx := List.getElem?_eq_getElem hk
    obtain ⟨h1, h2⟩ := un_at hx
    have h3 : blF E n q.data.toList k = shE (q.size + 1) (E (unL E q.data.toList n)[k]) := by rw [hF, selS_at hx]
    exact ⟨_, hx, h1, by rw [un_path h2]; unfold pth; rw [h3], h3⟩
  refine ⟨fun k hk => ?_, fun k hk => ?_, fun k hk hu => ?_⟩
  · obtain ⟨x, hx, hxn, hp, he⟩ := key k hk
    have h := hT.1 x hxn
    unfold eOk at h ⊢
    rw [Bool.and_eq_true] at h ⊢
    refine ⟨?_, by rw [he]; exact h.2⟩
    have h1 := h.1
    unfold pOk at h1 ⊢
    rw [show (E x).path.data.toList = _ from hp] at h1
    obtain ⟨c', _, h2⟩ := pk_tail _ _ _ _ h1
    exact pk_less _ _ _ _ (Nat.zero_le _) h2
  · obtain ⟨x, hx, hxn, hp, _⟩ := key k (by omega)
    obtain ⟨y, hy, hyn, hp', _⟩ := key (k + 1) hk
    have hxy : x < y := by
      obtain ⟨h1, e1⟩ := List.getElem?_eq_some_iff.1 hx
      obtain ⟨h2, e2⟩ := List.getElem?_eq_some_iff.1 hy
      have := List.pairwise_iff_getElem.1 (un_asc E q.data.toList n) k (k + 1) h1 h2 (by omega)
      rw [e1, e2] at this
      exact this
    have h := hT.asc x y hxy hyn
    rw [hp, hp'] at h
    have h2 := lt_cut h
    rw [List.cons_lt_cons_iff] at h2
    rcases h2 with h2 | h2
    · exact absurd h2 (by simp)
    · exact h2.2
  · obtain ⟨x, hx, hxn, hp, _⟩ := key k hk
    cases hl : lst (pth (blF E n q.data.toList) k) with
    | none => exact absurd (by unfold up; rw [hl]) hu
    | some r =>
      have hux : up (pth E x) = q.data.toList ++ 47 :: (pth (blF E n q.data.toList) k).take r := by rw [hp]; exact up_deep hl
      obtain ⟨y, hyx, hyp, hyk⟩ := hT.2.2 x hxn (by rw [hux]; intro h0; simp at h0)
      rw [hux] at hyp
      have hyU : y ∈ unL E q.data.toList n := mem_un.2 ⟨by omega, by rw [hyp]; exact ⟨_, by simp; rfl⟩⟩
      obtain ⟨i, hi, hiy⟩ := List.getElem_of_mem hyU
      obtain ⟨z, hz, hzn, hzp, hze⟩ := key i hi
      obtain rfl : z = y := by rw [List.getElem?_eq_getElem hi, hiy] at hz; exact (Option.some.inj hz).symm
      have hik : i < k := by
        rcases Nat.lt_trichotomy i k with h | h | h
        · exact h
        · subst h
          rw [hx] at hz
          have := Option.some.inj hz
          omega
        · obtain ⟨h1, e1⟩ := List.getElem?_eq_some_iff.1 hx
          have := List.pairwise_iff_getElem.1 (un_asc E q.data.toList n) k i h1 hi h
          rw [e1, hiy] at this
          omega
      refine ⟨i, hik, ?_, by rw [hze]; exact hyk⟩
      rw [hyp] at hzp
      have := (List.cons.inj (List.append_cancel_left hzp)).2
      rw [← this]
      unfold up
      rw [hl]
end
/-- Below's answer is a tree, whatever it is. -/
theorem below_tree (E : Nat → En) (n : Nat) (q : ByteArray) : treeB (blF E n q.data.toList) (blN E n q.data.toList) = true := by
  have key : ∀ {F : Nat → En} {m : Nat}, m ≤ 500 → Tr F m → treeB F m = true := fun h1 h2 => by unfold treeB; exact @decide_eq_true _ (Classical.propDecidable _) ⟨h1, h2⟩
  unfold blN
  split
  · next h =>
    obtain ⟨h5, hT⟩ := treeB_is h.1
    exact key (Nat.le_trans (unL_le _ _ _) h5) (below_tr hT)
  · exact key (by omega) (Tr.zero _)

end Go.Proofs.YtaoimkjcaienbaaGreatDoor.tt

namespace Go.Proofs.YtaoimkjcaienbaaGreatDoor.sr
open Go.ChangeShapes Go.WideShapes Go.ChangeAt Go.RowKit Go.Deep
set_option linter.unusedVariables false
set_option linter.unusedSimpArgs false

/-! ### Texts, ascending: the plain model; spec.l3Add -/

theorem own_none (w : World) (e : TypeId) : (w.alloc (.cells #[] e)).ownsRow w.heap.size e 1 (.slice (some ⟨w.heap.size, 0, none⟩) 0 0) 0 [] := World.ownsRow_made w #[] 0 (Nat.le_refl _) (by decide) rfl

/-- A text more in an ascending list. -/
def fadd : List (List UInt8) → List UInt8 → List (List UInt8)
  | [], s => [s]
  | x :: r, s => if Op.bytesLess x s = true then x :: fadd r s else if x = s then x :: r else s :: x :: r

theorem StrR.own {w : World} {base : Nat} {v : Value} {xs : List (List UInt8)} (h : w.ownsRow base 9 1 v xs.length (xs.map strL)) (hpos : 0 < xs.length) : StrR w v xs := StrR.own' h (by
  rintro rfl
  rcases h.2 with ⟨_, h2⟩ | ⟨g, cap, cur, h2, _⟩
  · omega
  · cases h2)

theorem fadd_len (s : List UInt8) : ∀ (xs : List (List UInt8)), xs.length ≤ (fadd xs s).length ∧ (fadd xs s).length ≤ xs.length + 1
  | [] => by simp [fadd]
  | x :: r => by
    have := fadd_len s r
    unfold fadd
    split
    · simp; omega
    · split <;> simp

/-- Where a text comes into the list. -/
theorem fadd_at {s : List UInt8} : ∀ {xs : List (List UInt8)} {k : Nat}, k ≤ xs.length → (∀ i, i < k → Op.bytesLess (xAt xs i) s = true) → (k = xs.length ∨ Op.bytesLess (xAt xs k) s = false) →
    fadd xs s = if k < xs.length ∧ xAt xs k = s then xs else xs.take k ++ [s] ++ xs.drop k
  | [], k, hk, _, _ => by
    obtain rfl : k = 0 := by simpa using hk
    simp [fadd]
  | x :: r, 0, hk, _, h => by
    have hx : Op.bytesLess x s = false := by
      rcases h with h | h
      · simp at h
      · simpa [xAt] using h
    unfold fadd
    rw [if_neg (by simp [hx])]
    simp [xAt]
  | x :: r, k + 1, hk, ha, h => by
    have hx : Op.bytesLess x s = true := by simpa [xAt] using ha 0 (by omega)
    have ih := fadd_at (s := s) (xs := r) (k := k) (by simp at hk; omega) (fun i hi => by simpa [xAt] using ha (i + 1) (by omega)) (by
      rcases h with h | h
      · left; simpa using h
      · right; simpa [xAt] using h)
    unfold fadd
    rw [if_pos hx, ih]
    have e : xAt (x :: r) (k + 1) = xAt r k := by simp [xAt]
    by_cases hh : k < r.length ∧ xAt r k = s
    · rw [if_pos hh, if_pos ⟨by simp; omega, by rw [e]; exact hh.2⟩]
    · rw [if_neg hh, if_neg (fun h2 => hh ⟨by have := h2.1; simp at this; omega, by rw [← e]; exact h2.2⟩)]
      simp

/-- One append of texts at a step of a region that draws its order. -/
theorem step_row {base : Nat} {W : World} {ops : Array Oper} {o : Oper} {a : Act} {K : Act → World → Prop} {Q : Exit → Act → World → Prop} {E : Prop} (hgd : o.guard = none) (s x : Operand)
    (ho : o.op = .call { callee := .builtin .append, args := #[s, x], argTypes := #[48, 48] }) (v : Value) (l : List (List UInt8)) (hs : a.eval s = v) (hown : W.ownsRow base 9 1 v l.length (l.map strL)) (hb : base ≤ W.heap.size) (ad : Addr) (m c : Nat) (news : List (List UInt8))
    (hx : a.eval x = .slice (some ad) m c) (hm : news.length = m) (hnews : ∀ j u, (news.map strL)[j]? = some u → W.cell? (ad.add j) = some u) (hlen : l.length + m ≤ 1000000) (h : ∀ v' w', w'.ownsRow base 9 1 v' (l ++ news).length ((l ++ news).map strL) → W.grownBy w' v.ownBlock → K (a.put o.dst v') w') :
    if Region.wanted o (yielded ops a.tmps) = true then Oper.wp Tryz.prog o a W K Q else E := by
  have hw : Region.wanted o (yielded ops a.tmps) = true := by simp [Region.wanted, hgd]
  rw [if_pos hw]
  obtain ⟨i0, hi, hz0, hz1, hz2⟩ := info_parts info9
  refine wp_append_own W s x 48 ho base 9 i0 _ 1 16 Tryz.underlying48 hi hz0 hz1 hz2 rfl (by omega) v l.length (l.map strL) hs hown ad m c (news.map strL) hx (by simpa using hm) hnews (strL_one _) (by unfold maxLen; omega) (by omega) hb ?_
  intro v' w' h1 h2 _
  exact h _ _ (by rw [List.length_append, List.map_append, hm]; exact h1) h2

/-- The cells of texts that are one block. -/
theorem one_atb (w : World) (s : ByteArray) : ∀ j u, ([s.data.toList].map strL)[j]? = some u → (w.alloc (.cells #[.string s] 9)).cell? ((⟨w.heap.size, 0, none⟩ : Addr).add j) = some u := by
  rw [List.map_singleton, strL_of]
  exact one_new w _ 9

theorem row_newsk {w : World} {bb off k n : Nat} {xs : List (List UInt8)} (hc : ∀ i x, xs[i]? = some x → w.cell? ⟨bb, off + i, none⟩ = some (strL x)) : ∀ j u, ((xs.take k).map strL)[j]? = some u → w.cell? ((⟨bb, off, none⟩ : Addr).add j) = some u := by
  intro j u h
  rw [List.getElem?_map, Option.map_eq_some_iff] at h
  obtain ⟨x, hx, rfl⟩ := h
  rw [List.getElem?_take] at hx
  split at hx
  · rw [addr_add]
    exact hc j x hx
  · cases hx

theorem row_drop {w : World} {bb off k cap : Nat} {xs : List (List UInt8)} (hc : ∀ i x, xs[i]? = some x → w.cell? ⟨bb, off + i, none⟩ = some (strL x)) (hk : k ≤ xs.length) (hcap : xs.length ≤ cap) {a1 : Addr} (ha : (if cap = k then some (⟨bb, off, none⟩ : Addr) else some ⟨bb, off + k, none⟩) = some a1) : ∀ j u, ((xs.drop k).map strL)[j]? = some u → w.cell? (a1.add j) = some u := by
  intro j u h
  rw [List.getElem?_map, Option.map_eq_some_iff] at h
  obtain ⟨x, hx, rfl⟩ := h
  rw [List.getElem?_drop] at hx
  have hlt := (List.getElem?_eq_some_iff.1 hx).1
  rw [if_neg (by omega)] at ha
  obtain rfl := Option.some.inj ha
  rw [addr_add, Nat.add_assoc]
  exact hc _ x hx



def asc (l : List (List UInt8)) : Prop := l.Pairwise (fun a b => a < b)

theorem bl (x y : List UInt8) : Op.bytesLess x y = true ↔ x < y := by rw [Go.Proofs.bytesLess_eq]; simp

theorem fadd_mem (s : List UInt8) : ∀ (l : List (List UInt8)) (x : List UInt8), x ∈ fadd l s ↔ x ∈ l ∨ x = s
  | [], x => by simp [fadd]
  | y :: r, x => by
    have ih := fadd_mem s r x
    unfold fadd
    split
    · simp [ih, or_assoc]
    · split
      · next h =>
        subst h
        constructor
        · exact fun h => .inl h
        · rintro (h | rfl)
          · exact h
          · simp
      · rw [List.mem_cons, Or.comm]

theorem fadd_asc (s : List UInt8) : ∀ (l : List (List UInt8)), asc l → asc (fadd l s)
  | [], _ => by simp [fadd, asc]
  | y :: r, h => by
    have h' := List.pairwise_cons.1 h
    unfold fadd
    split
    · next hl =>
      refine List.pairwise_cons.2 ⟨fun x hx => ?_, fadd_asc s r h'.2⟩
      rcases (fadd_mem s r x).1 hx with hx | rfl
      · exact h'.1 x hx
      · exact (bl _ _).1 hl
    · next hl =>
      split
      · exact h
      · next hne =>
        have hlt : s < y := by
          have h1 : ¬ y < s := fun hh => hl ((bl _ _).2 hh)
          rcases List.le_iff_lt_or_eq.1 (List.not_lt.1 h1) with h2 | h2
          · exact h2
          · exact absurd h2.symm hne
        refine List.pairwise_cons.2 ⟨fun x hx => ?_, h⟩
        rcases List.mem_cons.1 hx with rfl | hx
        · exact hlt
        · exact List.lt_trans hlt (h'.1 x hx)

theorem fold_mem : ∀ (l o : List (List UInt8)) (x : List UInt8), x ∈ l.foldl fadd o ↔ x ∈ o ∨ x ∈ l
  | [], o, x => by simp
  | y :: l, o, x => by
    have := fold_mem l (fadd o y) x
    rw [List.foldl_cons, this, fadd_mem]
    simp [or_assoc]
theorem fold_asc : ∀ (l o : List (List UInt8)), asc o → asc (l.foldl fadd o)
  | [], o, h => h
  | y :: l, o, h => fold_asc l _ (fadd_asc y o h)

theorem asc_nodup {l : List (List UInt8)} (h : asc l) : l.Nodup := h.imp fun hab e => by subst e; exact List.lt_irrefl _ hab

/-- The keys that are told, sorted, are the names found. -/

theorem asc_ext : ∀ {a b : List (List UInt8)}, asc a → asc b → (∀ x, x ∈ a ↔ x ∈ b) → a = b
  | [], [], _, _, _ => rfl
  | [], y :: b, _, _, h => by have := (h y).2 (by simp); simp at this
  | x :: a, [], _, _, h => by have := (h x).1 (by simp); simp at this
  | x :: a, y :: b, ha, hb, h => by
    have ha' := List.pairwise_cons.1 ha
    have hb' := List.pairwise_cons.1 hb
    have e : x = y := by
      rcases List.mem_cons.1 ((h x).1 (by simp)) with h1 | h1
      · exact h1
      · rcases List.mem_cons.1 ((h y).2 (by simp)) with h2 | h2
        · exact h2.symm
        · exact absurd (List.lt_trans (hb'.1 x h1) (ha'.1 y h2)) (List.lt_irrefl _)
    subst e
    rw [asc_ext ha'.2 hb'.2 (fun z => by
      constructor
      · intro hz
        rcases List.mem_cons.1 ((h z).1 (by simp [hz])) with h1 | h1
        · subst h1; exact absurd (ha'.1 z hz) (List.lt_irrefl _)
        · exact h1
      · intro hz
        rcases List.mem_cons.1 ((h z).2 (by simp [hz])) with h1 | h1
        · subst h1; exact absurd (hb'.1 z hz) (List.lt_irrefl _)
        · exact h1)]

theorem at_toArray (l : List (List UInt8)) (j : Nat) (h : j < l.length) : l.toArray[j]! = l[j] := by
  rw [getElem!_pos _ j (by simpa using h)]; simp

theorem compact_mem (l : List (List UInt8)) (x : List UInt8) : x ∈ Lib.compact l ↔ x ∈ l := by
  unfold Lib.compact Lib.compactUpTo
  simp only [List.mem_map, List.mem_filter, List.mem_range]
  constructor
  · rintro ⟨j, ⟨hj, _⟩, rfl⟩
    rw [at_toArray l j hj]; exact List.getElem_mem hj
  · intro hx
    obtain ⟨j, hj, rfl⟩ := List.getElem_of_mem hx
    induction j using Nat.strongRecOn with
    | ind j ih =>
      by_cases hk : Lib.keeps l.toArray j = true
      · exact ⟨j, ⟨hj, hk⟩, at_toArray l j hj⟩
      · have hk' : ¬ (j = 0) ∧ l[j] = l[j - 1]'(by omega) := by
          have hk2 : ¬ (j = 0 ∨ l.toArray[j]! ≠ l.toArray[j - 1]!) := by simpa [Lib.keeps] using hk
          have h0 : ¬ j = 0 := fun h => hk2 (.inl h)
          refine ⟨h0, ?_⟩
          have h1 : l.toArray[j]! = l.toArray[j - 1]! := Classical.byContradiction fun h => hk2 (.inr h)
          rwa [at_toArray l j hj, at_toArray l (j - 1) (by omega)] at h1
        have := ih (j - 1) (by omega) (by omega)
        rw [hk'.2]
        exact this (List.getElem_mem _)

theorem compact_asc {l : List (List UInt8)} (h : l.Pairwise (fun a b => a ≤ b)) : asc (Lib.compact l) := by
  unfold Lib.compact Lib.compactUpTo asc
  rw [List.pairwise_map]
  have hp : ((List.range l.length).filter (Lib.keeps l.toArray)).Pairwise (fun i j => i < j ∧ j < l.length ∧ Lib.keeps l.toArray j = true) := by
    rw [List.pairwise_iff_forall_sublist]
    intro i j hs
    have h1 : [i, j].Sublist (List.range l.length) := hs.trans List.filter_sublist
    have h2 := (List.pairwise_iff_forall_sublist.1 List.pairwise_lt_range) h1
    have h3 : j ∈ (List.range l.length).filter (Lib.keeps l.toArray) := hs.subset (by simp)
    rw [List.mem_filter, List.mem_range] at h3
    exact ⟨h2, h3.1, h3.2⟩
  refine hp.imp ?_
  rintro i j ⟨hij, hj, hk⟩
  rw [at_toArray l i (by omega), at_toArray l j hj]
  have hk2 : j = 0 ∨ l.toArray[j]! ≠ l.toArray[j - 1]! := by simpa [Lib.keeps] using hk
  have hne : l[j] ≠ l[j - 1]'(by omega) := by
    rcases hk2 with h | h
    · omega
    · rwa [at_toArray l j hj, at_toArray l (j - 1) (by omega)] at h
  have hs1 : l[j - 1]'(by omega) ≤ l[j] := (List.pairwise_iff_getElem.1 h) (j - 1) j (by omega) hj (by omega)
  have hs0 : l[i]'(by omega) ≤ l[j - 1]'(by omega) := by
    rcases Nat.lt_or_ge i (j - 1) with h' | h'
    · exact (List.pairwise_iff_getElem.1 h) i (j - 1) (by omega) (by omega) h'
    · have : i = j - 1 := by omega
      subst this; exact List.le_refl _
  have hlt : l[j - 1]'(by omega) < l[j] := by
    rcases Classical.em (l[j - 1]'(by omega) < l[j]) with h' | h'
    · exact h'
    · exact absurd (List.le_antisymm (List.not_lt.1 h') hs1) hne
  exact Classical.byContradiction fun hn => hne (List.le_antisymm (List.le_trans (List.not_lt.1 hn) hs0) hs1)

theorem sorted_compact (ss : List (List UInt8)) : Lib.compact (ss.mergeSort fun x y => decide (x ≤ y)) = ss.foldl fadd [] := by
  have hs : (ss.mergeSort fun x y => decide (x ≤ y)).Pairwise (fun a b => a ≤ b) := by
    have := List.pairwise_mergeSort (le := fun x y : List UInt8 => decide (x ≤ y)) (fun a b c h1 h2 => by simp only [decide_eq_true_eq] at *; exact List.le_trans h1 h2) (fun a b => by simp only [Bool.or_eq_true, decide_eq_true_eq]; exact List.le_total a b) ss
    exact this.imp (fun h => by simpa using h)
  refine asc_ext (compact_asc hs) (fold_asc ss [] List.Pairwise.nil) (fun x => ?_)
  rw [compact_mem, List.mem_mergeSort, fold_mem]
  simp


end Go.Proofs.YtaoimkjcaienbaaGreatDoor.sr

namespace Go.Proofs.YtaoimkjcaienbaaGreatDoor.sr
open Go.ChangeShapes Go.WideShapes Go.ChangeAt Go.RowKit Go.Deep
set_option linter.unusedVariables false
set_option linter.unusedSimpArgs false

theorem made_row (w : World) (cap : Nat) (hc : cap ≤ 1000000) : (w.alloc (.cells (madeCells (Value.string ⟨#[]⟩).cells cap) 9)).ownsRow w.heap.size 9 1 (.slice (some ⟨w.heap.size, 0, none⟩) 0 cap) ([] : List (List UInt8)).length (([] : List (List UInt8)).map strL) :=
  World.ownsRow_made w _ cap (Nat.le_refl _) (by unfold maxLen; omega) (by rw [size_madeCells]; simp)

theorem make_run (n : Nat) (hn : n ≤ 1000000) (w : World) : (Instr.makeSlice 48 (.int .i64 0) (.int .i64 (n : Int))).run Tryz.prog w = .ok (.slice (some ⟨w.heap.size, 0, none⟩) 0 n) (w.alloc (.cells (madeCells (Value.string ⟨#[]⟩).cells n) 9)) := by
  obtain ⟨i, hi, hz, hs, hb⟩ := info_parts info9
  have hr := run_make (P := Tryz.prog) w 48 9 i _ Tryz.underlying48 hi hz .i64 .i64 0 n (by omega) (by omega) (by rw [hb]; omega) (by omega)
  simp only [Int.toNat_natCast, Int.toNat_zero, hs, Nat.mul_one] at hr
  exact hr

def slLen : Value → Nat | .slice _ n _ => n | _ => 0

theorem one_str (w : World) {l : List UInt8} {u : ByteArray} (h : strL l = .string u) : ∀ j v, ([l].map strL)[j]? = some v → (w.alloc (.cells #[.string u] 9)).cell? ((⟨w.heap.size, 0, none⟩ : Addr).add j) = some v := by
  rw [List.map_singleton, h]
  exact one_new w _ 9

theorem drop_at {R : List (List UInt8)} {i : Nat} (h : i < R.length) : R.drop i = xAt R i :: R.drop (i + 1) := by
  rw [List.drop_eq_getElem_cons h]
  congr 1
  simp [xAt, h]

theorem mrg_zero {R : List (List UInt8)} {i : Nat} (h : i < R.length) : mrg (([] : List (List UInt8)).length + (R.length - i)) [] (R.drop i) = xAt R i :: mrg (([] : List (List UInt8)).length + (R.length - (i + 1))) [] (R.drop (i + 1)) := by
  rw [drop_at h, show ([] : List (List UInt8)).length + (R.length - i) = (([] : List (List UInt8)).length + (R.length - (i + 1))) + 1 by simp; omega, mrg]

theorem mrg_less {R l : List (List UInt8)} {y : List UInt8} {i : Nat} (h : i < R.length) (hb : Op.bytesLess (xAt R i) y = true) : mrg ((y :: l).length + (R.length - i)) (y :: l) (R.drop i) = xAt R i :: mrg ((y :: l).length + (R.length - (i + 1))) (y :: l) (R.drop (i + 1)) := by
  rw [drop_at h, show (y :: l).length + (R.length - i) = ((y :: l).length + (R.length - (i + 1))) + 1 by simp; omega, mrg, if_pos hb]

theorem mrg_not {R l : List (List UInt8)} {y : List UInt8} {i : Nat} (h : i < R.length) (hb : Op.bytesLess (xAt R i) y = false) : mrg ((y :: l).length + (R.length - i)) (y :: l) (R.drop i) = y :: mrg (l.length + (R.length - i)) l (R.drop i) := by
  rw [drop_at h, show (y :: l).length + (R.length - i) = (l.length + (R.length - i)) + 1 by simp; omega, mrg, if_neg (by simp [hb])]

abbrev FV : Value := .func (.func 138) #[] #[]

set_option maxRecDepth 100000 in
set_option maxHeartbeats 1000000 in
theorem merged_any (L R : List (List UInt8)) (vl vr : Value) (w : World) (hL : StrR w vl L) (hR : StrR w vr R) (hn : L.length + R.length ≤ 4000) :
    Calls Tryz.prog 166 #[vl, vr, FV] w fun e w' => ∃ v', e = .returned v' ∧ OwnS w.heap.size w' v' (mrg (L.length + R.length) L R) ∧ Below w.heap.size w w' := by
  obtain ⟨bl, ol0, cl0, rfl, l1, l2, hlc⟩ := hL
  obtain ⟨br, orr, cr, rfl, r1, r2, hrc⟩ := hR
  unfold maxLen at l2 r2
  have HRC : Hid (∀ i, i < R.length → w.cell? ⟨br, orr + i, none⟩ = some (strL (xAt R i))) := fun i h => hrc i _ (xAt_some h)
  have HLC : Hid (∀ i x, L[i]? = some x → w.cell? ⟨bl, ol0 + i, none⟩ = some (strL x)) := hlc
  have hmk : ∀ w : World, (Instr.makeSlice 48 (.int .i64 0) (.int .i64 ((L.length : Int) + (R.length : Int)))).run Tryz.prog w = .ok (.slice (some ⟨w.heap.size, 0, none⟩) 0 (L.length + R.length)) (w.alloc (.cells (madeCells (Value.string ⟨#[]⟩).cells (L.length + R.length)) 9)) := fun w => by
    have := make_run (L.length + R.length) (by omega) w
    rwa [Int.natCast_add] at this
  have HMR : Hid ((w.alloc (.cells (madeCells (Value.string ⟨#[]⟩).cells (L.length + R.length)) 9)).ownsRow w.heap.size 9 1 (.slice (some ⟨w.heap.size, 0, none⟩) 0 (L.length + R.length)) ([] : List (List UInt8)).length (([] : List (List UInt8)).map strL)) := made_row w (L.length + R.length) (by omega)
  obtain ⟨T, hT⟩ : ∃ T, mrg (L.length + R.length) L R = T := ⟨_, rfl⟩
  rw [hT]
  have HT : Hid (mrg (L.length + R.length) L R = T) := hT
  have hTl : T.length = L.length + R.length := by rw [← hT, mrg_len]
  clear hlc hrc hT
  go_enter Tryz.func166, Tryz.ntmps166
  go_wp2
  clear hmk
  go_loopw [0, 7, 18] (fun l a x wr => ∃ (i : Nat) (Lr acc : List (List UInt8)) (ol cl : Nat), i ≤ R.length ∧ x = .int .i64 (i : Int) ∧ l = .slice (some ⟨bl, ol, none⟩) Lr.length cl ∧ Lr.length ≤ cl ∧ cl ≤ 9223372036854775807 ∧ (∀ j y, Lr[j]? = some y → w.cell? ⟨bl, ol + j, none⟩ = some (strL y)) ∧ wr.ownsRow w.heap.size 9 1 a acc.length (acc.map strL) ∧ a ≠ .slice none 0 0 ∧ T = acc ++ mrg (Lr.length + (R.length - i)) Lr (R.drop i) ∧ Below w.heap.size w wr) (fun _ _ x _ => R.length - (intOf x).toNat)
  case atStart => exact ⟨0, L, [], ol0, cl0, Nat.zero_le _, rfl, rfl, l1, by omega, HLC.out, HMR.out, not_nil _ _ _, by rw [← HT.out]; rfl, (Below.refl _ _).alloc (Nat.le_refl _) _⟩
  case round =>
    obtain ⟨i, Lr, acc, ol, cl, hi, rfl, rfl, hl1, hl2, hcel, hown, hva, hTT, hbel⟩ := hrel
    have HOWN0 : Hid (wr.ownsRow w.heap.size 9 1 u7 acc.length (acc.map strL)) := hown
    have HVA0 : Hid (u7 ≠ .slice none 0 0) := hva
    have HTT0 : Hid (T = acc ++ mrg (Lr.length + (R.length - i)) Lr (R.drop i)) := hTT
    have HCEL0 : Hid (∀ j y, Lr[j]? = some y → w.cell? ⟨bl, ol + j, none⟩ = some (strL y)) := hcel
    have HBQ0 : Hid (Below w.heap.size w wr) := hbel
    clear hown hva hTT hcel
    by_cases h : i < R.length
    · have h' : (i : Int) < (R.length : Int) := by omega
      have cx : wr.cell? ⟨br, orr + i, none⟩ = some (strL (xAt R i)) := (hbel.cell (p := ⟨br, _, none⟩) (World.block_lt_of_cell? _ _ (HRC.out i h))).trans (HRC.out i h)
      obtain ⟨u, hu⟩ : ∃ u : ByteArray, strL (xAt R i) = .string u := ⟨_, rfl⟩
      rw [hu] at cx
      have HUX : Hid (strL (xAt R i) = .string u) := hu
      have HUL : Hid (u.toList = xAt R i) := by
        show _ = _
        unfold strL at hu
        injection hu with hu
        rw [← hu, toL]
      clear hu
      go_wp2
      go_loopw [0, 7] (fun l a wq => ∃ (Lr acc : List (List UInt8)) (ol cl : Nat), l = .slice (some ⟨bl, ol, none⟩) Lr.length cl ∧ Lr.length ≤ cl ∧ cl ≤ 9223372036854775807 ∧ (∀ j y, Lr[j]? = some y → w.cell? ⟨bl, ol + j, none⟩ = some (strL y)) ∧ wq.ownsRow w.heap.size 9 1 a acc.length (acc.map strL) ∧ a ≠ .slice none 0 0 ∧ T = acc ++ mrg (Lr.length + (R.length - i)) Lr (R.drop i) ∧ Below w.heap.size w wq) (fun l _ _ => slLen l)
      case atStart => exact ⟨Lr, acc, ol, cl, rfl, hl1, hl2, HCEL0.out, HOWN0.out, HVA0.out, HTT0.out, HBQ0.out⟩
      case round =>
        clear HOWN0 HVA0 HTT0 HCEL0 HBQ0 hbel cx hl1 hl2
        obtain ⟨Lr, acc, ol, cl, rfl, hl1, hl2, hcel, hown, hva, hTT, hbel⟩ := hrel
        have HOWN : Hid (wr.ownsRow w.heap.size 9 1 u7 acc.length (acc.map strL)) := hown
        have HVA : Hid (u7 ≠ .slice none 0 0) := hva
        have HBQ : Hid (Below w.heap.size w wr) := hbel
        have hacc : acc.length ≤ 4000 := by
          have := congrArg List.length hTT
          rw [List.length_append, mrg_len] at this
          omega
        have HLEN : Hid (Lr.length ≤ cl ∧ cl ≤ 9223372036854775807) := ⟨hl1, hl2⟩
        have HCEL : Hid (∀ j y, Lr[j]? = some y → w.cell? ⟨bl, ol + j, none⟩ = some (strL y)) := hcel
        clear hown hva
        cases Lr with
        | nil =>
          have HTT : Hid (T = acc ++ [xAt R i] ++ mrg (([] : List (List UInt8)).length + (R.length - (i + 1))) [] (R.drop (i + 1))) := by show _ = _; rw [hTT, mrg_zero h]; simp
          clear hTT hcel
          go_wp2_with (first
            | (at_builtin; refine app_str _ rfl _ _ rfl w.heap.size _ acc rfl (HOWN.out.alloc _) HVA.out ⟨_, 0, none⟩ 1 1 [xAt R i] rfl rfl (one_str _ HUX.out) (by omega) (by have := HBQ.out.size; simp; omega) ?_; intro v' w' hown' hv' hg'; have hb' := below_grown (HBQ.out.alloc HBQ.out.size _) (HOWN.out.alloc _) hg' (by have := HBQ.out.size; simp; omega); clear hg')
            | go_in)
          go_roundw
          case rel => exact ⟨i + 1, [], acc ++ [xAt R i], ol, cl, by omega, by go_num, rfl, HLEN.out.1, HLEN.out.2, HCEL.out, hown', hv', HTT.out, hb'⟩
          case measure => simp [intOf]; omega
        | cons y l =>
          have cy : wr.cell? ⟨bl, ol, none⟩ = some (strL y) := by
            have c := hcel 0 y rfl
            exact (hbel.cell (p := ⟨bl, _, none⟩) (World.block_lt_of_cell? _ _ c)).trans c
          obtain ⟨z, hz⟩ : ∃ z : ByteArray, strL y = .string z := ⟨_, rfl⟩
          rw [hz] at cy
          have HZ : Hid (strL y = .string z) := hz
          have hzl : z.toList = y := by
            unfold strL at hz
            injection hz with hz
            rw [← hz, toL]
          have hpos : (0 : Int) < ((y :: l).length : Int) := by rw [List.length_cons]; omega
          have HLS := less_any u z wr
          rw [HUL.out, hzl] at HLS
          cases hb : Op.bytesLess (xAt R i) y with
          | true =>
            rw [hb] at HLS
            have HLS' : Hid (Calls Tryz.prog 138 #[.string u, .string z] wr fun e w' => e = .returned (.bool true) ∧ w' = wr) := HLS
            have HTT : Hid (T = acc ++ [xAt R i] ++ mrg ((y :: l).length + (R.length - (i + 1))) (y :: l) (R.drop (i + 1))) := by show _ = _; rw [hTT, mrg_less h hb]; simp
            obtain ⟨LL, hLL⟩ : ∃ LL, y :: l = LL := ⟨_, rfl⟩
            rw [hLL] at HTT HLEN HCEL hpos ⊢
            clear hTT hcel HLS hz hzl hb hLL
            go_wp2_with (first
              | (go_at_call 138; refine HLS'.out.mono ?_; rintro e w' ⟨rfl, rfl⟩)
              | (at_builtin; refine app_str _ rfl _ _ rfl w.heap.size _ acc rfl (HOWN.out.alloc _) HVA.out ⟨_, 0, none⟩ 1 1 [xAt R i] rfl rfl (one_str _ HUX.out) (by omega) (by have := HBQ.out.size; simp; omega) ?_; intro v' w' hown' hv' hg'; have hb' := below_grown (HBQ.out.alloc HBQ.out.size _) (HOWN.out.alloc _) hg' (by have := HBQ.out.size; simp; omega); clear hg')
              | go_in)
            go_roundw
            case rel => exact ⟨i + 1, LL, acc ++ [xAt R i], ol, cl, by omega, by go_num, rfl, HLEN.out.1, HLEN.out.2, HCEL.out, hown', hv', HTT.out, hb'⟩
            case measure => simp [intOf]; omega
          | false =>
            rw [hb] at HLS
            have HLS' : Hid (Calls Tryz.prog 138 #[.string u, .string z] wr fun e w' => e = .returned (.bool false) ∧ w' = wr) := HLS
            have HTT : Hid (T = acc ++ [y] ++ mrg (l.length + (R.length - i)) l (R.drop i)) := by show _ = _; rw [hTT, mrg_not h hb]; simp
            obtain ⟨o1, ho1⟩ : ∃ o1, (if cl = 1 then some (⟨bl, ol, none⟩ : Addr) else some ⟨bl, ol + 1, none⟩) = some ⟨bl, o1, none⟩ := by split <;> exact ⟨_, rfl⟩
            have HC1 : Hid (∀ j x, l[j]? = some x → w.cell? ⟨bl, o1 + j, none⟩ = some (strL x)) := fun j x hx => by
              have hlt := (List.getElem?_eq_some_iff.1 hx).1
              have hne : ¬ cl = 1 := by simp at hl1; omega
              rw [if_neg hne] at ho1
              have e : ol + 1 = o1 := by simpa using ho1
              have := hcel (j + 1) x (by simpa using hx)
              rw [← e, Nat.add_assoc, Nat.add_comm 1 j]
              exact this
            have hl1' : l.length + 1 ≤ cl := by simpa using hl1
            have hone : (1 : Int) ≤ (l.length : Int) + 1 := by omega
            have hlen1 : (y :: l).length = l.length + 1 := rfl
            rw [hlen1] at hpos ⊢
            clear hTT hcel HLS hz hzl hb HCEL HLEN
            go_wp2_with (first
              | (go_at_call 138; refine HLS'.out.mono ?_; rintro e w' ⟨rfl, rfl⟩)
              | (at_builtin; refine app_str _ rfl _ _ rfl w.heap.size _ acc rfl (HOWN.out.alloc _) HVA.out ⟨_, 0, none⟩ 1 1 [y] rfl rfl (one_str _ HZ.out) (by omega) (by have := HBQ.out.size; simp; omega) ?_; intro v' w' hown' hv' hg'; have hb' := below_grown (HBQ.out.alloc HBQ.out.size _) (HOWN.out.alloc _) hg' (by have := HBQ.out.size; simp; omega); clear hg')
              | go_in)
            go_roundw
            case rel => exact ⟨l, acc ++ [y], o1, cl - 1, by rfl, by omega, by omega, HC1.out, hown', hv', HTT.out, hb'⟩
            case measure => simp [slLen]
    · have h' : ¬ (i : Int) < (R.length : Int) := by omega
      obtain rfl : i = R.length := by omega
      have HTT : Hid (T = acc ++ Lr) := by show _ = _; rw [HTT0.out, List.drop_length, mrg_end]
      have HCR : Hid (∀ j u, (Lr.map strL)[j]? = some u → wr.cell? ((⟨bl, ol, none⟩ : Addr).add j) = some u) := row_news fun j x hx => (hbel.cell (p := ⟨bl, _, none⟩) (World.block_lt_of_cell? _ _ (HCEL0.out j x hx))).trans (HCEL0.out j x hx)
      have hsum : acc.length + Lr.length ≤ 4000 := by
        have := congrArg List.length HTT.out
        rw [List.length_append] at this
        omega
      go_wp2_with (first
        | (at_builtin; refine app_str _ rfl _ _ rfl w.heap.size _ acc rfl HOWN0.out HVA0.out ⟨bl, ol, none⟩ Lr.length cl Lr rfl rfl HCR.out (by omega) HBQ0.out.size ?_; intro v' w' hown' hv' hg'; have hb' := below_grown HBQ0.out HOWN0.out hg' HBQ0.out.size; clear hg')
        | go_in)
      go_ret
      exact ⟨_, rfl, by rw [HTT.out]; exact ⟨hown', hv'⟩, hb'⟩

end Go.Proofs.YtaoimkjcaienbaaGreatDoor.sr

namespace Go.Proofs.YtaoimkjcaienbaaGreatDoor.sr
open Go.ChangeShapes Go.WideShapes Go.ChangeAt Go.RowKit Go.Deep
set_option linter.unusedVariables false
set_option linter.unusedSimpArgs false

/-- What the program's sort does, by depth. -/
def SoC (f : Nat) : Prop := ∀ (xs : List (List UInt8)) (v : Value) (w : World), StrR w v xs → xs.length ≤ 2 ^ f → xs.length ≤ 4000 →
  Calls Tryz.prog 137 #[v, FV] w fun e w' => ∃ v', e = .returned v' ∧ OwnS w.heap.size w' v' (srt f xs) ∧ Below w.heap.size w w'

theorem srt_small {f : Nat} {xs : List (List UInt8)} (h : xs.length < 2) : srt f xs = xs := by
  cases f with
  | zero => rfl
  | succ f => rw [srt, if_pos h]

theorem StrR.take {w : World} {bb off cap k : Nat} {xs : List (List UInt8)} (h1 : xs.length ≤ cap) (h2 : cap ≤ maxLen) (hc : ∀ i x, xs[i]? = some x → w.cell? ⟨bb, off + i, none⟩ = some (strL x)) (hk : k ≤ xs.length) : StrR w (.slice (some ⟨bb, off, none⟩) k cap) (xs.take k) := by
  refine ⟨bb, off, cap, by rw [List.length_take, Nat.min_eq_left hk], by rw [List.length_take]; omega, h2, fun i x hx => ?_⟩
  rw [List.getElem?_take] at hx
  split at hx
  · exact hc i x hx
  · cases hx

theorem StrR.drop {w : World} {bb off o1 cap k : Nat} {xs : List (List UInt8)} (h1 : xs.length ≤ cap) (h2 : cap ≤ maxLen) (hc : ∀ i x, xs[i]? = some x → w.cell? ⟨bb, off + i, none⟩ = some (strL x)) (hk : k ≤ xs.length) (ho : (if cap = k then some (⟨bb, off, none⟩ : Addr) else some ⟨bb, off + k, none⟩) = some ⟨bb, o1, none⟩) : StrR w (.slice (some ⟨bb, o1, none⟩) (xs.length - k) (cap - k)) (xs.drop k) := by
  refine ⟨bb, o1, cap - k, by rw [List.length_drop], by rw [List.length_drop]; omega, by omega, fun i x hx => ?_⟩
  rw [List.getElem?_drop] at hx
  have hlt := (List.getElem?_eq_some_iff.1 hx).1
  rw [if_neg (by omega)] at ho
  have e : off + k = o1 := by simpa using ho
  rw [← e, Nat.add_assoc]
  exact hc _ x hx

set_option maxRecDepth 100000 in
set_option maxHeartbeats 1000000 in
theorem sorted_small {f : Nat} (xs : List (List UInt8)) (v : Value) (w : World) (hR : StrR w v xs) (h : xs.length < 2) :
    Calls Tryz.prog 137 #[v, FV] w fun e w' => ∃ v', e = .returned v' ∧ OwnS w.heap.size w' v' (srt f xs) ∧ Below w.heap.size w w' := by
  rw [srt_small h]
  have HCL : Hid (Calls Tryz.prog 134 #[v] w fun e w' => ∃ v', e = .returned v' ∧ OwnS w.heap.size w' v' xs ∧ Below w.heap.size w w') := clone_any xs v w hR (by omega)
  obtain ⟨bb, off, cap, rfl, h1, h2, hc⟩ := hR
  have h' : (xs.length : Int) < 2 := by omega
  clear hc
  go_enter Tryz.func137, Tryz.ntmps137
  go_wp2_with (go_at_call 134; refine HCL.out.mono ?_; rintro e w1 ⟨v1, rfl, hs1, hb1⟩)
  go_ret
  exact ⟨_, rfl, hs1, hb1⟩

set_option maxRecDepth 100000 in
set_option maxHeartbeats 1000000 in
theorem sorted_all : ∀ f, SoC f := by
  intro f
  induction f with
  | zero => intro xs v w hR h _; exact sorted_small xs v w hR (by simp at h; omega)
  | succ f ih =>
    intro xs v w hR hp hn
    by_cases h : xs.length < 2
    · exact sorted_small xs v w hR h
    have hsr : srt (f + 1) xs = mrg xs.length (srt f (xs.take (xs.length / 2))) (srt f (xs.drop (xs.length / 2))) := by rw [srt, if_neg h]
    obtain ⟨bb, off, cap, rfl, h1, h2, hc⟩ := hR
    obtain ⟨k, hk⟩ : ∃ k, xs.length / 2 = k := ⟨_, rfl⟩
    rw [hk] at hsr
    have hkl : k ≤ xs.length := by omega
    have hpw : 2 ^ (f + 1) = 2 ^ f + 2 ^ f := by rw [Nat.pow_succ]; omega
    obtain ⟨o1, ho1⟩ : ∃ o1, (if cap = k then some (⟨bb, off, none⟩ : Addr) else some ⟨bb, off + k, none⟩) = some ⟨bb, o1, none⟩ := by split <;> exact ⟨_, rfl⟩
    have HA : Hid (StrR w.drew (.slice (some ⟨bb, off, none⟩) k cap) (xs.take k)) := StrR.take h1 h2 hc hkl
    have HB : Hid (StrR w.drew (.slice (some ⟨bb, o1, none⟩) (xs.length - k) (cap - k)) (xs.drop k)) := StrR.drop h1 h2 hc hkl ho1
    have HI1 : Hid (∀ w1 : World, StrR w1 (.slice (some ⟨bb, off, none⟩) k cap) (xs.take k) → Calls Tryz.prog 137 #[.slice (some ⟨bb, off, none⟩) k cap, FV] w1 fun e w' => ∃ v', e = .returned v' ∧ OwnS w1.heap.size w' v' (srt f (xs.take k)) ∧ Below w1.heap.size w1 w') := fun w1 hr => ih _ _ w1 hr (by rw [List.length_take]; omega) (by rw [List.length_take]; omega)
    have HI2 : Hid (∀ w1 : World, StrR w1 (.slice (some ⟨bb, o1, none⟩) (xs.length - k) (cap - k)) (xs.drop k) → Calls Tryz.prog 137 #[.slice (some ⟨bb, o1, none⟩) (xs.length - k) (cap - k), FV] w1 fun e w' => ∃ v', e = .returned v' ∧ OwnS w1.heap.size w' v' (srt f (xs.drop k)) ∧ Below w1.heap.size w1 w') := fun w1 hr => ih _ _ w1 hr (by rw [List.length_drop]; omega) (by rw [List.length_drop]; omega)
    have HMG : Hid (∀ (w1 : World) (v1 v2 : Value), StrR w1 v1 (srt f (xs.take k)) → StrR w1 v2 (srt f (xs.drop k)) → Calls Tryz.prog 166 #[v1, v2, FV] w1 fun e w' => ∃ v', e = .returned v' ∧ OwnS w1.heap.size w' v' (srt (f + 1) xs) ∧ Below w1.heap.size w1 w') := fun w1 v1 v2 s1 s2 => by
      have := merged_any _ _ v1 v2 w1 s1 s2 (by rw [srt_len, srt_len, List.length_take, List.length_drop]; omega)
      rw [srt_len, srt_len, List.length_take, List.length_drop, show min k xs.length + (xs.length - k) = xs.length by omega, ← hsr] at this
      exact this
    have h' : ¬ (xs.length : Int) < 2 := by omega
    have hdv : ((xs.length : Int) / 2) = (k : Int) := by omega
    have hdt : (Int.tdiv (xs.length : Int) 2) = (k : Int) := by rw [Int.tdiv_eq_ediv_of_nonneg (by omega)]; exact hdv
    have k1 : (k : Int) ≤ (cap : Int) := by omega
    have k2 : (k : Int) ≤ (xs.length : Int) := by omega
    have k0 : (0 : Int) ≤ (k : Int) := by omega
    have HF : Hid True := trivial
    clear ih hc hsr hp hpw hk
    go_enter Tryz.func137, Tryz.ntmps137
    go_wp2_with fail
    go_region_held3 (fun _ => True)
      (trivial)
      (first
        | ((go_at_call 137; have := HF.out; refine (HI1.out _ HA.out).mono ?_; rintro e w1 ⟨v1, rfl, hs1, hb1⟩; have HB1 := HB.out.below hb1; clear HF))
        | ((go_at_call 137; refine (HI2.out _ HB1).mono ?_; rintro e w2 ⟨v2, rfl, hs2, hb2⟩))
        | ((go_at_call 166; refine (HMG.out _ _ _ (hs1.row.below hb2) hs2.row).mono ?_; rintro e w3 ⟨v3, rfl, hs3, hb3⟩)))
    go_wp2_with fail
    go_ret
    have hb01 : Below w.heap.size w w1 := (show Below w.heap.size w w.drew from (Below.refl _ _).drew).trans hb1
    have hb02 := hb01.trans (hb2.mono hb01.size)
    exact ⟨_, rfl, hs3.mono hb02.size, hb02.trans (hb3.mono hb02.size)⟩

end Go.Proofs.YtaoimkjcaienbaaGreatDoor.sr

namespace Go.Proofs.YtaoimkjcaienbaaGreatDoor.sr
open Go.ChangeShapes Go.WideShapes Go.ChangeAt Go.RowKit Go.Deep Go.Shelf Go.Sort
set_option linter.unusedVariables false
set_option linter.unusedSimpArgs false

/-! ### Texts in a block of their own; slices.Compact; what the program's sort does -/

end Go.Proofs.YtaoimkjcaienbaaGreatDoor.sr
namespace Go.Proofs
open Go.Shelf
def YtaoimkjcaienbaaGreatDoor.sr.laysCompact_ren : Go.Shelf.Ren := ⟨fun | 194 => 136 | n => n, fun | 31 => 48 | 9 => 9 | 3 => 3 | 4 => 4 | 0 => 0 | n => n, fun | n => n⟩
theorem YtaoimkjcaienbaaGreatDoor.sr.laysCompact : Go.Proofs.Lays.n194 Tryz.prog YtaoimkjcaienbaaGreatDoor.sr.laysCompact_ren := {
  mixed := by kernel_rfl
  f194 := Tryz.func136.trans (congrArg some (by kernel_rfl))
  t0 := Tryz.underlying0
  a0 := Tryz.isAgg0
  z0 := Tryz.sizeOf0
  v0 := Tryz.zeroValue0
  t3 := Tryz.underlying3
  a3 := Tryz.isAgg3
  z3 := Tryz.sizeOf3
  v3 := Tryz.zeroValue3
  t4 := Tryz.underlying4
  a4 := Tryz.isAgg4
  z4 := Tryz.sizeOf4
  v4 := Tryz.zeroValue4
  t9 := Tryz.underlying9
  a9 := Tryz.isAgg9
  z9 := Tryz.sizeOf9
  v9 := Tryz.zeroValue9
  t31 := Tryz.underlying48
  a31 := Tryz.isAgg48
  z31 := Tryz.sizeOf48
  v31 := Tryz.zeroValue48 }
def YtaoimkjcaienbaaGreatDoor.sr.laysDel_ren : Go.Shelf.Ren := ⟨fun | 10 => 133 | 6 => 165 | n => n, fun | 22 => 48 | 23 => 9 | 25 => 95 | 3 => 3 | 4 => 4 | 0 => 0 | n => n, fun | n => n⟩
theorem YtaoimkjcaienbaaGreatDoor.sr.laysDel : Go.Proofs.SlLaysH.n10 Tryz.prog YtaoimkjcaienbaaGreatDoor.sr.laysDel_ren := {
  mixed := by kernel_rfl
  f6 := ⟨Tryz.f165.name, by decide, Tryz.func165.trans (congrArg some (by kernel_rfl))⟩
  f10 := ⟨Tryz.f133.name, by decide, Tryz.func133.trans (congrArg some (by kernel_rfl))⟩
  t0 := Tryz.underlying0
  a0 := Tryz.isAgg0
  z0 := Tryz.sizeOf0
  v0 := Tryz.zeroValue0
  t3 := Tryz.underlying3
  a3 := Tryz.isAgg3
  z3 := Tryz.sizeOf3
  v3 := Tryz.zeroValue3
  t4 := Tryz.underlying4
  a4 := Tryz.isAgg4
  z4 := Tryz.sizeOf4
  v4 := Tryz.zeroValue4
  t22 := Tryz.underlying48
  a22 := Tryz.isAgg48
  z22 := Tryz.sizeOf48
  v22 := Tryz.zeroValue48
  a23 := Tryz.isAgg9
  z23 := Tryz.sizeOf9
  t25 := Tryz.underlying95
  a25 := Tryz.isAgg95
  z25 := Tryz.sizeOf95
  v25 := Tryz.zeroValue95 }
end Go.Proofs
namespace Go.Proofs.YtaoimkjcaienbaaGreatDoor.sr
open Go.ChangeShapes Go.WideShapes Go.ChangeAt Go.RowKit Go.Deep Go.Shelf Go.Sort
set_option linter.unusedVariables false
set_option linter.unusedSimpArgs false

/-- A row of texts in a block that can be written. -/
structure Blk (w : World) (g cap : Nat) (xs : List (List UInt8)) : Prop where
  row : ∃ cur, w.heap[g]? = some (.cells cur 9 (0, 0)) ∧ cur.size = cap ∧ cur.toList.take xs.length = xs.map encStr
  le : xs.length ≤ cap

theorem enc_strL : (encStr : List UInt8 → Value) = strL := by funext x; rfl

theorem Blk.holds {w : World} {g cap : Nat} {xs : List (List UInt8)} (h : Blk w g cap xs) : Holds encStr w g 0 xs.toArray := by
  obtain ⟨cur, hb, _, ht⟩ := h.row
  exact holds_of_block hb ht

theorem Blk.put {w : World} {g cap n : Nat} {os : Array Obj} {xs ys : List (List UInt8)} (h : Blk w g cap xs) (zs : List (List UInt8)) (hl : (ys ++ zs).length = xs.length) : Blk (grow (putRow encStr (Sort.ahead w n) g 0 (ys ++ zs).toArray) os) g cap ys := by
  obtain ⟨cur, hb, hs, ht⟩ := h.row
  have hle := h.le
  refine ⟨⟨_, heap_sorted _ hb, by simp [putCells, hs], ?_⟩, by rw [List.length_append] at hl; omega⟩
  have := take_putCells cur (ys ++ zs) (by omega)
  have h2 := congrArg (List.take ys.length) this
  rw [List.take_take, List.map_append, List.take_left' (by simp)] at h2
  rwa [Nat.min_eq_left (by simp)] at h2

theorem compact_len (zs : List (List UInt8)) : (Lib.compact zs).length ≤ zs.length := by
  unfold Lib.compact Lib.compactUpTo
  rw [List.length_map]
  have := List.length_filter_le (Lib.keeps zs.toArray) (List.range zs.length)
  simpa using this

theorem compact_any (g cap : Nat) (zs : List (List UInt8)) (w : World) (h : Blk w g cap zs) (hn : zs.length ≤ 4000) :
    Calls Tryz.prog 136 #[.slice (some ⟨g, 0, none⟩) zs.length cap] w fun e w' => e = .returned (.slice (some ⟨g, 0, none⟩) (Lib.compact zs).length cap) ∧ Blk w' g cap (Lib.compact zs) ∧ w.grownBy w' (some g) := by
  refine (Any.slices_Compact_string laysCompact g 0 cap zs w h.holds (by omega) h.le).mono ?_
  rintro e w' ⟨rfl, q, rfl⟩
  have hc := compact_len zs
  refine ⟨rfl, ?_, ?_⟩
  · have := h.put (n := q) (os := #[]) (ys := Lib.compact zs) (List.replicate (zs.length - (Lib.compact zs).length) []) (by rw [List.length_append, List.length_replicate]; omega)
    rwa [grow_empty] at this
  · have := grownBy_sorted (w := w) (g := g) (n := q) (os := #[]) (Lib.compact zs ++ List.replicate (zs.length - (Lib.compact zs).length) []).toArray
    rwa [grow_empty] at this

theorem foldl_len : ∀ (l o : List (List UInt8)), (l.foldl fadd o).length ≤ o.length + l.length
  | [], o => by simp
  | x :: l, o => by
    have h1 := foldl_len l (fadd o x)
    have h2 := (fadd_len x o).2
    simp only [List.foldl_cons, List.length_cons]
    omega

theorem empty_row (w : World) : StrR (w.alloc (.cells #[] 9)) (.slice (some ⟨w.heap.size, 0, none⟩) 0 0) [] := ⟨_, _, _, rfl, Nat.le_refl _, by decide, fun i x hx => by simp at hx⟩

theorem blk_own {w : World} {B : Nat} {v : Value} {xs : List (List UInt8)} (h : w.ownsRow B 9 1 v xs.length (xs.map strL)) (hv : v ≠ .slice none 0 0) : ∃ g cap, v = .slice (some ⟨g, 0, none⟩) xs.length cap ∧ B ≤ g ∧ Blk w g cap xs := by
  obtain ⟨hl, h⟩ := h
  rcases h with ⟨e, _⟩ | ⟨g, cap, cur, rfl, hb, hg, hc, hm, hz, ht⟩
  · exact absurd e hv
  · exact ⟨g, cap, rfl, hb, ⟨⟨cur, hg, by omega, by rw [enc_strL]; simpa using ht⟩, hc⟩⟩

theorem mrg_perm : ∀ (f : Nat) (l r : List (List UInt8)), l.length + r.length ≤ f → (mrg f l r).Perm (l ++ r)
  | 0, l, r, _ => by unfold mrg; exact List.Perm.refl _
  | f + 1, [], [], _ => by unfold mrg; exact List.Perm.refl _
  | f + 1, y :: l, [], _ => by unfold mrg; rw [List.append_nil]
  | f + 1, [], x :: r, h => by
    unfold mrg
    have := mrg_perm f [] r (by simp at h ⊢; omega)
    simpa using this.cons x
  | f + 1, y :: l, x :: r, h => by
    unfold mrg
    split
    · have := mrg_perm f (y :: l) r (by simp at h ⊢; omega)
      exact (this.cons x).trans (List.perm_middle.symm)
    · have := mrg_perm f l (x :: r) (by simp at h ⊢; omega)
      exact this.cons y
abbrev Le (l : List (List UInt8)) : Prop := l.Pairwise (fun a b => a ≤ b)
theorem mrg_le : ∀ (f : Nat) (l r : List (List UInt8)), l.length + r.length ≤ f → Le l → Le r → Le (mrg f l r)
  | 0, l, r, h, _, _ => by
    have h1 : l = [] := List.length_eq_zero_iff.1 (by omega)
    have h2 : r = [] := List.length_eq_zero_iff.1 (by omega)
    subst h1 h2
    exact List.Pairwise.nil
  | f + 1, [], [], _, _, _ => by unfold mrg; exact List.Pairwise.nil
  | f + 1, y :: l, [], _, hl, _ => by unfold mrg; exact hl
  | f + 1, [], x :: r, h, hl, hr => by
    unfold mrg
    have h1 := mrg_le f [] r (by simp at h ⊢; omega) hl (List.pairwise_cons.1 hr).2
    refine List.pairwise_cons.2 ⟨fun z hz => ?_, h1⟩
    have := (mrg_perm f [] r (by simp at h ⊢; omega)).mem_iff.1 hz
    exact (List.pairwise_cons.1 hr).1 z (by simpa using this)
  | f + 1, y :: l, x :: r, h, hl, hr => by
    unfold mrg
    split
    · next hb =>
      have hxy : x < y := (bl x y).1 hb
      have h1 := mrg_le f (y :: l) r (by simp at h ⊢; omega) hl (List.pairwise_cons.1 hr).2
      refine List.pairwise_cons.2 ⟨fun z hz => ?_, h1⟩
      have := (mrg_perm f (y :: l) r (by simp at h ⊢; omega)).mem_iff.1 hz
      rcases List.mem_append.1 this with h2 | h2
      · rcases List.mem_cons.1 h2 with rfl | h3
        · exact List.le_of_lt hxy
        · exact List.le_trans (List.le_of_lt hxy) ((List.pairwise_cons.1 hl).1 z h3)
      · exact (List.pairwise_cons.1 hr).1 z h2
    · next hb =>
      have hyx : y ≤ x := List.not_lt.1 (fun h2 => hb ((bl x y).2 h2))
      have h1 := mrg_le f l (x :: r) (by simp at h ⊢; omega) (List.pairwise_cons.1 hl).2 hr
      refine List.pairwise_cons.2 ⟨fun z hz => ?_, h1⟩
      have := (mrg_perm f l (x :: r) (by simp at h ⊢; omega)).mem_iff.1 hz
      rcases List.mem_append.1 this with h2 | h2
      · exact (List.pairwise_cons.1 hl).1 z h2
      · rcases List.mem_cons.1 h2 with rfl | h3
        · exact hyx
        · exact List.le_trans hyx ((List.pairwise_cons.1 hr).1 z h3)
theorem srt_perm : ∀ (f : Nat) (l : List (List UInt8)), (srt f l).Perm l
  | 0, l => List.Perm.refl _
  | f + 1, l => by
    unfold srt
    split
    · exact List.Perm.refl _
    · have h1 := srt_perm f (l.take (l.length / 2))
      have h2 := srt_perm f (l.drop (l.length / 2))
      refine (mrg_perm _ _ _ (by rw [srt_len, srt_len, List.length_take, List.length_drop]; omega)).trans ?_
      refine (h1.append h2).trans ?_
      rw [List.take_append_drop]
theorem srt_le : ∀ (f : Nat) (l : List (List UInt8)), l.length ≤ 2 ^ f → Le (srt f l)
  | 0, l, h => by
    unfold srt
    match l, h with
    | [], _ => exact List.Pairwise.nil
    | [x], _ => exact List.pairwise_singleton _ _
    | x :: y :: l, h => simp at h
  | f + 1, l, h => by
    unfold srt
    split
    · next h2 =>
      match l, h2 with
      | [], _ => exact List.Pairwise.nil
      | [x], _ => exact List.pairwise_singleton _ _
      | x :: y :: l, h2 => simp at h2; omega
    · have hp : 2 ^ (f + 1) = 2 ^ f * 2 := Nat.pow_succ ..
      exact mrg_le _ _ _ (by rw [srt_len, srt_len, List.length_take, List.length_drop]; omega) (srt_le f _ (by rw [List.length_take]; omega)) (srt_le f _ (by rw [List.length_drop]; omega))
/-- The sorted texts, each once: the ascending list of those that are there. -/
theorem srt_compact (f : Nat) (l : List (List UInt8)) (h : l.length ≤ 2 ^ f) : Lib.compact (srt f l) = l.foldl fadd [] := by
  refine asc_ext (compact_asc (srt_le f l h)) (fold_asc l [] List.Pairwise.nil) (fun x => ?_)
  rw [compact_mem, (srt_perm f l).mem_iff, fold_mem]
  simp

end Go.Proofs.YtaoimkjcaienbaaGreatDoor.sr

namespace Go.Proofs.YtaoimkjcaienbaaGreatDoor.pf
open Go.ChangeShapes Go.WideShapes Go.ChangeAt Go.RowKit Go.Deep Go.Maps
set_option linter.unusedVariables false

/-! ### The values of letters (for a seat without profiles) -/

theorem grown_of {w w' : World} (hb : Below w.heap.size w w') : w.grownBy w' none := ⟨hb.os, hb.tape, hb.output, hb.size, fun k hk _ => hb.block k hk⟩

/-- The values of letters. -/
def LV (w : World) (mb : Nat) : Prop := w.ownsMap Tryz.prog 5 (plainElem Tryz.prog 36) mb 32 (wd.lvD 32)

theorem LV.below {w w' : World} {mb : Nat} (h : LV w mb) (hb : Below w.heap.size w w') : LV w' mb := World.ownsMap.kept h (grown_of hb) (by simp)

end Go.Proofs.YtaoimkjcaienbaaGreatDoor.pf

namespace Go.Proofs.YtaoimkjcaienbaaGreatDoor.sr
open Go.ChangeShapes Go.WideShapes Go.ChangeAt Go.RowKit Go.Deep Go.Shelf Go.Sort
set_option linter.unusedVariables false
set_option linter.unusedSimpArgs false

/-! ### Addresses among texts -/


abbrev Tx : Type := { l : List UInt8 // l.length ≤ 1048576 }
instance : Inhabited Tx := ⟨⟨[], by simp⟩⟩
def encT (x : Tx) : Value := strL x.1
def aokL (l : List UInt8) : Bool := wd.aokB ⟨l.toArray⟩

theorem am1_gives (x : Tx) (vb mb : Nat) (W : World) (hv : W.cell? ⟨vb, 0, none⟩ = some (.map (some mb))) (hL : pf.LV W mb) : FnGives Tryz.prog 135 #[.pointer (some ⟨vb, 0, none⟩)] #[encT x] (.bool (!aokL x.1)) W := by
  show Calls Tryz.prog 135 #[.string ⟨x.1.toArray⟩, .pointer (some ⟨vb, 0, none⟩)] W _
  have HI : Hid (Calls Tryz.prog 96 #[.string ⟨x.1.toArray⟩, .map (some mb)] W fun e w' => e = .returned (.bool (wd.aokB ⟨x.1.toArray⟩)) ∧ w' = W) := wd.isadr_any ⟨x.1.toArray⟩ (by show x.1.toArray.size ≤ _; have := x.2; simpa using this) mb W hL
  have HR : Hid (aokL x.1 = wd.aokB ⟨x.1.toArray⟩) := rfl
  rw [HR.out]
  generalize (⟨x.1.toArray⟩ : ByteArray) = s at *
  generalize wd.aokB s = r at *
  clear hL HR
  go_enter Tryz.func135, Tryz.ntmps135
  go_wp2_with (go_at_call 96; refine HI.out.mono ?_; rintro e w1 ⟨rfl, rfl⟩)
  go_ret
  exact ⟨by first | rfl | simp, 0, rfl⟩

def mkT (xs : List (List UInt8)) (h : ∀ x ∈ xs, x.length ≤ 1048576) : List Tx := xs.pmap (fun x hx => ⟨x, hx⟩) h
theorem mkT_len (xs : List (List UInt8)) (h : ∀ x ∈ xs, x.length ≤ 1048576) : (mkT xs h).length = xs.length := by simp [mkT]
theorem mkT_val (xs : List (List UInt8)) (h : ∀ x ∈ xs, x.length ≤ 1048576) : (mkT xs h).map (fun x => x.1) = xs := by simp [mkT, List.map_pmap]
theorem mkT_filter : ∀ (l : List Tx), (l.filter fun x => !!aokL x.1).map (fun x => x.1) = (l.map fun x => x.1).filter aokL
  | [] => rfl
  | x :: l => by
    have ih := mkT_filter l
    simp only [Bool.not_not] at ih ⊢
    cases h : aokL x.1 <;> simp [List.filter_cons, h, ih]

theorem putRow_T (w : World) (g : Nat) (d : List Tx) : putRow encT w g 0 d.toArray = putRow encStr w g 0 (d.map fun x => x.1).toArray := by
  unfold putRow
  congr 1
  funext cur
  unfold putCells
  congr 1
  funext i
  simp only [List.size_toArray, List.length_map]
  split
  · next h =>
    have hi : i < d.length := by have := h.2; omega
    simp [encT, enc_strL, List.getElem?_eq_getElem hi]
  · rfl

theorem del_any (g cap vb mb : Nat) (xs : List (List UInt8)) (hx : ∀ x ∈ xs, x.length ≤ 1048576) (w : World) (h : Blk w g cap xs) (hn : xs.length ≤ 4000) (hv : w.cell? ⟨vb, 0, none⟩ = some (.map (some mb))) (hL : pf.LV w mb) (hvg : vb ≠ g) (hmg : mb ≠ g) :
    Calls Tryz.prog 133 #[.slice (some ⟨g, 0, none⟩) xs.length cap, .func (.func 135) #[] #[.pointer (some ⟨vb, 0, none⟩)]] w fun e w' => e = .returned (.slice (some ⟨g, 0, none⟩) (xs.filter aokL).length cap) ∧ Blk w' g cap (xs.filter aokL) ∧ w.grownBy w' (some g) := by
  have eg : ∀ args w, (callFunc 135 args).run Tryz.prog w = .ok (.enter 135 args) w := enters_of Tryz.func135 (by kernel_rfl) rfl
  have hvl := World.block_lt_of_cell? _ _ hv
  have hp : PredAt Tryz.prog 135 #[.pointer (some ⟨vb, 0, none⟩)] encT (fun x => !aokL x.1) w := fun W x hb => am1_gives x vb mb W ((hb.cell (p := ⟨vb, 0, none⟩) hvl).trans hv) (hL.below hb)
  have hpo : PredOver Tryz.prog 135 #[.pointer (some ⟨vb, 0, none⟩)] encT (fun x => !aokL x.1) g 0 (mkT xs hx).toArray.size w := fun n os dk x _ => by
    have hgr : w.grownBy (sortWorld encT w g 0 n dk os) (some g) := by
      unfold sortWorld
      rw [show dk = dk.toList.toArray by simp, putRow_T]
      exact grownBy_sorted _
    refine am1_gives x vb mb _ ?_ (World.ownsMap.kept hL hgr (by simpa using hmg))
    have := hgr.block vb hvl (by simpa using hvg)
    rw [World.cell?_of_block (a := ⟨vb, 0, none⟩) this]
    exact hv
  have hH : Holds encT w g 0 (mkT xs hx).toArray := fun j hj => by
    have hj' : j < xs.length := by simpa [mkT_len] using hj
    obtain ⟨h1, h2⟩ := h.holds j (by simpa using hj')
    refine ⟨?_, h2⟩
    rw [h1]
    have e1 : (xs.toArray[j]!) = xs[j] := by simp [hj']
    have e2 : ((mkT xs hx).toArray[j]!) = ⟨xs[j], hx _ (List.getElem_mem hj')⟩ := by simp [mkT, hj']
    rw [e1, e2, enc_strL]
    rfl
  have hcon := AnyE.slices_DeleteFunc laysDel encT (fun _ => rfl) (fun x => !aokL x.1) 135 #[.pointer (some ⟨vb, 0, none⟩)] eg default Tryz.zeroValue9 g 0 cap (mkT xs hx).toArray w hp hpo hH (by simp [mkT_len]; omega) (by simp [mkT_len]; exact h.le)
  have hfl : ((mkT xs hx).filter fun x => !!aokL x.1).map (fun x => x.1) = xs.filter aokL := by rw [mkT_filter, mkT_val]
  have hll : ((mkT xs hx).filter fun x => !!aokL x.1).length = (xs.filter aokL).length := by have := congrArg List.length hfl; rwa [List.length_map] at this
  have hsz : (mkT xs hx).toArray.size = xs.length := by simp [mkT_len]
  rw [hsz] at hcon
  refine Calls.mono hcon ?_
  rintro e w' ⟨rfl, q, rfl⟩
  have hfle : (xs.filter aokL).length ≤ xs.length := List.length_filter_le _ _
  simp only [] at hll ⊢
  rw [putRow_T, List.map_append, hfl, List.map_replicate]
  refine ⟨by rw [hll], ?_, ?_⟩
  · have := h.put (n := q) (os := #[]) (ys := xs.filter aokL) (List.replicate (xs.length - ((mkT xs hx).filter fun x : Tx => !!aokL x.1).length) []) (by rw [List.length_append, List.length_replicate, hll]; omega)
    rwa [grow_empty] at this
  · have := grownBy_sorted (w := w) (g := g) (n := q) (os := #[]) (xs.filter aokL ++ List.replicate (xs.length - ((mkT xs hx).filter fun x : Tx => !!aokL x.1).length) []).toArray
    rwa [grow_empty] at this

end Go.Proofs.YtaoimkjcaienbaaGreatDoor.sr
