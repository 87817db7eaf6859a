import Derived.Test.YtbpkekdapkkilaaDoorUC
import Derived.Test.YtbpkekdapkkilaaDoorPC
import Derived.Test.YtbpkekdapkkilaaDoorCA
namespace Go.Proofs.YtbpkekdapkkilaaDoor.up
open Go.ChangeShapes Go.WideShapes Go.ChangeAt Go.RowKit Go.Deep
set_option linter.unusedVariables false
set_option linter.unusedSimpArgs false

/-! ### UnpackTree: what it must answer; impl.UnpackTree -/

open tt in
theorem tr_congr {E X : Nat → En} {n : Nat} (h : ∀ i, i < n → E i = X i) (ht : Tr E n) : Tr X n := by
  have hp : ∀ i, i < n → pth E i = pth X i := fun i hi => by unfold pth; rw [h i hi]
  obtain ⟨h1, h2, h3⟩ := ht
  refine ⟨fun i hi => by rw [← h i hi]; exact h1 i hi, fun i hi => by rw [← hp i (by omega), ← hp (i + 1) hi]; exact h2 i hi, fun i hi hu => ?_⟩
  rw [← hp i hi] at hu ⊢
  obtain ⟨j, hj, hpj, hk⟩ := h3 i hi hu
  exact ⟨j, hj, by rw [← hp j (by omega)]; exact hpj, by rw [← h j (by omega)]; exact hk⟩
open tt in
theorem treeB_congr {E X : Nat → En} {n : Nat} (h : ∀ i, i < n → E i = X i) : treeB E n = treeB X n := by
  cases hb : treeB X n with
  | true =>
    obtain ⟨h5, ht⟩ := treeB_tr' hb
    exact treeB_yes h5 (tr_congr (fun i hi => (h i hi).symm) ht)
  | false =>
    refine treeB_no fun ⟨h5, ht⟩ => ?_
    rw [treeB_yes h5 (tr_congr h ht)] at hb
    cases hb
open tt in
theorem pkL_congr {E X : Nat → En} : ∀ {n : Nat}, (∀ i, i < n → E i = X i) → pkL E n = pkL X n
  | 0, _ => rfl
  | n + 1, h => by rw [pkL, pkL, pkL_congr (fun i hi => h i (by omega)), h n (by omega)]
open tt in
theorem pkB_congr {E X : Nat → En} {n : Nat} (h : ∀ i, i < n → E i = X i) : pkB E n = pkB X n := by unfold pkB; rw [treeB_congr h, pkL_congr h]
open tt in
theorem pkL_pre (E : Nat → En) (c : Nat) : ∀ n, c ≤ n → ∃ r, pkL E n = pkL E c ++ r
  | 0, h => by obtain rfl : c = 0 := by omega
               exact ⟨[], by simp⟩
  | n + 1, h => by
    by_cases hc : c = n + 1
    · subst hc; exact ⟨[], by simp⟩
    · obtain ⟨r, hr⟩ := pkL_pre E c n (by omega)
      exact ⟨r ++ pkE (E n), by rw [pkL, hr, List.append_assoc]⟩
open tt in
theorem pkE_ne (e : En) : pkE e ≠ [] := by unfold pkE; simp

/-- These bytes are this tree's. -/
def Good (l : List UInt8) (E : Nat → tt.En) (n : Nat) : Prop := tt.treeB E n = true ∧ tt.SmE n E ∧ l = tt.pkB E n

/-- What the reader has at its end. -/
structure Out (w' : World) (base : Nat) (l : List UInt8) (v : Value) (c : Nat) (X : Nat → tt.En) : Prop where
  own : w'.ownsRow base 42 4 v c (tt.enC X c)
  nn : v ≠ .slice none 0 0
  sm : tt.SmE c X
  c5 : c ≤ 500
  nil : l = [] → c = 0
  pr : ∀ E n, Good l E n → c = n ∧ ∀ k, k < n → X k = E k

theorem Out.good {w' : World} {base : Nat} {l : List UInt8} {v : Value} {c : Nat} {X : Nat → tt.En} (h : Out w' base l v c X) (he : tt.pkB X c = l) : Good l X c := by
  cases ht : tt.treeB X c with
  | true => exact ⟨ht, h.sm, he.symm⟩
  | false =>
    rw [tt.pkB_no ht] at he
    have h0 := h.nil he.symm
    subst h0
    rw [tt.treeB_yes (by omega) (tt.Tr.zero X)] at ht
    cases ht
theorem Out.bad {w' : World} {base : Nat} {l : List UInt8} {v : Value} {c : Nat} {X : Nat → tt.En} (h : Out w' base l v c X) (he : tt.pkB X c ≠ l) : ∀ E n, ¬ Good l E n := fun E n hg => by
  obtain ⟨rfl, hx⟩ := h.pr E n hg
  exact he ((pkB_congr hx).trans hg.2.2.symm)

theorem bytes_eq_any (g z c b N c' : Nat) (l1 l2 : List UInt8) (w : World) (h1 : By w g l1) (h2 : By w b l2) (hz : z = l1.length) (hN : N = l2.length) :
    Calls Tryd.prog 25 #[.slice (some ⟨g, 0, none⟩) z c, .slice (some ⟨b, 0, none⟩) N c'] w fun e w' => e = .returned (.bool (decide (l1 = l2))) ∧ w' = w := by
  have hc : ∀ (k cc : Nat) (m : List UInt8), By w k m → (convert 22 9 (.slice (some ⟨k, 0, none⟩) m.length cc)).run Tryd.prog w = .ok (.string ⟨m.toArray⟩) w := fun k cc m hk => by
    have hB : Lib.Bytes w k 0 ⟨m.toArray⟩ := fun i hi => by
      have hi' : i < m.length := by simpa [ByteArray.size] using hi
      rw [Nat.zero_add, hk i hi']
      rfl
    have := Lib.run_convert_whole (P := Tryd.prog) w 22 5 9 Tryd.underlying22 Tryd.underlying5 Tryd.underlying9 k 0 ⟨m.toArray⟩ hB cc
    simpa [ByteArray.size] using this
  subst hz hN
  have c1 := hc g c l1 h1
  have c2 := hc b c' l2 h2
  have he : ((⟨l1.toArray⟩ : ByteArray).toList == (⟨l2.toArray⟩ : ByteArray).toList) = decide (l1 = l2) := by
    rw [ByteArray.toList_eq, ByteArray.toList_eq, Bool.eq_iff_iff]
    simp
  clear hc
  obtain ⟨z1, hz1⟩ : ∃ z, l1.length = z := ⟨_, rfl⟩
  obtain ⟨z2, hz2⟩ : ∃ z, l2.length = z := ⟨_, rfl⟩
  obtain ⟨s1, hs1⟩ : ∃ s : ByteArray, ⟨l1.toArray⟩ = s := ⟨_, rfl⟩
  obtain ⟨s2, hs2⟩ : ∃ s : ByteArray, ⟨l2.toArray⟩ = s := ⟨_, rfl⟩
  rw [hs1] at c1 he
  rw [hs2] at c2 he
  rw [hz1] at c1 ⊢
  rw [hz2] at c2 ⊢
  obtain ⟨bb, hbb⟩ : ∃ bb, decide (l1 = l2) = bb := ⟨_, rfl⟩
  rw [hbb] at he ⊢
  clear hz1 hz2 hs1 hs2 hbb h1 h2
  go_enter Tryd.func25, Tryd.ntmps25
  go_wp2
  go_ret
  first | exact ⟨rfl, rfl⟩ | exact ⟨by rw [he], rfl⟩

theorem bf_by {base : Nat} {w : World} {g cap : Nat} {l : List UInt8} (h : bf.Bf base w g cap l) : By w g l := h.cells
theorem own_grown {w w' : World} {base e size p : Nat} {v : Value} {n : Nat} {xs : List Value} (h : w.ownsRow base e size v n xs) (hg : w.grownBy w' (some p)) (hp : p < base) : w'.ownsRow base e size v n xs :=
  h.kept hg (.inr fun e' => by have := (h.lt p e').1; omega)

/-- What UnpackTree must answer. -/
def UnR (w w' : World) (l : List UInt8) (e : Ending) : Prop := ∃ (v : Value) (ok : Bool) (n : Nat) (X : Nat → tt.En), e = .returned (.tuple #[v, .bool ok]) ∧ tt.RowE w.heap.size w' v n X ∧ n ≤ 500 ∧ ((ok = true ∧ Good l X n ∧ ∀ E m, Good l E m → n = m ∧ ∀ k, k < m → X k = E k) ∨ ok = false ∧ n = 0 ∧ ∀ E m, ¬ Good l E m)

theorem rowE_below {base : Nat} {w w' : World} {v : Value} {n : Nat} {E : Nat → tt.En} (h : tt.RowE base w v n E) (hb : Below w.heap.size w w') : tt.RowE base w' v n E := by
  obtain ⟨g, cap, f, rfl, h1, h2, h3, h4, h5⟩ := h
  exact ⟨g, cap, f, rfl, h1, h2, h3, h4.of_block (hb.block _ h4.lt), h5.below hb⟩
theorem unR_yes {w w5 wr : World} {bs c : Nat} {l : List UInt8} {v v' : Value} {X : Nat → tt.En} (hr : tt.RowE w.heap.size w5 v c X) (ho : Out wr bs l v' c X) (hp : tt.pkB X c = l) : UnR w w5 l (.returned (.tuple #[v, .bool true])) :=
  ⟨v, true, c, X, rfl, hr, ho.c5, .inl ⟨rfl, ho.good hp, ho.pr⟩⟩
theorem unR_no {w w5 wr : World} {bs c : Nat} {l : List UInt8} {v' : Value} {X : Nat → tt.En} (hb : Below w.heap.size w w5) (ho : Out wr bs l v' c X) (hp : ¬ tt.pkB X c = l) : UnR w (w5.alloc (.cells #[] 42)) l (.returned (.tuple #[.slice (some ⟨w5.heap.size, 0, none⟩) 0 0, .bool false])) :=
  ⟨_, false, 0, X, rfl, ⟨w5.heap.size, 0, fun _ => undef, rfl, hb.size, Nat.le_refl _, Nat.zero_le _, ⟨#[], heap_alloc_new w5 _, rfl, fun i hi => by omega⟩, fun i hi => by omega⟩, by omega, .inr ⟨rfl, rfl, ho.bad hp⟩⟩

def setX (X : Nat → tt.En) (c : Nat) (e : tt.En) : Nat → tt.En := fun k => if k = c then e else X k
theorem setX_lt {X : Nat → tt.En} {c k : Nat} {e : tt.En} (h : k < c) : setX X c e k = X k := by unfold setX; rw [if_neg (by omega)]
theorem setX_at (X : Nat → tt.En) (c : Nat) (e : tt.En) : setX X c e c = e := by unfold setX; rw [if_pos rfl]

end Go.Proofs.YtbpkekdapkkilaaDoor.up
