import Derived.Test.YthklplfpnciodaaGreatDoorFP
import Derived.Sort.KeysCollected
namespace Go.Proofs.YthklplfpnciodaaGreatDoor.ex
open Go.ChangeShapes Go.WideShapes Go.ChangeAt Go.RowKit Go.Deep Go.Maps
set_option linter.unusedVariables false
set_option linter.unusedSimpArgs false

theorem cut_sumF {E : Nat → Ex} : ∀ (left p : Nat) (ps : List Nat), cutP E p left = some ps → (ps.map fun q => (E q).size.toNat + 1).sum = left := by
  intro left
  induction left using Nat.strongRecOn with
  | ind left ih =>
    intro p ps h
    rw [cutP] at h
    split at h
    · cases h; simp; omega
    · next h0 =>
      split at h
      · cases h
      · next h1 =>
        rw [Option.map_eq_some_iff] at h
        obtain ⟨qs, hq, rfl⟩ := h
        have := ih _ (by omega) _ _ hq
        simp only [List.map_cons, List.sum_cons]
        omega

theorem sum_w {f g : Nat → Nat} : ∀ (l : List Nat), (∀ q ∈ l, f q + 4 ≤ 8 * g q) → (l.map f).sum + 4 * l.length ≤ 8 * (l.map g).sum
  | [], _ => by simp
  | q :: l, h => by
    have h1 := h q (by simp)
    have h2 := sum_w l (fun x hx => h x (by simp [hx]))
    simp only [List.map_cons, List.sum_cons, List.length_cons]
    omega

theorem wT_le {E : Nat → Ex} {n : Nat} (hn : n ≤ 3000) : ∀ (r p len : Nat), ok E r p len = true → 0 < len → p + len ≤ n → wT r (treeP E r p) + 4 ≤ 8 * len := by
  intro r
  induction r with
  | zero => intro p len h; cases h
  | succ r ih =>
    intro p len hok hl hp
    obtain ⟨hsz, hh, ps, hcp, hpo, hspt, hall⟩ := parts_of_ok (by omega) hok
    obtain ⟨hfits, hpl⟩ := cut_fits _ _ _ hcp
    have hsum := cut_sumF _ _ _ hcp
    have hT : treeP E (r + 1) p = .mk (E p).kind (E p).text (E p).n (ps.map (treeP E r)) := by
      rw [treeP, show (E p).size.toNat = len - 1 by omega, hcp]
      rfl
    rw [hT, wT_mk, wL, List.map_map]
    have h5 := sum_w (f := wT r ∘ treeP E r) (g := fun q => (E q).size.toNat + 1) ps fun q hq => by
      obtain ⟨f1, f2, f3⟩ := hfits q hq
      exact ih q _ (hall q hq) (by omega) (by omega)
    rw [hsum] at h5
    simp only [List.length_map]
    omega

theorem okT_of {E : Nat → Ex} {n : Nat} (hn : n ≤ 3000) (ht : ∀ i, i < n → (E i).text.size ≤ 1048576) : ∀ (r p len : Nat), ok E r p len = true → 0 < len → p + len ≤ n → okT r (treeP E r p) := by
  intro r
  induction r with
  | zero => intro p len h; cases h
  | succ r ih =>
    intro p len hok hl hp
    obtain ⟨ps, N⟩ := node_of hl (by omega) hok
    rw [N.tree]
    have hfew := N.few
    refine ⟨ht p (by omega), ok_kind hok, by simp; omega, fun i q hq => ?_⟩
    rw [List.getElem?_map, Option.map_eq_some_iff] at hq
    obtain ⟨p', hp', rfl⟩ := hq
    have hi : i < ps.length := (List.getElem?_eq_some_iff.1 hp').1
    have e : pAt ps i = p' := by simp [pAt, hp']
    have hkd := N.kid i hi
    obtain ⟨d, z, e1, e2, e3, e4, e5⟩ := N.at_ i hi
    rw [e] at hkd e1
    subst e1
    refine ⟨by rw [tr_kind]; simpa using hkd, ih _ _ e5 (by omega) (by omega)⟩

/-! ### The names found, ascending -/

def asc (l : List (List UInt8)) : Prop := l.Pairwise (fun a b => a < b)

theorem bl (x y : List UInt8) : Op.bytesLess x y = true ↔ x < y := by rw [Go.Proofs.bytesLess_eq]; simp

theorem fadd_mem (s : List UInt8) : ∀ (l : List (List UInt8)) (x : List UInt8), x ∈ fadd l s ↔ x ∈ l ∨ x = s
  | [], x => by simp [fadd]
  | y :: r, x => by
    have ih := fadd_mem s r x
    unfold fadd
    split
    · simp [ih, or_assoc]
    · split
      · next h =>
        subst h
        constructor
        · exact fun h => .inl h
        · rintro (h | rfl)
          · exact h
          · simp
      · rw [List.mem_cons, Or.comm]

theorem fadd_asc (s : List UInt8) : ∀ (l : List (List UInt8)), asc l → asc (fadd l s)
  | [], _ => by simp [fadd, asc]
  | y :: r, h => by
    have h' := List.pairwise_cons.1 h
    unfold fadd
    split
    · next hl =>
      refine List.pairwise_cons.2 ⟨fun x hx => ?_, fadd_asc s r h'.2⟩
      rcases (fadd_mem s r x).1 hx with hx | rfl
      · exact h'.1 x hx
      · exact (bl _ _).1 hl
    · next hl =>
      split
      · exact h
      · next hne =>
        have hlt : s < y := by
          have h1 : ¬ y < s := fun hh => hl ((bl _ _).2 hh)
          rcases List.le_iff_lt_or_eq.1 (List.not_lt.1 h1) with h2 | h2
          · exact h2
          · exact absurd h2.symm hne
        refine List.pairwise_cons.2 ⟨fun x hx => ?_, h⟩
        rcases List.mem_cons.1 hx with rfl | hx
        · exact hlt
        · exact List.lt_trans hlt (h'.1 x hx)

theorem fold_mem : ∀ (l o : List (List UInt8)) (x : List UInt8), x ∈ l.foldl fadd o ↔ x ∈ o ∨ x ∈ l
  | [], o, x => by simp
  | y :: l, o, x => by
    have := fold_mem l (fadd o y) x
    rw [List.foldl_cons, this, fadd_mem]
    simp [or_assoc]
theorem fold_asc : ∀ (l o : List (List UInt8)), asc o → asc (l.foldl fadd o)
  | [], o, h => h
  | y :: l, o, h => fold_asc l _ (fadd_asc y o h)

theorem asc_nodup {l : List (List UInt8)} (h : asc l) : l.Nodup := h.imp fun hab e => by subst e; exact List.lt_irrefl _ hab

/-- The keys that are told, sorted, are the names found. -/
theorem keys_sorted {w : World} {b N : Nat} {D : DataW Unit} (hown : w.ownsMap Tryz.prog 9 (plainElem Tryz.prog 3) b N D) {ss L : List (List UInt8)} (hp : ss.Perm (strKeys D)) (hL : asc L) (hm : ∀ x, Maps.has D (.string x) = true ↔ x ∈ L) : ss.mergeSort (fun x y => decide (x ≤ y)) = L := by
  have hp2 : L.Perm (strKeys D) := by
    obtain ⟨es, hD, hpw, _⟩ := hown.entries keyed9
    obtain ⟨es', hD', hko⟩ := hown.keysOf
    obtain rfl : es = es' := by rw [hD] at hD'; simpa using hD'
    subst hD
    exact perm_strKeys hpw (fun p hp => by obtain ⟨v, hv⟩ := hko p hp; obtain ⟨x, _, hx, _⟩ := Maps.keyOf_str Tryz.underlying9 hv; exact ⟨x, hx⟩) (asc_nodup hL) (fun x => (hm x).symm)
  have e1 := mergeSort_of_perm (hp.trans hp2.symm)
  have e2 : L.mergeSort leB = L := List.mergeSort_of_pairwise (hL.imp fun hab => by simp only [leB, decide_eq_true_eq]; exact List.le_of_lt hab)
  exact e1.trans e2

end Go.Proofs.YthklplfpnciodaaGreatDoor.ex
