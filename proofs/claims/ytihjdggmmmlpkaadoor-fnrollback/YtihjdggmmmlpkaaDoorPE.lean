import Derived.Test.YtihjdggmmmlpkaaDoorPO
import Derived.Test.YtihjdggmmmlpkaaDoorRE
import Derived.Deep.RegionHeld3
namespace Go.Proofs.YtihjdggmmmlpkaaDoor.pf
open Go.ChangeShapes Go.WideShapes Go.ChangeAt Go.RowKit Go.Deep
set_option linter.unusedVariables false
set_option linter.unusedSimpArgs false

/-! ### Profiles: one profile of a list changed; marks -/

theorem two_types {w : World} {b t t' N N' : Nat} {f f' : Nat → Value} (h : w.rowIs b t N f) (h' : w.rowIs b t' N' f') : t = t' := by
  obtain ⟨c, hc, _⟩ := h
  obtain ⟨c', hc', _⟩ := h'
  rw [hc] at hc'
  cases hc'
  rfl
theorem g_ne_p {w : World} {g b : Nat} {l : List Gn} {N : Nat} {f : Nat → Value} (hg : OwG w g l) (hp : w.rowIs b 40 N f) : g ≠ b := fun e => by
  subst e
  obtain ⟨N', f', _, hr, _⟩ := hg
  exact absurd (two_types hr hp) (by decide)

theorem oth {X : World} {b i j : Nat} {v : Value} (h : i ≠ j) : (X.setCell ⟨b, i, none⟩ v).cell? ⟨b, j, none⟩ = X.cell? ⟨b, j, none⟩ := World.cell?_setCell_other X ⟨b, i, none⟩ ⟨b, j, none⟩ v (by simp [h])

theorem OwP.upd {lo hi hi' : Nat} {w w' : World} {b : Nat} {gs : Nat → Nat} {ps : List Pr} {k g' c' : Nat} {x x' : Pr} (h : OwP lo hi w b gs ps) (hx : ps[k]? = some x) (hhi : hi ≤ hi') (hs' : hi' ≤ w'.heap.size)
    (hoth : ∀ j, lo ≤ j → j < hi → j ≠ b → j ≠ gs k → w'.heap[j]? = w.heap[j]?) (hrow : ∃ N f, ps.length * 3 ≤ N ∧ w'.rowIs b 40 N f)
    (hcell : ∀ o, o / 3 ≠ k → w'.cell? ⟨b, o, none⟩ = w.cell? ⟨b, o, none⟩)
    (h0 : w'.cell? ⟨b, k * 3, none⟩ = some (.string x'.name)) (h1 : w'.cell? ⟨b, k * 3 + 1, none⟩ = some (.int .i64 x'.now)) (h2 : w'.cell? ⟨b, k * 3 + 2, none⟩ = some (.slice (some ⟨g', 0, none⟩) x'.gens.length c')) (hc : GC w' g' x'.gens.length c')
    (hg : OwG w' g' x'.gens) (hlo : lo ≤ g') (hgh : g' < hi') (hne : ∀ j, j < ps.length → j ≠ k → gs j ≠ g') : OwP lo hi' w' b (fun j => if j = k then g' else gs j) (ps.set k x') := by
  have hk := (List.getElem?_eq_some_iff.1 hx).1
  refine ⟨h.blo, Nat.lt_of_lt_of_le h.bhi hhi, hs', by rw [List.length_set]; exact hrow, fun i y hy => ?_, fun i hi2 => ?_, fun i j hij hj => ?_⟩
  · rw [List.getElem?_set] at hy
    by_cases he : k = i
    · subst he
      rw [if_pos rfl, if_pos hk] at hy
      obtain rfl := Option.some.inj hy
      simp only [if_pos]
      exact ⟨c', hc, h0, h1, h2, hg⟩
    · rw [if_neg he] at hy
      have hi2 := (List.getElem?_eq_some_iff.1 hy).1
      obtain ⟨c, q0, q1, q2, q3, q4⟩ := h.ent i y hy
      rw [if_neg (fun e => he e.symm)]
      have hgk : w'.heap[gs i]? = w.heap[gs i]? := by
        refine hoth _ (h.rng i hi2).1 (h.rng i hi2).2.1 (h.rng i hi2).2.2 ?_
        rcases Nat.lt_or_ge i k with h' | h'
        · exact h.inj i k h' hk
        · exact fun e => h.inj k i (by omega) hi2 e.symm
      refine ⟨c, q0.kept hgk, ?_, ?_, ?_, q4.kept hgk⟩
      · rw [hcell _ (by omega)]; exact q1
      · rw [hcell _ (by omega)]; exact q2
      · rw [hcell _ (by omega)]; exact q3
  · rw [List.length_set] at hi2
    by_cases he : i = k
    · simp only [if_pos he]
      obtain ⟨N, f, _, hr⟩ := hrow
      exact ⟨hlo, hgh, g_ne_p hg hr⟩
    · simp only [if_neg he]
      exact ⟨(h.rng i hi2).1, Nat.lt_of_lt_of_le (h.rng i hi2).2.1 hhi, (h.rng i hi2).2.2⟩
  · rw [List.length_set] at hj
    by_cases he : j = k
    · simp only [if_pos he, if_neg (show i ≠ k by omega)]
      exact hne i (by omega) (by omega)
    · by_cases he2 : i = k
      · simp only [if_pos he2, if_neg he]
        exact fun e => hne j hj he e.symm
      · simp only [if_neg he, if_neg he2]
        exact h.inj i j hij hj

/-! What marking does. -/

/-- All blocks but those from lo on and below hi are as they were. -/
structure Mid (lo hi : Nat) (w w' : World) : Prop where
  os : w'.os = w.os
  tape : w'.tape = w.tape
  output : w'.output = w.output
  size : w.heap.size ≤ w'.heap.size
  block : ∀ k, k < w.heap.size → (k < lo ∨ hi ≤ k) → w'.heap[k]? = w.heap[k]?
theorem Mid.refl (lo hi : Nat) (w : World) : Mid lo hi w w := ⟨rfl, rfl, rfl, Nat.le_refl _, fun _ _ _ => rfl⟩
theorem Mid.trans {lo hi : Nat} {w w1 w2 : World} (h : Mid lo hi w w1) (g : Mid lo hi w1 w2) : Mid lo hi w w2 :=
  ⟨g.os.trans h.os, g.tape.trans h.tape, g.output.trans h.output, Nat.le_trans h.size g.size, fun k hk hl => (g.block k (Nat.lt_of_lt_of_le hk h.size) hl).trans (h.block k hk hl)⟩
theorem Mid.of_below {lo hi : Nat} {w w' : World} (hb : Below w.heap.size w w') : Mid lo hi w w' := ⟨hb.os, hb.tape, hb.output, hb.size, fun k hk _ => hb.block k hk⟩
theorem Mid.of_grown {lo hi b : Nat} {w w' : World} (hg : w.grownBy w' (some b)) (h1 : lo ≤ b) (h2 : b < hi) : Mid lo hi w w' := ⟨hg.os, hg.tape, hg.output, hg.size, fun k hk hl => hg.block k hk (fun e => by cases e; omega)⟩
theorem Mid.set {lo hi b i : Nat} {w w' : World} {v : Value} (h : Mid lo hi w w') (h1 : lo ≤ b) (h2 : b < hi) : Mid lo hi w (w'.setCell ⟨b, i, none⟩ v) :=
  ⟨h.os, h.tape, h.output, by simpa using h.size, fun k hk hl => by rw [blk_oth (by omega)]; exact h.block k hk hl⟩
theorem Mid.toBelow {lo hi B : Nat} {w w' : World} (h : Mid lo hi w w') (hB : B ≤ lo) (hs : B ≤ w.heap.size) : Below B w w' := ⟨h.os, h.tape, h.output, h.size, fun k hk => h.block k (by omega) (.inl (by omega))⟩

def mkG (k0 n : Nat) : List Gn := (List.range n).map fun i => ⟨((k0 + 2 * i : Nat) : Int), sr.mark (k0 + 2 * i + 1)⟩
theorem mkG_len (k0 n : Nat) : (mkG k0 n).length = n := by simp [mkG]
theorem mkG_at {k0 n i : Nat} (h : i < n) : (mkG k0 n)[i]? = some ⟨((k0 + 2 * i : Nat) : Int), sr.mark (k0 + 2 * i + 1)⟩ := by simp [mkG, h]

theorem grown_set {w w' : World} {b : Nat} (h : w.grownBy w' (some b)) (i : Nat) (x : Value) : w.grownBy (w'.setCell ⟨b, i, none⟩ x) (some b) :=
  ⟨h.os, h.tape, h.output, by simpa using h.size, fun k hk hne => by
    rw [← h.block k hk hne]
    exact blk_oth (fun e => hne (by rw [e]))⟩
theorem grown_below {w w' w'' : World} {b : Nat} (h : w.grownBy w' (some b)) (hb : Below w'.heap.size w' w'') : w.grownBy w'' (some b) :=
  ⟨hb.os.trans h.os, hb.tape.trans h.tape, hb.output.trans h.output, Nat.le_trans h.size hb.size, fun k hk hne => (hb.block k (Nat.lt_of_lt_of_le hk h.size)).trans (h.block k hk hne)⟩
theorem grown_refl (w : World) (r : Option Nat) : w.grownBy w r := ⟨rfl, rfl, rfl, Nat.le_refl _, fun _ _ _ => rfl⟩

/-- The counter ahead of a profile. -/
def kAt (k0 : Nat) (ps : List Pr) (i : Nat) : Nat := k0 + ((ps.take i).map fun x => 2 + 2 * x.gens.length).sum
theorem kAt_succ {k0 : Nat} {ps : List Pr} {i : Nat} {x : Pr} (h : ps[i]? = some x) : kAt k0 ps (i + 1) = kAt k0 ps i + (2 + 2 * x.gens.length) := by
  unfold kAt
  rw [List.take_add_one, h]
  simp
  omega
theorem kAt_le (k0 : Nat) (ps : List Pr) : ∀ i, kAt k0 ps i ≤ k0 + 2 * wtP ps := by
  intro i
  have h1 : ∀ l : List Pr, ((l.map fun x => 2 + 2 * x.gens.length).sum) ≤ 2 * (l.length + (l.map wt1).sum) := by
    intro l
    induction l with
    | nil => simp
    | cons x l ih =>
      simp only [List.map_cons, List.sum_cons, List.length_cons]
      have : x.gens.length ≤ wt1 x := by unfold wt1 wtG; omega
      omega
  have h2 := h1 (ps.take i)
  have h3 : ∀ (l : List Nat) (k : Nat), (l.take k).sum ≤ l.sum := by
    intro l
    induction l with
    | nil => intro k; simp
    | cons x l ih => intro k; cases k with
      | zero => simp
      | succ k => simp only [List.take_succ_cons, List.sum_cons]; have := ih k; omega
  have h4 := h3 (ps.map wt1) i
  rw [← List.map_take] at h4
  have h5 : (ps.take i).length ≤ ps.length := by simp; omega
  unfold kAt wtP wtSP
  rw [List.take_length]
  omega

def mP (k0 : Nat) (ps : List Pr) (i : Nat) (x : Pr) : Pr := ⟨sr.mark (kAt k0 ps i), ((kAt k0 ps i + 1 : Nat) : Int), mkG (kAt k0 ps i + 2) x.gens.length⟩
def mkTo (k0 : Nat) (ps : List Pr) (k : Nat) : List Pr := ps.mapIdx fun i x => if i < k then mP k0 ps i x else x
def mkP (k0 : Nat) (ps : List Pr) : List Pr := mkTo k0 ps ps.length
theorem mkTo_len (k0 : Nat) (ps : List Pr) (k : Nat) : (mkTo k0 ps k).length = ps.length := by simp [mkTo]
theorem mkTo_at (k0 : Nat) (ps : List Pr) (k i : Nat) : (mkTo k0 ps k)[i]? = (ps[i]?).map fun x => if i < k then mP k0 ps i x else x := by simp [mkTo]
theorem mkTo_zero (k0 : Nat) (ps : List Pr) : mkTo k0 ps 0 = ps := by
  apply List.ext_getElem?
  intro i
  rw [mkTo_at]
  cases ps[i]? <;> simp
theorem mkTo_succ {k0 : Nat} {ps : List Pr} {k : Nat} {x : Pr} (h : ps[k]? = some x) : (mkTo k0 ps k).set k (mP k0 ps k x) = mkTo k0 ps (k + 1) := by
  have hk := (List.getElem?_eq_some_iff.1 h).1
  apply List.ext_getElem?
  intro i
  rw [List.getElem?_set, mkTo_at, mkTo_at]
  by_cases he : k = i
  · subst he
    rw [if_pos rfl, mkTo_len, if_pos hk, h]
    simp
  · rw [if_neg he]
    have e : (i < k + 1) ↔ (i < k) := by omega
    cases ps[i]? <;> simp [e]

/-! What is held of the marks. -/

end Go.Proofs.YtihjdggmmmlpkaaDoor.pf
