import Derived.Test.YthklplfpnciodaaGreatDoorFU
import Derived.Test.YthklplfpnciodaaGreatDoorFT
import Derived.Test.YthklplfpnciodaaGreatDoorST
import Derived.Test.YthklplfpnciodaaGreatDoorXO
namespace Go.Proofs.YthklplfpnciodaaGreatDoor.ex
open Go.ChangeShapes Go.WideShapes Go.ChangeAt Go.RowKit Go.Deep
set_option linter.unusedVariables false
set_option linter.unusedSimpArgs false

def FMA (xs : List (List UInt8)) : List ByteArray := xs.map fun x => ⟨x.toArray⟩

theorem StrR.ssF {w : World} {v : Value} {xs : List (List UInt8)} (h : StrR w v xs) : ∃ a c, v = .slice a xs.length c ∧ st.Ss w a xs.length (FMA xs) := by
  obtain ⟨bb, off, cap, rfl, _, _, hc⟩ := h
  refine ⟨_, cap, rfl, .inr ⟨bb, off, rfl, fun i hi => ?_⟩⟩
  rw [hc i _ (xAt_some hi), strL]
  congr 2
  simp [st.atS, FMA, xAt, hi]

theorem own_marks {base : Nat} {w : World} {v : Value} {xs : List (List UInt8)} (h : w.ownsRow base 9 1 v xs.length (xs.map strL)) (hv : v ≠ .slice none 0 0) : ∃ g c, v = .slice (some ⟨g, 0, none⟩) xs.length c ∧ base ≤ g ∧ g < w.heap.size ∧ sr.MkR w g 0 xs.length 1 0 ∧ st.Ss w (some ⟨g, 0, none⟩) xs.length (FMA xs) := by
  obtain ⟨a, c, e, hs⟩ := (StrR.own' h hv).ssF
  rcases h.2 with ⟨e2, _⟩ | ⟨g, cap, cur, e2, hb, hg, hc, hm, hz, ht⟩
  · exact absurd e2 hv
  · rw [e] at e2
    have e3 : a = some ⟨g, 0, none⟩ := by injection e2
    subst e3
    refine ⟨g, c, e, hb, (Array.getElem?_eq_some_iff.1 hg).1, ⟨⟨cur, hg, by omega⟩, fun j hj => by omega⟩, hs⟩

theorem mk_grown {w w' : World} {g off n k i b : Nat} (h : sr.MkR w g off n k i) (hg : w.grownBy w' (some b)) (hne : g ≠ b) : sr.MkR w' g off n k i := by
  obtain ⟨⟨cs, hc, hs⟩, hm⟩ := h
  have hlt := (Array.getElem?_eq_some_iff.1 hc).1
  have e := hg.block g hlt (by simp [hne])
  exact ⟨⟨cs, e.trans hc, hs⟩, fun j hj => (World.cell?_of_block e).trans (hm j hj)⟩

theorem ss_grown {w w' : World} {g n b : Nat} {l : List ByteArray} (h : st.Ss w (some ⟨g, 0, none⟩) n l) (hg : w.grownBy w' (some b)) (hne : g ≠ b) : st.Ss w' (some ⟨g, 0, none⟩) n l := by
  rcases h with h | ⟨g', off, e, hc⟩
  · exact .inl h
  · cases e
    exact .inr ⟨g, 0, rfl, fun i hi => (World.cell?_of_block (hg.block g (World.block_lt_of_cell? _ _ (hc i hi)) (by simp [hne]))).trans (hc i hi)⟩

theorem grow_below {B b : Nat} {w w1 w2 : World} (h : Below B w w1) (hg : w1.grownBy w2 (some b)) (hB : B ≤ w1.heap.size) (hb : B ≤ b) : Below B w w2 := h.grown hg hB (fun k hk => by cases hk; exact hb)

theorem row_wr {w w' : World} {b n : Nat} {f : Nat → Value} (h : w.rowIs b 38 (n * 4) f) (hb : Below w.heap.size w w') : WrR w' b n := by
  obtain ⟨c, hc, hs, _⟩ := h
  exact ⟨c, (hb.block b (Array.getElem?_eq_some_iff.1 hc).1).trans hc, by omega⟩

theorem fold_len : ∀ (l o : List (List UInt8)), (l.foldl fadd o).length ≤ o.length + l.length
  | [], o => by simp
  | y :: l, o => by
    have h1 := fold_len l (fadd o y)
    have h2 := (fadd_len y o).2
    simp only [List.foldl_cons, List.length_cons]
    omega

theorem sum_flat {f : Tr → List (List UInt8)} {g : Tr → Nat} : ∀ (l : List Tr), (∀ q ∈ l, (f q).length ≤ g q) → (l.flatMap f).length ≤ (l.map g).sum
  | [], _ => by simp
  | q :: l, h => by
    have h1 := h q (by simp)
    have h2 := sum_flat l (fun x hx => h x (by simp [hx]))
    simp only [List.flatMap_cons, List.length_append, List.map_cons, List.sum_cons]
    omega

theorem frees_wT : ∀ (r : Nat) (t : Tr) (b : List (List UInt8)), (freesT r t b).length ≤ wT r t
  | 0, _, _ => by simp [freesT]
  | r + 1, .mk k t n ps, b => by
    rw [freesT, wT]
    split
    · split <;> simp
      omega
    · have := sum_flat (g := wT r) ps (fun q _ => frees_wT r q (if q.kind = 7 then b else innT k t n ps b))
      omega

theorem frees_few (E : Nat → Ex) (n : Nat) : (frees E n).length ≤ 24000 := by
  unfold frees
  split
  · next hok =>
    simp only [okAll, Bool.and_eq_true, decide_eq_true_eq] at hok
    obtain ⟨⟨hn0, hn1⟩, hk, hok1⟩ := hok
    have h1 := fold_len (freesT 61 (treeP E 61 0) []) []
    have h2 := frees_wT 61 (treeP E 61 0) []
    have h3 := wT_le hn1 61 0 n hok1 hn0 (by omega)
    simp only [List.length_nil] at h1
    omega
  · simp

theorem laid_skipF {P : Program} {W : World} {x : String × DataW Unit} {rest : List (String × DataW Unit)} {ps : List MemPlace} (h : DataW.LaidVars P W (x :: rest) ps) : ∃ q, DataW.LaidVars P W rest q := by
  obtain ⟨g, t, cs, fuel, p, q, _, _, _, _, hr, _⟩ := h
  exact ⟨q, hr⟩

end Go.Proofs.YthklplfpnciodaaGreatDoor.ex
