import Derived.Test.YtogakignaaoklaaNP
import Derived.Test.YtogakignaaoklaaDS
import Derived.Laws.OwnMore
namespace Go.Proofs.Ytogakignaaoklaa.dl
open Go.ChangeShapes Go.WideShapes Go.ChangeAt Go.RowKit Go.Deep
open bf (Bf Ap num)
set_option linter.unusedVariables false
set_option linter.unusedSimpArgs false

/-! ### A row of steps of which the last one's Data has grown -/

theorem szC_last (zs : List Sz) (z z' : Sz) (h : z'.x.k = z.x.k ∧ z'.x.p = z.x.p ∧ z'.x.n = z.x.n) : (szC (zs ++ [z])).set (zs.length * 4 + 3) (.slice z'.a z'.x.d.length z'.c) = szC (zs ++ [z']) := by
  rw [szC_app, szC_app, List.set_append_right _ _ (by rw [szC_len]; omega), szC_len, show zs.length * 4 + 3 - zs.length * 4 = 3 by omega]
  unfold szV
  rw [h.1, h.2.1, h.2.2]
  rfl

/-- What else lies in blocks of its own is as it was; the last one's Data is another. -/
theorem RowS.last {base : Nat} {w w1 : World} {G cap : Nat} {zs : List Sz} {z z' : Sz} (h : RowS base w (.slice (some ⟨G, 0, none⟩) (zs ++ [z]).length cap) (zs ++ [z])) (hf : z'.x.k = z.x.k ∧ z'.x.p = z.x.p ∧ z'.x.n = z.x.n)
    (hs : w.heap.size ≤ w1.heap.size) (hG : w1.heap[G]? = w.heap[G]?) (hoth : ∀ (i : Nat) (y : Sz) (g : Nat), zs[i]? = some y → y.x.d ≠ [] → y.a = some ⟨g, 0, none⟩ → w1.heap[g]? = w.heap[g]?)
    (g' : Nat) (ha : z'.a = some ⟨g', 0, none⟩) (ho : OwC w1 g' z'.c z'.x.d) (hb : base ≤ g') (hgG : g' ≠ G) (hne : ∀ (i : Nat) (y : Sz), zs[i]? = some y → y.x.d ≠ [] → y.a ≠ some ⟨g', 0, none⟩) :
    RowS base (w1.setCell ⟨G, zs.length * 4 + 3, none⟩ (.slice z'.a z'.x.d.length z'.c)) (.slice (some ⟨G, 0, none⟩) (zs ++ [z']).length cap) (zs ++ [z']) := by
  have hlen : (zs ++ [z']).length = (zs ++ [z]).length := by simp
  have own1 : w1.ownsRow base 41 4 (.slice (some ⟨G, 0, none⟩) (zs ++ [z]).length cap) (zs ++ [z]).length (szC (zs ++ [z])) := by
    refine ⟨h.own.1, ?_⟩
    rcases h.own.2 with ⟨e, _⟩ | ⟨g2, cap2, cur, e, h1, h2, h3⟩
    · cases e
    · cases e
      exact .inr ⟨_, _, cur, rfl, h1, hG.trans h2, h3⟩
  have at_ : ∀ (i : Nat) (y : Sz), (zs ++ [z'])[i]? = some y → (i < zs.length ∧ zs[i]? = some y) ∨ (i = zs.length ∧ y = z') := fun i y hy => by
    rcases Nat.lt_or_ge i zs.length with hi | hi
    · rw [List.getElem?_append_left hi] at hy
      exact .inl ⟨hi, hy⟩
    · rw [List.getElem?_append_right hi] at hy
      have : i - zs.length = 0 := by have := (List.getElem?_eq_some_iff.1 hy).1; simp at this; omega
      rw [this] at hy
      exact .inr ⟨by omega, by simpa using hy.symm⟩
  have old : ∀ (i : Nat) (y : Sz), zs[i]? = some y → (zs ++ [z])[i]? = some y := fun i y hy => by rw [List.getElem?_append_left (List.getElem?_eq_some_iff.1 hy).1]; exact hy
  have keep : ∀ {g cc : Nat} {d : List UInt8}, OwC w1 g cc d → g ≠ G → OwC (w1.setCell ⟨G, zs.length * 4 + 3, none⟩ (.slice z'.a z'.x.d.length z'.c)) g cc d := fun {g cc d} hb hg => hb.kept (by simp) (blk_oth hg)
  refine ⟨?_, ⟨G, cap, rfl, fun e => by simp at e⟩, fun i y hy hd => ?_, fun i j y y' g hij hy hy' hd hd' he => ?_⟩
  · have := (own1.stored (zs.length * 4 + 3) (.slice z'.a z'.x.d.length z'.c)).1
    rw [szC_last zs z z' hf] at this
    rw [hlen]
    exact this
  · rcases at_ i y hy with ⟨_, hy1⟩ | ⟨_, rfl⟩
    · obtain ⟨g, e, ho1, hbg⟩ := h.dat i y (old i y hy1) hd
      exact ⟨g, e, keep (ho1.kept hs (hoth i y g hy1 hd e)) (h.apart ho1 hd), hbg⟩
    · exact ⟨g', ha, keep ho hgG, hb⟩
  · rcases at_ i y hy with ⟨hi, hy1⟩ | ⟨hi, rfl⟩
    · rcases at_ j y' hy' with ⟨_, hy2⟩ | ⟨_, rfl⟩
      · exact h.inj i j y y' g hij (old i y hy1) (old j y' hy2) hd hd' he
      · rw [ha]
        intro e2
        have := hne i y hy1 hd
        rw [he] at this
        exact this e2.symm
    · rcases at_ j y' hy' with ⟨hj, _⟩ | ⟨hj, _⟩ <;> omega

end Go.Proofs.Ytogakignaaoklaa.dl
