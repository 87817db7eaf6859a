import Derived.Test.YtoaccaiddifliaaDoorPF
import Derived.Test.YtoaccaiddifliaaDoorPC
namespace Go.Proofs.YtoaccaiddifliaaDoor.pf
open Go.ChangeShapes Go.WideShapes Go.ChangeAt Go.RowKit Go.Deep Go.Maps
set_option linter.unusedVariables false
set_option linter.unusedSimpArgs false

/-! ### Profiles: one of a list changed, the program -/

/-- A list that is handed back, in blocks of its own. -/
def ResP (lo : Nat) (w : World) (v : Value) (ps : List Pr) : Prop := ∃ b c gs, v = .slice (some ⟨b, 0, none⟩) ps.length c ∧ OwP lo w.heap.size w b gs ps

theorem OwP.lower {lo lo' hi : Nat} {w : World} {b : Nat} {gs : Nat → Nat} {ps : List Pr} (h : OwP lo hi w b gs ps) (hl : lo' ≤ lo) : OwP lo' hi w b gs ps :=
  ⟨Nat.le_trans hl h.blo, h.bhi, h.hi_le, h.row, h.ent, fun i hi => ⟨Nat.le_trans hl (h.rng i hi).1, (h.rng i hi).2⟩, h.inj⟩
theorem OwP.upper {lo hi hi' : Nat} {w : World} {b : Nat} {gs : Nat → Nat} {ps : List Pr} (h : OwP lo hi w b gs ps) (hl : hi ≤ hi') (hs : hi' ≤ w.heap.size) : OwP lo hi' w b gs ps :=
  ⟨h.blo, Nat.lt_of_lt_of_le h.bhi hl, hs, h.row, h.ent, fun i hi => ⟨(h.rng i hi).1, Nat.lt_of_lt_of_le (h.rng i hi).2.1 hl, (h.rng i hi).2.2⟩, h.inj⟩
theorem resP_of {lo : Nat} {w : World} {v : Value} {b c : Nat} {gs : Nat → Nat} {ps : List Pr} (h : OwP lo w.heap.size w b gs ps) (hv : v = .slice (some ⟨b, 0, none⟩) ps.length c) : ResP lo w v ps := ⟨b, c, gs, hv, h⟩
theorem resP_nil {lo : Nat} {w : World} (hl : lo ≤ w.heap.size) : ResP lo (w.alloc (.cells #[] 40)) (.slice (some ⟨w.heap.size, 0, none⟩) 0 0) [] := by
  refine ⟨w.heap.size, 0, fun _ => 0, rfl, ⟨hl, by simp, Nat.le_refl _, ⟨0, fun _ => undef, Nat.le_refl _, ⟨#[], blk_alloc_new _ _, rfl, fun i hi => by omega⟩⟩, fun i x h => by simp at h, fun i h => by simp at h, fun i j _ h => by simp at h⟩⟩

noncomputable def chP (F : Pr → Pr × Bool) (ps : List Pr) (q : List UInt8) : List Pr × Bool :=
  if psB ps = true then if fIx ps q < 0 then (ps, false) else (ps.set (fIx ps q).toNat (F (ps[(fIx ps q).toNat]?.getD default)).1, (F (ps[(fIx ps q).toNat]?.getD default)).2) else ([], false)
theorem chP_bad {F : Pr → Pr × Bool} {ps : List Pr} {q : List UInt8} (h : psB ps = false) : chP F ps q = ([], false) := by unfold chP; rw [if_neg (by rw [h]; simp)]
theorem chP_not {F : Pr → Pr × Bool} {ps : List Pr} {q : List UInt8} (h : psB ps = true) (hf : fIx ps q = -1) : chP F ps q = (ps, false) := by unfold chP; rw [if_pos h, if_pos (by omega)]
theorem chP_at {F : Pr → Pr × Bool} {ps : List Pr} {q : List UInt8} {i : Nat} {x : Pr} (h : psB ps = true) (hf : fIx ps q = (i : Int)) (hx : ps[i]? = some x) : chP F ps q = (ps.set i (F x).1, (F x).2) := by
  unfold chP
  rw [if_pos h, if_neg (by omega), hf, Int.toNat_natCast, hx]
  rfl
theorem set_self {ps : List Pr} {i : Nat} {x : Pr} (h : ps[i]? = some x) : ps.set i x = ps := by
  apply List.ext_getElem?
  intro j
  rw [List.getElem?_set]
  by_cases he : i = j
  · subst he
    rw [if_pos rfl, if_pos (List.getElem?_eq_some_iff.1 h).1, h]
  · rw [if_neg he]

/-- A step back. -/
def sb (x : Pr) : Pr × Bool := if gIx x.gens x.now < 1 then (x, false) else (⟨x.name, (x.gens[(gIx x.gens x.now).toNat - 1]?.getD default).n, x.gens⟩, true)

theorem OwP.blk_lt {lo hi : Nat} {w : World} {b : Nat} {gs : Nat → Nat} {ps : List Pr} (h : OwP lo hi w b gs ps) : b < w.heap.size := Nat.lt_of_lt_of_le h.bhi h.hi_le
theorem OwP.upd_now {lo hi : Nat} {w w' : World} {b : Nat} {gs : Nat → Nat} {ps : List Pr} {k : Nat} {x : Pr} {z : Int} (h : OwP lo hi w b gs ps) (hx : ps[k]? = some x) (hb : Below w.heap.size w w') : OwP lo w'.heap.size (w'.setCell ⟨b, k * 3 + 1, none⟩ (.int .i64 z)) b gs (ps.set k ⟨x.name, z, x.gens⟩) := by
  have h' := h.below hb
  obtain ⟨c, e0, e1, e2, e3, e4⟩ := h'.ent k x hx
  obtain ⟨N, f, hN, hr⟩ := h'.row
  have hk := (List.getElem?_eq_some_iff.1 hx).1
  have hup := h'.upd (w' := w'.setCell ⟨b, k * 3 + 1, none⟩ (.int .i64 z)) (hi' := w'.heap.size) (g' := gs k) (c' := c) (x' := ⟨x.name, z, x.gens⟩) hx h'.hi_le (by simp)
    (fun j _ _ h3 _ => blk_oth h3) ⟨N, _, hN, hr.set (k * 3 + 1) _⟩ (fun o ho => oth (by omega)) ((oth (by omega)).trans e1) (World.cell?_setCell_same _ _ _ e2) ((oth (by omega)).trans e3) e0
    (e4.kept (blk_oth (h'.rng k hk).2.2)) (h'.rng k hk).1 (Nat.lt_of_lt_of_le (h'.rng k hk).2.1 h'.hi_le) (fun j hj hjk => by
      rcases Nat.lt_or_ge j k with h1 | h1
      · exact h'.inj j k h1 hk
      · exact fun e => h'.inj k j (by omega) hj e.symm)
  have hgs : (fun j => if j = k then gs k else gs j) = gs := by
    funext j
    by_cases hj : j = k
    · rw [if_pos hj, hj]
    · rw [if_neg hj]
  rw [hgs] at hup
  exact hup

end Go.Proofs.YtoaccaiddifliaaDoor.pf
